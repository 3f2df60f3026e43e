/- An argument that is a patch, opened. The contract of the laws' Small. The laws are awake: a line at the top. -/
import Derived.Deep.Slices
import Derived.Deep.Fields
import Derived.Test.YtgjcblginkdinaaGreatDoorZ0
import Derived.Test.YtgjcblginkdinaaGreatDoorZ19
import Derived.Test.YtgjcblginkdinaaGreatDoorZ42
import Derived.Test.YtgjcblginkdinaaGreatDoorZ43
import Derived.Test.YtgjcblginkdinaaGreatDoorZ46
set_option linter.unusedVariables false
namespace Go.Proofs.YtgjcblginkdinaaGreatDoor
open Go.ChangeShapes Go.WideShapes Go.ChangeAt Go.RowKit Go.Deep

theorem wfI_of {n : Int} (h : (Lit.int .i64 n).wf = true) : wfI n := by
  simp only [Lit.wf, Bool.and_eq_true, decide_eq_true_eq] at h
  exact h

theorem open_rd {H : Type} {enc : TypeId × Value → H} {P : Program} {W : World} {t e : TypeId} {fuel len : Nat} {a0 : Option Addr} {cap : Nat} {x : DataW H × List MemPlace}
    (ht : P.underlying t = some (.slice e)) (he : P.underlying e = some .string) (hc : P.cellsOf e = 1) (hb : 0 < P.bytesOf e) (hf : DataW.trod enc P W 0 (fun _ => true) true fuel t [.slice a0 len cap] = some x)
    (hw : ∀ n ∈ x.1.weights P t, n ≤ reachBytes) :
    ∃ xs : List ByteArray, Reads W (.slice a0 len cap) xs ∧ xs.length ≤ 140737488355328 ∧ ∀ x ∈ xs, x.size ≤ 140737488355328 := by
  have hreach : reachBytes ≤ 140737488355328 := by decide
  rcases open_strings ht he hc hf with ⟨hcs, hx⟩ | ⟨a, len', cap', ss, hcs, _, hl, hm, hz, hx, hcell, hsz⟩
  · simp at hcs
    obtain ⟨rfl, rfl, rfl⟩ := hcs
    exact ⟨[], .inl ⟨rfl, none, 0, rfl⟩, by simp, by simp⟩
  · simp at hcs
    obtain ⟨rfl, rfl, rfl⟩ := hcs
    have hd : x.1 = .slice (strs (ss.take len)) (strs (ss.drop len)) := by rw [hx]
    rw [hd] at hw
    simp only [if_true] at hz
    have hxl : (ss.take len).length = len := by simp; omega
    have hlen : len ≤ 140737488355328 := by
      have h1 := hw (((strs (H := H) (ss.take len)).length + (strs (H := H) (ss.drop len)).length) * P.bytesOf e) (by simp [DataW.weights, ht])
      have h2 : len ≤ (strs (H := H) (ss.take len)).length + (strs (H := H) (ss.drop len)).length := by simp [strs]; omega
      have h3 := Nat.le_mul_of_pos_right ((strs (H := H) (ss.take len)).length + (strs (H := H) (ss.drop len)).length) hb
      omega
    refine ⟨ss.take len, ?_, by omega, fun x hx => ?_⟩
    · by_cases h0 : len = 0
      · subst h0
        exact .inl ⟨by simp, _, cap, rfl⟩
      · obtain ⟨b, off, spot⟩ := a
        have hspot : spot = none := by simpa [Addr.add] using World.cell?_spot (hcell 0 (by omega))
        subst hspot
        refine .inr ⟨fun e => h0 (by rw [← hxl, e]; rfl), b, off, cap, by rw [hxl], by omega, by unfold maxLen at hm; omega, cell_lt (hcell 0 (by omega)), fun j x hx => ?_⟩
        have hj : j < len := by
          have := (List.getElem?_eq_some_iff.1 hx).1
          omega
        have hX' : ss.getD j ByteArray.empty = x := by
          rw [List.getElem?_take_of_lt hj] at hx
          simp [List.getD, hx]
        have hcj := hcell j (by omega)
        rw [hX'] at hcj
        have ha : (⟨b, off, none⟩ : Addr).add j = ⟨b, off + j, none⟩ := by unfold Addr.add; split <;> simp_all
        rw [← ha]
        exact hcj
    · have hmem : (DataW.lit (H := H) (.string x.data.toList)) ∈ strs (H := H) (ss.take len) := List.mem_map.2 ⟨x, hx, rfl⟩
      have h1 := hw x.data.toList.length (by
        simp only [DataW.weights, ht, List.mem_cons, List.mem_append]
        exact .inr (.inl (mem_weightsAll (by simp [DataW.weights]) hmem)))
      have h2 : x.data.toList.length = x.size := Array.length_toList
      omega

set_option maxRecDepth 100000 in
theorem open_rf {H : Type} {enc : TypeId × Value → H} {W : World} {fuel : Nat} {cs : List Value} {x : DataW H × List MemPlace} (h : DataW.trod enc Tryz.prog W 0 (fun _ => true) true fuel 54 cs = some x) :
    ∃ r : Rf, cs = [.int .i64 r.at_, .int .i64 r.n] ∧ r.wf := by
  have hu := Tryz.underlying54
  have hc2 : Tryz.prog.cellsOf 54 = 2 := by kernel_rfl
  have ci : Tryz.prog.cellsOf 3 = 1 := by kernel_rfl
  obtain ⟨xs, n, _, hx, hlen, hxl, hf⟩ := DataW.trod_struct hu h
  rw [hc2] at hlen
  obtain ⟨v0, v1, rfl⟩ : ∃ v0 v1, cs = [v0, v1] := by
    match cs, hlen with
    | [v0, v1], _ => exact ⟨v0, v1, rfl⟩
  obtain ⟨y0, y1, rfl⟩ : ∃ y0 y1, xs = [y0, y1] := by
    match xs, hxl with
    | [y0, y1], _ => exact ⟨y0, y1, rfl⟩
  have f0 : DataW.trod enc Tryz.prog W 0 (fun _ => true) true n 3 (([v0, v1].drop 0).take (Tryz.prog.cellsOf 3)) = [y0, y1][0]? := hf 0 _ rfl
  have f1 : DataW.trod enc Tryz.prog W 0 (fun _ => true) true n 3 (([v0, v1].drop 1).take (Tryz.prog.cellsOf 3)) = [y0, y1][1]? := hf 1 _ rfl
  rw [ci] at f0 f1
  obtain ⟨A, e0, -, w0⟩ := DataW.trod_int (k := .i64) (x := y0) Tryz.underlying3 (by simpa using f0)
  obtain ⟨C, e1, -, w1⟩ := DataW.trod_int (k := .i64) (x := y1) Tryz.underlying3 (by simpa using f1)
  refine ⟨⟨A, C⟩, ?_, wfI_of w0, wfI_of w1⟩
  have a0 : v0 = .int .i64 A := by simpa using e0
  have a1 : v1 = .int .i64 C := by simpa using e1
  rw [a0, a1]

set_option maxRecDepth 100000 in
theorem open_op {H : Type} {enc : TypeId × Value → H} {W : World} {fuel : Nat} {cs : List Value} {x : DataW H × List MemPlace} (h : DataW.trod enc Tryz.prog W 0 (fun _ => true) true fuel 56 cs = some x) (hw : ∀ n ∈ x.1.weights Tryz.prog 56, n ≤ reachBytes) :
    ∃ q : Opp × Value, cs = [.int .i64 q.1.kind, .int .i64 q.1.a.at_, .int .i64 q.1.a.n, .int .i64 q.1.b.at_, .int .i64 q.1.b.n, q.2] ∧ Reads W q.2 q.1.lines ∧ q.1.wf ∧ q.1.lines.length ≤ 140737488355328 ∧ ∀ x ∈ q.1.lines, x.size ≤ 140737488355328 := by
  have hu := Tryz.underlying56
  have hc6 : Tryz.prog.cellsOf 56 = 6 := by kernel_rfl
  have ci : Tryz.prog.cellsOf 3 = 1 := by kernel_rfl
  have cr : Tryz.prog.cellsOf 54 = 2 := by kernel_rfl
  have cl : Tryz.prog.cellsOf 22 = 1 := by kernel_rfl
  obtain ⟨xs, n, _, hx, hlen, hxl, hf⟩ := DataW.trod_struct hu h
  rw [hc6] at hlen
  obtain ⟨v0, v1, v2, v3, v4, v5, rfl⟩ : ∃ v0 v1 v2 v3 v4 v5, cs = [v0, v1, v2, v3, v4, v5] := by
    match cs, hlen with
    | [v0, v1, v2, v3, v4, v5], _ => exact ⟨v0, v1, v2, v3, v4, v5, rfl⟩
  obtain ⟨y0, y1, y2, y3, rfl⟩ : ∃ y0 y1 y2 y3, xs = [y0, y1, y2, y3] := by
    match xs, hxl with
    | [y0, y1, y2, y3], _ => exact ⟨y0, y1, y2, y3, rfl⟩
  have f0 : DataW.trod enc Tryz.prog W 0 (fun _ => true) true n 3 (([v0, v1, v2, v3, v4, v5].drop 0).take (Tryz.prog.cellsOf 3)) = [y0, y1, y2, y3][0]? := hf 0 _ rfl
  have f1 : DataW.trod enc Tryz.prog W 0 (fun _ => true) true n 54 (([v0, v1, v2, v3, v4, v5].drop 1).take (Tryz.prog.cellsOf 54)) = [y0, y1, y2, y3][1]? := hf 1 _ rfl
  have f2 : DataW.trod enc Tryz.prog W 0 (fun _ => true) true n 54 (([v0, v1, v2, v3, v4, v5].drop 3).take (Tryz.prog.cellsOf 54)) = [y0, y1, y2, y3][2]? := hf 2 _ rfl
  have f3 : DataW.trod enc Tryz.prog W 0 (fun _ => true) true n 22 (([v0, v1, v2, v3, v4, v5].drop 5).take (Tryz.prog.cellsOf 22)) = [y0, y1, y2, y3][3]? := hf 3 _ rfl
  rw [ci] at f0
  rw [cr] at f1 f2
  rw [cl] at f3
  obtain ⟨K, e0, -, w0⟩ := DataW.trod_int (k := .i64) (x := y0) Tryz.underlying3 (by simpa using f0)
  have f1' : DataW.trod enc Tryz.prog W 0 (fun _ => true) true n 54 [v1, v2] = some y1 := by simpa using f1
  have f2' : DataW.trod enc Tryz.prog W 0 (fun _ => true) true n 54 [v3, v4] = some y2 := by simpa using f2
  have f3' : DataW.trod enc Tryz.prog W 0 (fun _ => true) true n 22 [v5] = some y3 := by simpa using f3
  obtain ⟨r, e1, wr⟩ := open_rf f1'
  obtain ⟨s, e2, ws⟩ := open_rf f2'
  have ev : ∃ ao l c, v5 = .slice ao l c := by
    rcases open_slice Tryz.underlying22 f3' with ⟨e, _⟩ | ⟨a, l, c, _, _, _, _, e, _⟩
    · simp at e; exact ⟨_, _, _, e⟩
    · simp at e; exact ⟨_, _, _, e⟩
  obtain ⟨ao, l, c, rfl⟩ := ev
  have hw3 : ∀ n ∈ y3.1.weights Tryz.prog 22, n ≤ reachBytes := by
    intro k hk
    refine hw k ?_
    rw [hx]
    simp only [List.map_cons, List.map_nil, DataW.weights, hu]
    exact DataW.weights_mem_each (j := 3) rfl rfl k hk
  obtain ⟨ys, hs, hl, hz⟩ := open_rd Tryz.underlying22 Tryz.underlying9 (by kernel_rfl) (of_decide_eq_true (by kernel_rfl)) f3' hw3
  refine ⟨(⟨K, r, s, ys⟩, .slice ao l c), ?_, hs, ⟨wfI_of w0, wr, ws⟩, hl, hz⟩
  have a0 : v0 = .int .i64 K := by simpa using e0
  simp only [List.cons.injEq, and_true] at e1 e2
  rw [a0, e1.1, e1.2, e2.1, e2.2]

set_option maxRecDepth 100000 in
theorem open_opsA {H : Type} {enc : TypeId × Value → H} {W : World} {fuel len cap : Nat} {a0 : Option Addr} {x : DataW H × List MemPlace} (hf : DataW.trod enc Tryz.prog W 0 (fun _ => true) true fuel 23 [.slice a0 len cap] = some x)
    (hw : ∀ n ∈ x.1.weights Tryz.prog 23, n ≤ reachBytes) :
    ∃ os : List Opp, OReads W (.slice a0 len cap) os ∧ os.length ≤ 140737488355328 ∧ ∀ o ∈ os, o.wf ∧ o.lines.length ≤ 140737488355328 ∧ ∀ x ∈ o.lines, x.size ≤ 140737488355328 := by
  have hreach : reachBytes ≤ 140737488355328 := by decide
  have ht := Tryz.underlying23
  have hc6 : Tryz.prog.cellsOf 56 = 6 := by kernel_rfl
  have hby : 0 < Tryz.prog.bytesOf 56 := of_decide_eq_true (by kernel_rfl)
  rcases open_slice ht hf with ⟨hcs, hx⟩ | ⟨a, len', cap', m, n, D, Pl, hcs, _, hl, hm, hmm, hx, hi⟩
  · simp at hcs
    obtain ⟨rfl, rfl, rfl⟩ := hcs
    exact ⟨[], .inl ⟨rfl, _, _, rfl⟩, by simp, by simp⟩
  · simp at hcs
    obtain ⟨rfl, rfl, rfl⟩ := hcs
    have hd : x.1 = .slice ((List.range len).map D) ((List.range (m - len)).map fun j => D (len + j)) := by rw [hx]
    rw [hd] at hw
    simp only [if_true] at hmm
    subst hmm
    rw [hc6] at hi
    have hwd : ∀ i, i < len → ∀ k ∈ (D i).weights Tryz.prog 56, k ≤ reachBytes := by
      intro i hil k hk
      refine hw k ?_
      simp only [DataW.weights, ht, List.mem_cons, List.mem_append]
      exact .inr (.inl (mem_weightsAll hk (List.mem_map.2 ⟨i, List.mem_range.2 hil, rfl⟩)))
    have hel : ∀ i, i < len → ∃ q : Opp × Value, (W.cell? (a.add (i * 6)) = some (.int .i64 q.1.kind) ∧ W.cell? ((a.add (i * 6)).add 1) = some (.int .i64 q.1.a.at_) ∧ W.cell? ((a.add (i * 6)).add 2) = some (.int .i64 q.1.a.n) ∧ W.cell? ((a.add (i * 6)).add 3) = some (.int .i64 q.1.b.at_) ∧ W.cell? ((a.add (i * 6)).add 4) = some (.int .i64 q.1.b.n) ∧ W.cell? ((a.add (i * 6)).add 5) = some q.2) ∧
        Reads W q.2 q.1.lines ∧ q.1.wf ∧ q.1.lines.length ≤ 140737488355328 ∧ ∀ x ∈ q.1.lines, x.size ≤ 140737488355328 := by
      intro i hil
      obtain ⟨cs', hc, ht'⟩ := hi i (by omega)
      obtain ⟨q, rfl, hs⟩ := open_op ht' (hwd i hil)
      obtain ⟨_, _, hat⟩ := World.cells?_some hc
      have h0 := hat 0 (by omega)
      have h1 := hat 1 (by omega)
      have h2 := hat 2 (by omega)
      have h3 := hat 3 (by omega)
      have h4 := hat 4 (by omega)
      have h5 := hat 5 (by omega)
      rw [show (a.add (i * 6)).add 0 = a.add (i * 6) by rw [Go.Deep.add_add]; rfl] at h0
      exact ⟨q, ⟨h0, h1, h2, h3, h4, h5⟩, hs⟩
    obtain ⟨ps, hpl, hps⟩ := list_of _ len hel
    have hlen : len ≤ 140737488355328 := by
      have h1 := hw _ (by simp only [DataW.weights, ht]; exact List.mem_cons_self)
      have h2 : len ≤ ((List.range len).map D).length + ((List.range (m - len)).map fun j => D (len + j)).length := by simp
      have h3 := Nat.le_mul_of_pos_right (((List.range len).map D).length + ((List.range (m - len)).map fun j => D (len + j)).length) hby
      omega
    refine ⟨ps.map (·.1), ?_, by rw [List.length_map]; omega, fun k hk => ?_⟩
    · by_cases e : ps = []
      · left
        subst e
        simp at hpl
        subst hpl
        exact ⟨rfl, _, _, rfl⟩
      · right
        have hpos : 0 < len := by
          rcases Nat.eq_zero_or_pos len with h | h
          · exact absurd (List.length_eq_zero_iff.1 (by omega)) e
          · exact h
        obtain ⟨b, off, spot⟩ := a
        have h00 := (hps 0 (ps[0]'(by omega)) (by simp)).1.1
        have hspot : spot = none := by simpa [Addr.add] using World.cell?_spot h00
        subst hspot
        have hadd : ∀ (o k : Nat), (⟨b, o, none⟩ : Addr).add k = ⟨b, o + k, none⟩ := fun o k => Addr.add_lit ..
        refine ⟨by simpa using e, b, off, m, by rw [List.length_map, hpl], by rw [List.length_map]; omega, by unfold maxLen at hm; omega, ?_, fun j z hz => ?_⟩
        · rw [hadd] at h00
          exact cell_lt (o := off + 0 * 6) h00
        · rw [List.getElem?_map] at hz
          obtain ⟨q, hq, rfl⟩ := Option.map_eq_some_iff.1 hz
          obtain ⟨⟨c0, c1, c2, c3, c4, c5⟩, hs, _⟩ := hps j q hq
          rw [hadd] at c0
          rw [hadd, hadd] at c1 c2 c3 c4 c5
          exact ⟨q.2, c0, c1, c2, c3, c4, c5, hs⟩
    · obtain ⟨q, hq, rfl⟩ := List.mem_map.1 hk
      obtain ⟨j, hj, e⟩ := List.mem_iff_getElem.1 hq
      exact (hps j q (by rw [← e]; simp)).2.2

set_option maxRecDepth 100000 in
theorem open_ptArg {H : Type} {enc : TypeId × Value → H} {W : World} {b0 : Nat} {r : Reach} {v : Value} {d : DataW H} {pl : List MemPlace}
    (hval : Value.okWide Tryz.prog W r b0 25 v) (h : DataW.Trod enc Tryz.prog W 0 (fun _ => true) true 25 v d pl) (hw : ∀ n ∈ d.weights Tryz.prog 25, n ≤ reachBytes) :
    ∃ (p : Pt) (dv ov : Value), v = ptV p.note dv ov ∧ PReads W p.note dv ov p ∧ p.fine ∧ p.deps.length ≤ 140737488355328 ∧ p.ops.length ≤ 140737488355328 ∧ ∀ o ∈ p.ops, o.lines.length ≤ 140737488355328 := by
  have hreach : reachBytes ≤ 140737488355328 := by decide
  obtain ⟨cs, rfl, -⟩ := okWide_struct Tryz.underlying25 hval
  obtain ⟨fuel, hf0⟩ := h
  have hu := Tryz.underlying25
  have hc3 : Tryz.prog.cellsOf 25 = 3 := by kernel_rfl
  have cs1 : Tryz.prog.cellsOf 9 = 1 := by kernel_rfl
  have cl : Tryz.prog.cellsOf 22 = 1 := by kernel_rfl
  have co : Tryz.prog.cellsOf 23 = 1 := by kernel_rfl
  obtain ⟨xs, n, _, hx, hlen, hxl, hf⟩ := DataW.trod_struct hu hf0
  rw [hc3] at hlen
  obtain ⟨v0, v1, v2, hcs⟩ : ∃ v0 v1 v2, (Value.agg cs).cells.toList = [v0, v1, v2] := by
    match (Value.agg cs).cells.toList, hlen with
    | [v0, v1, v2], _ => exact ⟨v0, v1, v2, rfl⟩
  rw [hcs] at hf
  obtain ⟨y0, y1, y2, rfl⟩ : ∃ y0 y1 y2, xs = [y0, y1, y2] := by
    match xs, hxl with
    | [y0, y1, y2], _ => exact ⟨y0, y1, y2, rfl⟩
  have f0 : DataW.trod enc Tryz.prog W 0 (fun _ => true) true n 9 (([v0, v1, v2].drop 0).take (Tryz.prog.cellsOf 9)) = [y0, y1, y2][0]? := hf 0 _ rfl
  have f1 : DataW.trod enc Tryz.prog W 0 (fun _ => true) true n 22 (([v0, v1, v2].drop 1).take (Tryz.prog.cellsOf 22)) = [y0, y1, y2][1]? := hf 1 _ rfl
  have f2 : DataW.trod enc Tryz.prog W 0 (fun _ => true) true n 23 (([v0, v1, v2].drop 2).take (Tryz.prog.cellsOf 23)) = [y0, y1, y2][2]? := hf 2 _ rfl
  rw [cs1] at f0
  rw [cl] at f1
  rw [co] at f2
  obtain ⟨t, e0, ex0, -⟩ := DataW.trod_string (x := y0) Tryz.underlying9 (by simpa using f0)
  have f1' : DataW.trod enc Tryz.prog W 0 (fun _ => true) true n 22 [v1] = some y1 := by simpa using f1
  have f2' : DataW.trod enc Tryz.prog W 0 (fun _ => true) true n 23 [v2] = some y2 := by simpa using f2
  have ev1 : ∃ ao l c, v1 = .slice ao l c := by
    rcases open_slice Tryz.underlying22 f1' with ⟨e, _⟩ | ⟨a, l, c, _, _, _, _, e, _⟩
    · simp at e; exact ⟨_, _, _, e⟩
    · simp at e; exact ⟨_, _, _, e⟩
  have ev2 : ∃ ao l c, v2 = .slice ao l c := by
    rcases open_slice Tryz.underlying23 f2' with ⟨e, _⟩ | ⟨a, l, c, _, _, _, _, e, _⟩
    · simp at e; exact ⟨_, _, _, e⟩
    · simp at e; exact ⟨_, _, _, e⟩
  obtain ⟨a1, l1, c1, rfl⟩ := ev1
  obtain ⟨a2, l2, c2, rfl⟩ := ev2
  have hdx : d = .agg [y0.1, y1.1, y2.1] := (Prod.mk.inj hx).1
  have hwj : ∀ (j : Nat) (ty : TypeId) (d' : DataW H), [9, 22, 23][j]? = some ty → [y0.1, y1.1, y2.1][j]? = some d' → ∀ k ∈ d'.weights Tryz.prog ty, k ≤ reachBytes := by
    intro j ty d' hj hd k hk
    refine hw k ?_
    rw [hdx]
    simp only [DataW.weights, hu]
    exact DataW.weights_mem_each (j := j) hj hd k hk
  obtain ⟨ds, hds, hdl, hdz⟩ := open_rd Tryz.underlying22 Tryz.underlying9 (by kernel_rfl) (of_decide_eq_true (by kernel_rfl)) f1' (hwj 1 _ _ rfl rfl)
  obtain ⟨os, hos, hol, hoz⟩ := open_opsA f2' (hwj 2 _ _ rfl rfl)
  have hts : t.size ≤ reachBytes := by
    have := hwj 0 _ _ rfl rfl t.data.toList.length (by rw [ex0]; simp [DataW.weights])
    have h2 : t.data.toList.length = t.size := Array.length_toList
    omega
  refine ⟨⟨t, ds, os⟩, .slice a1 l1 c1, .slice a2 l2 c2, ?_, ⟨rfl, hds, hos⟩, ⟨fun o ho => (hoz o ho).1, by show t.size ≤ _; omega, hdz, fun o ho => (hoz o ho).2.2⟩, hdl, hol, fun o ho => (hoz o ho).2.1⟩
  have a0 : v0 = .string t := by simpa using e0
  have : cs = #[.string t, .slice a1 l1 c1, .slice a2 l2 c2] := by
    apply Array.ext'
    rw [a0] at hcs
    simpa [Value.cells] using hcs
  rw [this]
end Go.Proofs.YtgjcblginkdinaaGreatDoor
set_option linter.unusedVariables false
namespace Go.Proofs.YtgjcblginkdinaaGreatDoor
open Go.ChangeShapes Go.WideShapes Go.ChangeAt Go.RowKit

def smallP (p : Pt) : Bool := decide (p.deps.length ≤ 200) && decide (p.ops.length ≤ 1000) && decide (linesN p.ops ≤ 2000)
theorem small_lines {p : Pt} (h : smallP p = true) : linesN p.ops ≤ 4611686018427387904 := by
  unfold smallP at h
  simp only [Bool.and_eq_true, decide_eq_true_eq] at h
  omega

set_option maxHeartbeats 2000000 in
set_option maxRecDepth 100000 in
theorem psmall_any (p : Pt) (dv ov : Value) (w : World) (hp : PReads w p.note dv ov p) (hl : ∀ o ∈ p.ops, o.lines.length ≤ 140737488355328) :
    Calls Tryz.prog 9 #[ptV p.note dv ov] w fun e w' => e = .returned (.bool (smallP p)) ∧ Below w.heap.size w w' := by
  obtain ⟨hnt, hd, ho⟩ := hp
  obtain ⟨da, dc, rfl, hdn⟩ := hd.form
  obtain ⟨oa, oc, rfl, hon⟩ := ho.form
  obtain ⟨t, ht⟩ : ∃ t, t = p.note := ⟨_, rfl⟩
  obtain ⟨n, hnn⟩ : ∃ n, n = p.ops.length := ⟨_, rfl⟩
  obtain ⟨m, hmm⟩ : ∃ m, m = p.deps.length := ⟨_, rfl⟩
  have hb1 : ∀ o1, Below w.heap.size w (w.alloc o1) := fun o1 => (Below.refl _ _).alloc (Nat.le_refl _) _
  rw [← hnn] at ho hon ⊢
  rw [← hmm] at hdn ⊢
  rw [← ht]
  have hsm : smallP p = (decide (m ≤ 200) && decide (n ≤ 1000) && decide (linesN p.ops ≤ 2000)) := by rw [hmm, hnn]; rfl
  have HO := Lib.hid ho
  have HN := Lib.hid hnn
  have HB1 := Lib.hid hb1
  have HL := Lib.hid hl
  have HSM := Lib.hid hsm
  clear ho hnn hmm ht hb1 hl hsm hnt hd
  by_cases hg : m ≤ 200 ∧ n ≤ 1000
  · obtain ⟨g1, g2⟩ := hg
    have e1 : ¬ (200 : Int) < m := by omega
    have e2 : ¬ (1000 : Int) < n := by omega
    go_enter Tryz.func9, Tryz.ntmps9
    go_wp2_with fail
    go_loopw [3, 19] (fun s i wr => ∃ (k N : Nat), k ≤ n ∧ i = .int .i64 (k : Nat) ∧ s = .int .i64 (N : Nat) ∧ N ≤ 2000 ∧ Hid (N = linesN (p.ops.take k)) ∧ Hid (Below w.heap.size w wr)) (fun _ i _ => n - (intOf i).toNat)
    case atStart => exact ⟨0, 0, Nat.zero_le _, rfl, rfl, by omega, Lib.hid (by simp [linesN]), HB1.out _ |> Lib.hid⟩
    case round =>
      obtain ⟨k, N, hk, rfl, rfl, hN, HNN, HB⟩ := hrel
      by_cases hlt : k < n
      · obtain ⟨x, hx⟩ : ∃ x, p.ops[k]? = some x := ⟨p.ops[k]'(by rw [← HN.out]; exact hlt), by simp⟩
        obtain ⟨b, o, rfl, hnl, hcl⟩ := HO.out.at hx
        clear hnl
        obtain ⟨lv, d0, d1, d2, d3, d4, d5, d6⟩ := (hcl.below HB.out).2 k x hx
        obtain ⟨la, lc, hlv, _⟩ := d6.form
        obtain ⟨L, hL⟩ : ∃ L, L = x.lines.length := ⟨_, rfl⟩
        rw [← hL] at hlv
        subst hlv
        have hL2 : L ≤ 140737488355328 := by rw [hL]; exact HL.out x (List.mem_of_getElem? hx)
        have hsn : linesN (p.ops.take (k + 1)) = N + L := by rw [linesN_snoc hx, ← HNN.out, hL]
        have HSN := Lib.hid hsn
        have HBA := Lib.hid (show ∀ o1, Below w.heap.size w (wr.alloc o1) from fun o1 => HB.out.alloc HB.out.size _)
        clear hx hcl d6 hL hsn
        obtain ⟨K, ⟨x1, y1⟩, ⟨x2, y2⟩, ls⟩ := x
        simp only at d0 d1 d2 d3 d4
        by_cases hbig : 2000 < N + L
        · have e3 : (2000 : Int) < (N : Int) + L := by omega
          have hno : smallP p = false := by
            rw [HSM.out]
            have h1 := linesN_take p.ops (k + 1)
            have h2 : ¬ linesN p.ops ≤ 2000 := by have := HSN.out; omega
            simp [h2]
          have HNO := Lib.hid hno
          clear hno
          go_wp2_with fail
          go_ret
          exact ⟨ret_bool HNO.out.symm, HBA.out _⟩
        · have e3 : ¬ (2000 : Int) < (N : Int) + L := by omega
          go_wp2_with fail
          exact ⟨⟨k + 1, N + L, by omega, by go_num, by go_num, by omega, Lib.hid HSN.out.symm, Lib.hid (HBA.out _)⟩, by simp [intOf]; omega⟩
      · obtain rfl : k = n := by omega
        have hyes : smallP p = true := by
          rw [HSM.out]
          have h1 : linesN p.ops = N := by rw [HNN.out, List.take_of_length_le (by rw [← HN.out]; exact Nat.le_refl _)]
          simp [g1, g2, h1, hN]
        have HY := Lib.hid hyes
        clear hyes
        go_wp2_with fail
        go_ret
        exact ⟨ret_bool HY.out.symm, HB.out⟩
  · have hs : smallP p = false := by
      rw [HSM.out]
      by_cases g1 : m ≤ 200
      · have g2 : ¬ n ≤ 1000 := fun h => hg ⟨g1, h⟩
        simp [g2]
      · simp [g1]
    have HS := Lib.hid hs
    clear hs
    go_enter Tryz.func9, Tryz.ntmps9
    go_wp2_with fail
    all_goals first
      | (exfalso; omega)
      | (go_ret; exact ⟨ret_bool HS.out.symm, HB1.out _⟩)
end Go.Proofs.YtgjcblginkdinaaGreatDoor
set_option linter.unusedVariables false
namespace Go.Proofs.YtgjcblginkdinaaGreatDoor
open Go.ChangeShapes Go.WideShapes Go.ChangeAt Go.RowKit
open Go.Lib (itoa)

def lineA : ByteArray := ⟨#[97]⟩
def op0 : Opp := ⟨1, ⟨-1, 0⟩, ⟨-1, 1⟩, [lineA]⟩
def p0 : Pt := ⟨⟨#[]⟩, [], [op0]⟩
theorem p0_fine : p0.fine := by
  refine ⟨fun o ho => ?_, by decide, fun x hx => by simp [p0] at hx, fun o ho x hx => ?_⟩
  · have e : o = op0 := by simpa [p0] using ho
    subst e
    exact ⟨wfI_small (by decide) (by decide), ⟨wfI_small (by decide) (by decide), wfI_small (by decide) (by decide)⟩, ⟨wfI_small (by decide) (by decide), wfI_small (by decide) (by decide)⟩⟩
  · have e : o = op0 := by simpa [p0] using ho
    subst e
    have e : x = lineA := by simpa [op0] using hx
    subst e
    decide
theorem small_right {p : Pt} (hw : p.wf) (h1 : p.note.size ≤ 100) (h2 : p.ops.length ≤ 1) (h3 : risB p.deps = true) (hd : p.deps.length ≤ 1) (hdz : ∀ x ∈ p.deps, x.size ≤ 64) (h4 : opsR p.deps.length 0 p.ops = true) (h5 : linesN p.ops ≤ 1) (hl : ∀ o ∈ p.ops, ∀ x ∈ o.lines, x.size ≤ 500) : rightP p = true := by
  have hm := madeN_le p.ops
  rw [rightP_of h1 (by omega) h3 h4 (by omega), decide_eq_true_eq]
  have hb := Tm.bytes_le (ptT p)
  have ht := ptT_texts hw h1 hdz hl
  have hp := ptT_parts p
  omega
theorem right0 : rightP p0 = true := by
  refine small_right p0_fine.wf (by decide) (by decide) (risB_iff.2 ⟨by decide, fun j hj => by simp [p0] at hj⟩) (by decide) (fun x hx => by simp [p0] at hx) (by decide) (by decide) (fun o ho x hx => ?_)
  have e : o = op0 := by simpa [p0] using ho
  subst e
  have e : x = lineA := by simpa [op0] using hx
  subst e
  decide
theorem needs0 (nm : ByteArray) : needsL p0 nm = [nm] := by
  obtain ⟨h1, h2⟩ := needs_spec p0 nm
  have hr : needRaw p0 nm = [nm] := by simp [needRaw, p0, op0, needRs, namedR]
  have e : (needsL p0 nm).map (fun s => s.data.toList) = [nm.data.toList] := by
    refine asc_unique h1 (List.pairwise_singleton _ _) (fun x => ?_)
    rw [List.mem_map, List.mem_singleton]
    constructor
    · rintro ⟨s, hs, rfl⟩
      have := (h2 s).1 hs
      rw [hr, List.mem_singleton] at this
      rw [this]
    · rintro rfl
      exact ⟨nm, (h2 nm).2 (by rw [hr]; simp), rfl⟩
  have := congrArg (List.map tx) e
  rw [List.map_map] at this
  have e2 : (tx ∘ fun s : ByteArray => s.data.toList) = id := by funext s; exact tx_data s
  rw [e2, List.map_id] at this
  rw [this, List.map_singleton, tx_data]
theorem nameP_right (p : Pt) (h : rightP p = true) : rightL (tx (nameP p)).data.toList = true := by
  rw [tx_list]
  unfold nameP nameL
  rw [if_pos h]
  unfold rightL
  rw [raw_hex, hexL_len, sumL_len]
  rfl
theorem inv0_ops (nm : ByteArray) : invI [] [nm] nm 0 [op0] = [⟨4, ⟨0, 0⟩, ⟨0, 0⟩, []⟩] := by
  have e : Lib.idxOfS [nm] nm = 0 := by simp [Lib.idxOfS, Lib.idxFromS]
  simp [invI, oneI, op0, delI, lineI, e]
theorem inv0 : rightP (invP p0) = true ∧ (invP p0).deps.length = 1 ∧ (invP p0).ops = [⟨4, ⟨0, 0⟩, ⟨0, 0⟩, []⟩] := by
  have hd : (invP p0).deps = [tx (nameP p0)] := needs0 _
  have ho : (invP p0).ops = [⟨4, ⟨0, 0⟩, ⟨0, 0⟩, []⟩] := by
    show invI p0.deps (needsL p0 (tx (nameP p0))) (tx (nameP p0)) 0 p0.ops = _
    rw [needs0]
    exact inv0_ops _
  have hf := inv_fine p0_fine right0
  refine ⟨small_right hf.wf (by decide) (by rw [ho]; decide) ?_ (by rw [hd]; decide) (fun x hx => ?_) (by rw [hd, ho]; decide) (by rw [ho]; decide) (fun o h x hx => ?_), by rw [hd]; rfl, ho⟩
  · rw [hd]
    refine risB_iff.2 ⟨by decide, fun j hj x hx => ?_⟩
    have hj0 : j = 0 := by simpa using hj
    subst hj0
    have e : x = tx (nameP p0) := by simpa using hx.symm
    subst e
    exact ⟨nameP_right _ right0, fun i y e => by omega⟩
  · rw [hd, List.mem_singleton] at hx
    subst hx
    exact nameP_size _
  · rw [ho, List.mem_singleton] at h
    subst h
    simp at hx
end Go.Proofs.YtgjcblginkdinaaGreatDoor
