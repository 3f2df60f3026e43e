/- An argument that is a patch, opened. The contract of the laws' Small. The laws are awake: a line at the top. The laws are awake: the walk. The law PatchCommutes answers true. -/
import Derived.Deep.Slices
import Derived.Deep.Fields
import Derived.Test.YtnlakehcghoclaaGreatDoorZ0
import Derived.Test.YtnlakehcghoclaaGreatDoorZ19
import Derived.Test.YtnlakehcghoclaaGreatDoorZ21
import Derived.Test.YtnlakehcghoclaaGreatDoorZ46
import Derived.Test.YtnlakehcghoclaaGreatDoorZ47
import Derived.Test.YtnlakehcghoclaaGreatDoorZ50
set_option linter.unusedVariables false
namespace Go.Proofs.YtnlakehcghoclaaGreatDoor
open Go.ChangeShapes Go.WideShapes Go.ChangeAt Go.RowKit Go.Deep

theorem wfI_of {n : Int} (h : (Lit.int .i64 n).wf = true) : wfI n := by
  simp only [Lit.wf, Bool.and_eq_true, decide_eq_true_eq] at h
  exact h

theorem open_rd {H : Type} {enc : TypeId × Value → H} {P : Program} {W : World} {t e : TypeId} {fuel len : Nat} {a0 : Option Addr} {cap : Nat} {x : DataW H × List MemPlace}
    (ht : P.underlying t = some (.slice e)) (he : P.underlying e = some .string) (hc : P.cellsOf e = 1) (hb : 0 < P.bytesOf e) (hf : DataW.trod enc P W 0 (fun _ => true) true fuel t [.slice a0 len cap] = some x)
    (hw : ∀ n ∈ x.1.weights P t, n ≤ reachBytes) :
    ∃ xs : List ByteArray, Reads W (.slice a0 len cap) xs ∧ xs.length ≤ 140737488355328 ∧ ∀ x ∈ xs, x.size ≤ 140737488355328 := by
  have hreach : reachBytes ≤ 140737488355328 := by decide
  rcases open_strings ht he hc hf with ⟨hcs, hx⟩ | ⟨a, len', cap', ss, hcs, _, hl, hm, hz, hx, hcell, hsz⟩
  · simp at hcs
    obtain ⟨rfl, rfl, rfl⟩ := hcs
    exact ⟨[], .inl ⟨rfl, none, 0, rfl⟩, by simp, by simp⟩
  · simp at hcs
    obtain ⟨rfl, rfl, rfl⟩ := hcs
    have hd : x.1 = .slice (strs (ss.take len)) (strs (ss.drop len)) := by rw [hx]
    rw [hd] at hw
    simp only [if_true] at hz
    have hxl : (ss.take len).length = len := by simp; omega
    have hlen : len ≤ 140737488355328 := by
      have h1 := hw (((strs (H := H) (ss.take len)).length + (strs (H := H) (ss.drop len)).length) * P.bytesOf e) (by simp [DataW.weights, ht])
      have h2 : len ≤ (strs (H := H) (ss.take len)).length + (strs (H := H) (ss.drop len)).length := by simp [strs]; omega
      have h3 := Nat.le_mul_of_pos_right ((strs (H := H) (ss.take len)).length + (strs (H := H) (ss.drop len)).length) hb
      omega
    refine ⟨ss.take len, ?_, by omega, fun x hx => ?_⟩
    · by_cases h0 : len = 0
      · subst h0
        exact .inl ⟨by simp, _, cap, rfl⟩
      · obtain ⟨b, off, spot⟩ := a
        have hspot : spot = none := by simpa [Addr.add] using World.cell?_spot (hcell 0 (by omega))
        subst hspot
        refine .inr ⟨fun e => h0 (by rw [← hxl, e]; rfl), b, off, cap, by rw [hxl], by omega, by unfold maxLen at hm; omega, cell_lt (hcell 0 (by omega)), fun j x hx => ?_⟩
        have hj : j < len := by
          have := (List.getElem?_eq_some_iff.1 hx).1
          omega
        have hX' : ss.getD j ByteArray.empty = x := by
          rw [List.getElem?_take_of_lt hj] at hx
          simp [List.getD, hx]
        have hcj := hcell j (by omega)
        rw [hX'] at hcj
        have ha : (⟨b, off, none⟩ : Addr).add j = ⟨b, off + j, none⟩ := by unfold Addr.add; split <;> simp_all
        rw [← ha]
        exact hcj
    · have hmem : (DataW.lit (H := H) (.string x.data.toList)) ∈ strs (H := H) (ss.take len) := List.mem_map.2 ⟨x, hx, rfl⟩
      have h1 := hw x.data.toList.length (by
        simp only [DataW.weights, ht, List.mem_cons, List.mem_append]
        exact .inr (.inl (mem_weightsAll (by simp [DataW.weights]) hmem)))
      have h2 : x.data.toList.length = x.size := Array.length_toList
      omega

set_option maxRecDepth 100000 in
theorem open_rf {H : Type} {enc : TypeId × Value → H} {W : World} {fuel : Nat} {cs : List Value} {x : DataW H × List MemPlace} (h : DataW.trod enc Tryz.prog W 0 (fun _ => true) true fuel 54 cs = some x) :
    ∃ r : Rf, cs = [.int .i64 r.at_, .int .i64 r.n] ∧ r.wf := by
  have hu := Tryz.underlying54
  have hc2 : Tryz.prog.cellsOf 54 = 2 := by kernel_rfl
  have ci : Tryz.prog.cellsOf 3 = 1 := by kernel_rfl
  obtain ⟨xs, n, _, hx, hlen, hxl, hf⟩ := DataW.trod_struct hu h
  rw [hc2] at hlen
  obtain ⟨v0, v1, rfl⟩ : ∃ v0 v1, cs = [v0, v1] := by
    match cs, hlen with
    | [v0, v1], _ => exact ⟨v0, v1, rfl⟩
  obtain ⟨y0, y1, rfl⟩ : ∃ y0 y1, xs = [y0, y1] := by
    match xs, hxl with
    | [y0, y1], _ => exact ⟨y0, y1, rfl⟩
  have f0 : DataW.trod enc Tryz.prog W 0 (fun _ => true) true n 3 (([v0, v1].drop 0).take (Tryz.prog.cellsOf 3)) = [y0, y1][0]? := hf 0 _ rfl
  have f1 : DataW.trod enc Tryz.prog W 0 (fun _ => true) true n 3 (([v0, v1].drop 1).take (Tryz.prog.cellsOf 3)) = [y0, y1][1]? := hf 1 _ rfl
  rw [ci] at f0 f1
  obtain ⟨A, e0, -, w0⟩ := DataW.trod_int (k := .i64) (x := y0) Tryz.underlying3 (by simpa using f0)
  obtain ⟨C, e1, -, w1⟩ := DataW.trod_int (k := .i64) (x := y1) Tryz.underlying3 (by simpa using f1)
  refine ⟨⟨A, C⟩, ?_, wfI_of w0, wfI_of w1⟩
  have a0 : v0 = .int .i64 A := by simpa using e0
  have a1 : v1 = .int .i64 C := by simpa using e1
  rw [a0, a1]

set_option maxRecDepth 100000 in
theorem open_op {H : Type} {enc : TypeId × Value → H} {W : World} {fuel : Nat} {cs : List Value} {x : DataW H × List MemPlace} (h : DataW.trod enc Tryz.prog W 0 (fun _ => true) true fuel 56 cs = some x) (hw : ∀ n ∈ x.1.weights Tryz.prog 56, n ≤ reachBytes) :
    ∃ q : Opp × Value, cs = [.int .i64 q.1.kind, .int .i64 q.1.a.at_, .int .i64 q.1.a.n, .int .i64 q.1.b.at_, .int .i64 q.1.b.n, q.2] ∧ Reads W q.2 q.1.lines ∧ q.1.wf ∧ q.1.lines.length ≤ 140737488355328 ∧ ∀ x ∈ q.1.lines, x.size ≤ 140737488355328 := by
  have hu := Tryz.underlying56
  have hc6 : Tryz.prog.cellsOf 56 = 6 := by kernel_rfl
  have ci : Tryz.prog.cellsOf 3 = 1 := by kernel_rfl
  have cr : Tryz.prog.cellsOf 54 = 2 := by kernel_rfl
  have cl : Tryz.prog.cellsOf 22 = 1 := by kernel_rfl
  obtain ⟨xs, n, _, hx, hlen, hxl, hf⟩ := DataW.trod_struct hu h
  rw [hc6] at hlen
  obtain ⟨v0, v1, v2, v3, v4, v5, rfl⟩ : ∃ v0 v1 v2 v3 v4 v5, cs = [v0, v1, v2, v3, v4, v5] := by
    match cs, hlen with
    | [v0, v1, v2, v3, v4, v5], _ => exact ⟨v0, v1, v2, v3, v4, v5, rfl⟩
  obtain ⟨y0, y1, y2, y3, rfl⟩ : ∃ y0 y1 y2 y3, xs = [y0, y1, y2, y3] := by
    match xs, hxl with
    | [y0, y1, y2, y3], _ => exact ⟨y0, y1, y2, y3, rfl⟩
  have f0 : DataW.trod enc Tryz.prog W 0 (fun _ => true) true n 3 (([v0, v1, v2, v3, v4, v5].drop 0).take (Tryz.prog.cellsOf 3)) = [y0, y1, y2, y3][0]? := hf 0 _ rfl
  have f1 : DataW.trod enc Tryz.prog W 0 (fun _ => true) true n 54 (([v0, v1, v2, v3, v4, v5].drop 1).take (Tryz.prog.cellsOf 54)) = [y0, y1, y2, y3][1]? := hf 1 _ rfl
  have f2 : DataW.trod enc Tryz.prog W 0 (fun _ => true) true n 54 (([v0, v1, v2, v3, v4, v5].drop 3).take (Tryz.prog.cellsOf 54)) = [y0, y1, y2, y3][2]? := hf 2 _ rfl
  have f3 : DataW.trod enc Tryz.prog W 0 (fun _ => true) true n 22 (([v0, v1, v2, v3, v4, v5].drop 5).take (Tryz.prog.cellsOf 22)) = [y0, y1, y2, y3][3]? := hf 3 _ rfl
  rw [ci] at f0
  rw [cr] at f1 f2
  rw [cl] at f3
  obtain ⟨K, e0, -, w0⟩ := DataW.trod_int (k := .i64) (x := y0) Tryz.underlying3 (by simpa using f0)
  have f1' : DataW.trod enc Tryz.prog W 0 (fun _ => true) true n 54 [v1, v2] = some y1 := by simpa using f1
  have f2' : DataW.trod enc Tryz.prog W 0 (fun _ => true) true n 54 [v3, v4] = some y2 := by simpa using f2
  have f3' : DataW.trod enc Tryz.prog W 0 (fun _ => true) true n 22 [v5] = some y3 := by simpa using f3
  obtain ⟨r, e1, wr⟩ := open_rf f1'
  obtain ⟨s, e2, ws⟩ := open_rf f2'
  have ev : ∃ ao l c, v5 = .slice ao l c := by
    rcases open_slice Tryz.underlying22 f3' with ⟨e, _⟩ | ⟨a, l, c, _, _, _, _, e, _⟩
    · simp at e; exact ⟨_, _, _, e⟩
    · simp at e; exact ⟨_, _, _, e⟩
  obtain ⟨ao, l, c, rfl⟩ := ev
  have hw3 : ∀ n ∈ y3.1.weights Tryz.prog 22, n ≤ reachBytes := by
    intro k hk
    refine hw k ?_
    rw [hx]
    simp only [List.map_cons, List.map_nil, DataW.weights, hu]
    exact DataW.weights_mem_each (j := 3) rfl rfl k hk
  obtain ⟨ys, hs, hl, hz⟩ := open_rd Tryz.underlying22 Tryz.underlying9 (by kernel_rfl) (of_decide_eq_true (by kernel_rfl)) f3' hw3
  refine ⟨(⟨K, r, s, ys⟩, .slice ao l c), ?_, hs, ⟨wfI_of w0, wr, ws⟩, hl, hz⟩
  have a0 : v0 = .int .i64 K := by simpa using e0
  simp only [List.cons.injEq, and_true] at e1 e2
  rw [a0, e1.1, e1.2, e2.1, e2.2]

set_option maxRecDepth 100000 in
theorem open_opsA {H : Type} {enc : TypeId × Value → H} {W : World} {fuel len cap : Nat} {a0 : Option Addr} {x : DataW H × List MemPlace} (hf : DataW.trod enc Tryz.prog W 0 (fun _ => true) true fuel 23 [.slice a0 len cap] = some x)
    (hw : ∀ n ∈ x.1.weights Tryz.prog 23, n ≤ reachBytes) :
    ∃ os : List Opp, OReads W (.slice a0 len cap) os ∧ os.length ≤ 140737488355328 ∧ ∀ o ∈ os, o.wf ∧ o.lines.length ≤ 140737488355328 ∧ ∀ x ∈ o.lines, x.size ≤ 140737488355328 := by
  have hreach : reachBytes ≤ 140737488355328 := by decide
  have ht := Tryz.underlying23
  have hc6 : Tryz.prog.cellsOf 56 = 6 := by kernel_rfl
  have hby : 0 < Tryz.prog.bytesOf 56 := of_decide_eq_true (by kernel_rfl)
  rcases open_slice ht hf with ⟨hcs, hx⟩ | ⟨a, len', cap', m, n, D, Pl, hcs, _, hl, hm, hmm, hx, hi⟩
  · simp at hcs
    obtain ⟨rfl, rfl, rfl⟩ := hcs
    exact ⟨[], .inl ⟨rfl, _, _, rfl⟩, by simp, by simp⟩
  · simp at hcs
    obtain ⟨rfl, rfl, rfl⟩ := hcs
    have hd : x.1 = .slice ((List.range len).map D) ((List.range (m - len)).map fun j => D (len + j)) := by rw [hx]
    rw [hd] at hw
    simp only [if_true] at hmm
    subst hmm
    rw [hc6] at hi
    have hwd : ∀ i, i < len → ∀ k ∈ (D i).weights Tryz.prog 56, k ≤ reachBytes := by
      intro i hil k hk
      refine hw k ?_
      simp only [DataW.weights, ht, List.mem_cons, List.mem_append]
      exact .inr (.inl (mem_weightsAll hk (List.mem_map.2 ⟨i, List.mem_range.2 hil, rfl⟩)))
    have hel : ∀ i, i < len → ∃ q : Opp × Value, (W.cell? (a.add (i * 6)) = some (.int .i64 q.1.kind) ∧ W.cell? ((a.add (i * 6)).add 1) = some (.int .i64 q.1.a.at_) ∧ W.cell? ((a.add (i * 6)).add 2) = some (.int .i64 q.1.a.n) ∧ W.cell? ((a.add (i * 6)).add 3) = some (.int .i64 q.1.b.at_) ∧ W.cell? ((a.add (i * 6)).add 4) = some (.int .i64 q.1.b.n) ∧ W.cell? ((a.add (i * 6)).add 5) = some q.2) ∧
        Reads W q.2 q.1.lines ∧ q.1.wf ∧ q.1.lines.length ≤ 140737488355328 ∧ ∀ x ∈ q.1.lines, x.size ≤ 140737488355328 := by
      intro i hil
      obtain ⟨cs', hc, ht'⟩ := hi i (by omega)
      obtain ⟨q, rfl, hs⟩ := open_op ht' (hwd i hil)
      obtain ⟨_, _, hat⟩ := World.cells?_some hc
      have h0 := hat 0 (by omega)
      have h1 := hat 1 (by omega)
      have h2 := hat 2 (by omega)
      have h3 := hat 3 (by omega)
      have h4 := hat 4 (by omega)
      have h5 := hat 5 (by omega)
      rw [show (a.add (i * 6)).add 0 = a.add (i * 6) by rw [Go.Deep.add_add]; rfl] at h0
      exact ⟨q, ⟨h0, h1, h2, h3, h4, h5⟩, hs⟩
    obtain ⟨ps, hpl, hps⟩ := list_of _ len hel
    have hlen : len ≤ 140737488355328 := by
      have h1 := hw _ (by simp only [DataW.weights, ht]; exact List.mem_cons_self)
      have h2 : len ≤ ((List.range len).map D).length + ((List.range (m - len)).map fun j => D (len + j)).length := by simp
      have h3 := Nat.le_mul_of_pos_right (((List.range len).map D).length + ((List.range (m - len)).map fun j => D (len + j)).length) hby
      omega
    refine ⟨ps.map (·.1), ?_, by rw [List.length_map]; omega, fun k hk => ?_⟩
    · by_cases e : ps = []
      · left
        subst e
        simp at hpl
        subst hpl
        exact ⟨rfl, _, _, rfl⟩
      · right
        have hpos : 0 < len := by
          rcases Nat.eq_zero_or_pos len with h | h
          · exact absurd (List.length_eq_zero_iff.1 (by omega)) e
          · exact h
        obtain ⟨b, off, spot⟩ := a
        have h00 := (hps 0 (ps[0]'(by omega)) (by simp)).1.1
        have hspot : spot = none := by simpa [Addr.add] using World.cell?_spot h00
        subst hspot
        have hadd : ∀ (o k : Nat), (⟨b, o, none⟩ : Addr).add k = ⟨b, o + k, none⟩ := fun o k => Addr.add_lit ..
        refine ⟨by simpa using e, b, off, m, by rw [List.length_map, hpl], by rw [List.length_map]; omega, by unfold maxLen at hm; omega, ?_, fun j z hz => ?_⟩
        · rw [hadd] at h00
          exact cell_lt (o := off + 0 * 6) h00
        · rw [List.getElem?_map] at hz
          obtain ⟨q, hq, rfl⟩ := Option.map_eq_some_iff.1 hz
          obtain ⟨⟨c0, c1, c2, c3, c4, c5⟩, hs, _⟩ := hps j q hq
          rw [hadd] at c0
          rw [hadd, hadd] at c1 c2 c3 c4 c5
          exact ⟨q.2, c0, c1, c2, c3, c4, c5, hs⟩
    · obtain ⟨q, hq, rfl⟩ := List.mem_map.1 hk
      obtain ⟨j, hj, e⟩ := List.mem_iff_getElem.1 hq
      exact (hps j q (by rw [← e]; simp)).2.2

set_option maxRecDepth 100000 in
theorem open_ptArg {H : Type} {enc : TypeId × Value → H} {W : World} {b0 : Nat} {r : Reach} {v : Value} {d : DataW H} {pl : List MemPlace}
    (hval : Value.okWide Tryz.prog W r b0 25 v) (h : DataW.Trod enc Tryz.prog W 0 (fun _ => true) true 25 v d pl) (hw : ∀ n ∈ d.weights Tryz.prog 25, n ≤ reachBytes) :
    ∃ (p : Pt) (dv ov : Value), v = ptV p.note dv ov ∧ PReads W p.note dv ov p ∧ p.fine ∧ p.deps.length ≤ 140737488355328 ∧ p.ops.length ≤ 140737488355328 ∧ ∀ o ∈ p.ops, o.lines.length ≤ 140737488355328 := by
  have hreach : reachBytes ≤ 140737488355328 := by decide
  obtain ⟨cs, rfl, -⟩ := okWide_struct Tryz.underlying25 hval
  obtain ⟨fuel, hf0⟩ := h
  have hu := Tryz.underlying25
  have hc3 : Tryz.prog.cellsOf 25 = 3 := by kernel_rfl
  have cs1 : Tryz.prog.cellsOf 9 = 1 := by kernel_rfl
  have cl : Tryz.prog.cellsOf 22 = 1 := by kernel_rfl
  have co : Tryz.prog.cellsOf 23 = 1 := by kernel_rfl
  obtain ⟨xs, n, _, hx, hlen, hxl, hf⟩ := DataW.trod_struct hu hf0
  rw [hc3] at hlen
  obtain ⟨v0, v1, v2, hcs⟩ : ∃ v0 v1 v2, (Value.agg cs).cells.toList = [v0, v1, v2] := by
    match (Value.agg cs).cells.toList, hlen with
    | [v0, v1, v2], _ => exact ⟨v0, v1, v2, rfl⟩
  rw [hcs] at hf
  obtain ⟨y0, y1, y2, rfl⟩ : ∃ y0 y1 y2, xs = [y0, y1, y2] := by
    match xs, hxl with
    | [y0, y1, y2], _ => exact ⟨y0, y1, y2, rfl⟩
  have f0 : DataW.trod enc Tryz.prog W 0 (fun _ => true) true n 9 (([v0, v1, v2].drop 0).take (Tryz.prog.cellsOf 9)) = [y0, y1, y2][0]? := hf 0 _ rfl
  have f1 : DataW.trod enc Tryz.prog W 0 (fun _ => true) true n 22 (([v0, v1, v2].drop 1).take (Tryz.prog.cellsOf 22)) = [y0, y1, y2][1]? := hf 1 _ rfl
  have f2 : DataW.trod enc Tryz.prog W 0 (fun _ => true) true n 23 (([v0, v1, v2].drop 2).take (Tryz.prog.cellsOf 23)) = [y0, y1, y2][2]? := hf 2 _ rfl
  rw [cs1] at f0
  rw [cl] at f1
  rw [co] at f2
  obtain ⟨t, e0, ex0, -⟩ := DataW.trod_string (x := y0) Tryz.underlying9 (by simpa using f0)
  have f1' : DataW.trod enc Tryz.prog W 0 (fun _ => true) true n 22 [v1] = some y1 := by simpa using f1
  have f2' : DataW.trod enc Tryz.prog W 0 (fun _ => true) true n 23 [v2] = some y2 := by simpa using f2
  have ev1 : ∃ ao l c, v1 = .slice ao l c := by
    rcases open_slice Tryz.underlying22 f1' with ⟨e, _⟩ | ⟨a, l, c, _, _, _, _, e, _⟩
    · simp at e; exact ⟨_, _, _, e⟩
    · simp at e; exact ⟨_, _, _, e⟩
  have ev2 : ∃ ao l c, v2 = .slice ao l c := by
    rcases open_slice Tryz.underlying23 f2' with ⟨e, _⟩ | ⟨a, l, c, _, _, _, _, e, _⟩
    · simp at e; exact ⟨_, _, _, e⟩
    · simp at e; exact ⟨_, _, _, e⟩
  obtain ⟨a1, l1, c1, rfl⟩ := ev1
  obtain ⟨a2, l2, c2, rfl⟩ := ev2
  have hdx : d = .agg [y0.1, y1.1, y2.1] := (Prod.mk.inj hx).1
  have hwj : ∀ (j : Nat) (ty : TypeId) (d' : DataW H), [9, 22, 23][j]? = some ty → [y0.1, y1.1, y2.1][j]? = some d' → ∀ k ∈ d'.weights Tryz.prog ty, k ≤ reachBytes := by
    intro j ty d' hj hd k hk
    refine hw k ?_
    rw [hdx]
    simp only [DataW.weights, hu]
    exact DataW.weights_mem_each (j := j) hj hd k hk
  obtain ⟨ds, hds, hdl, hdz⟩ := open_rd Tryz.underlying22 Tryz.underlying9 (by kernel_rfl) (of_decide_eq_true (by kernel_rfl)) f1' (hwj 1 _ _ rfl rfl)
  obtain ⟨os, hos, hol, hoz⟩ := open_opsA f2' (hwj 2 _ _ rfl rfl)
  have hts : t.size ≤ reachBytes := by
    have := hwj 0 _ _ rfl rfl t.data.toList.length (by rw [ex0]; simp [DataW.weights])
    have h2 : t.data.toList.length = t.size := Array.length_toList
    omega
  refine ⟨⟨t, ds, os⟩, .slice a1 l1 c1, .slice a2 l2 c2, ?_, ⟨rfl, hds, hos⟩, ⟨fun o ho => (hoz o ho).1, by show t.size ≤ _; omega, hdz, fun o ho => (hoz o ho).2.2⟩, hdl, hol, fun o ho => (hoz o ho).2.1⟩
  have a0 : v0 = .string t := by simpa using e0
  have : cs = #[.string t, .slice a1 l1 c1, .slice a2 l2 c2] := by
    apply Array.ext'
    rw [a0] at hcs
    simpa [Value.cells] using hcs
  rw [this]
end Go.Proofs.YtnlakehcghoclaaGreatDoor
set_option linter.unusedVariables false
namespace Go.Proofs.YtnlakehcghoclaaGreatDoor
open Go.ChangeShapes Go.WideShapes Go.ChangeAt Go.RowKit

def smallP (p : Pt) : Bool := decide (p.deps.length ≤ 200) && decide (p.ops.length ≤ 1000) && decide (linesN p.ops ≤ 2000)
theorem small_lines {p : Pt} (h : smallP p = true) : linesN p.ops ≤ 4611686018427387904 := by
  unfold smallP at h
  simp only [Bool.and_eq_true, decide_eq_true_eq] at h
  omega

set_option maxHeartbeats 2000000 in
set_option maxRecDepth 100000 in
theorem psmall_any (p : Pt) (dv ov : Value) (w : World) (hp : PReads w p.note dv ov p) (hl : ∀ o ∈ p.ops, o.lines.length ≤ 140737488355328) :
    Calls Tryz.prog 9 #[ptV p.note dv ov] w fun e w' => e = .returned (.bool (smallP p)) ∧ Below w.heap.size w w' := by
  obtain ⟨hnt, hd, ho⟩ := hp
  obtain ⟨da, dc, rfl, hdn⟩ := hd.form
  obtain ⟨oa, oc, rfl, hon⟩ := ho.form
  obtain ⟨t, ht⟩ : ∃ t, t = p.note := ⟨_, rfl⟩
  obtain ⟨n, hnn⟩ : ∃ n, n = p.ops.length := ⟨_, rfl⟩
  obtain ⟨m, hmm⟩ : ∃ m, m = p.deps.length := ⟨_, rfl⟩
  have hb1 : ∀ o1, Below w.heap.size w (w.alloc o1) := fun o1 => (Below.refl _ _).alloc (Nat.le_refl _) _
  rw [← hnn] at ho hon ⊢
  rw [← hmm] at hdn ⊢
  rw [← ht]
  have hsm : smallP p = (decide (m ≤ 200) && decide (n ≤ 1000) && decide (linesN p.ops ≤ 2000)) := by rw [hmm, hnn]; rfl
  have HO := Lib.hid ho
  have HN := Lib.hid hnn
  have HB1 := Lib.hid hb1
  have HL := Lib.hid hl
  have HSM := Lib.hid hsm
  clear ho hnn hmm ht hb1 hl hsm hnt hd
  by_cases hg : m ≤ 200 ∧ n ≤ 1000
  · obtain ⟨g1, g2⟩ := hg
    have e1 : ¬ (200 : Int) < m := by omega
    have e2 : ¬ (1000 : Int) < n := by omega
    go_enter Tryz.func9, Tryz.ntmps9
    go_wp2_with fail
    go_loopw [3, 19] (fun s i wr => ∃ (k N : Nat), k ≤ n ∧ i = .int .i64 (k : Nat) ∧ s = .int .i64 (N : Nat) ∧ N ≤ 2000 ∧ Hid (N = linesN (p.ops.take k)) ∧ Hid (Below w.heap.size w wr)) (fun _ i _ => n - (intOf i).toNat)
    case atStart => exact ⟨0, 0, Nat.zero_le _, rfl, rfl, by omega, Lib.hid (by simp [linesN]), HB1.out _ |> Lib.hid⟩
    case round =>
      obtain ⟨k, N, hk, rfl, rfl, hN, HNN, HB⟩ := hrel
      by_cases hlt : k < n
      · obtain ⟨x, hx⟩ : ∃ x, p.ops[k]? = some x := ⟨p.ops[k]'(by rw [← HN.out]; exact hlt), by simp⟩
        obtain ⟨b, o, rfl, hnl, hcl⟩ := HO.out.at hx
        clear hnl
        obtain ⟨lv, d0, d1, d2, d3, d4, d5, d6⟩ := (hcl.below HB.out).2 k x hx
        obtain ⟨la, lc, hlv, _⟩ := d6.form
        obtain ⟨L, hL⟩ : ∃ L, L = x.lines.length := ⟨_, rfl⟩
        rw [← hL] at hlv
        subst hlv
        have hL2 : L ≤ 140737488355328 := by rw [hL]; exact HL.out x (List.mem_of_getElem? hx)
        have hsn : linesN (p.ops.take (k + 1)) = N + L := by rw [linesN_snoc hx, ← HNN.out, hL]
        have HSN := Lib.hid hsn
        have HBA := Lib.hid (show ∀ o1, Below w.heap.size w (wr.alloc o1) from fun o1 => HB.out.alloc HB.out.size _)
        clear hx hcl d6 hL hsn
        obtain ⟨K, ⟨x1, y1⟩, ⟨x2, y2⟩, ls⟩ := x
        simp only at d0 d1 d2 d3 d4
        by_cases hbig : 2000 < N + L
        · have e3 : (2000 : Int) < (N : Int) + L := by omega
          have hno : smallP p = false := by
            rw [HSM.out]
            have h1 := linesN_take p.ops (k + 1)
            have h2 : ¬ linesN p.ops ≤ 2000 := by have := HSN.out; omega
            simp [h2]
          have HNO := Lib.hid hno
          clear hno
          go_wp2_with fail
          go_ret
          exact ⟨ret_bool HNO.out.symm, HBA.out _⟩
        · have e3 : ¬ (2000 : Int) < (N : Int) + L := by omega
          go_wp2_with fail
          exact ⟨⟨k + 1, N + L, by omega, by go_num, by go_num, by omega, Lib.hid HSN.out.symm, Lib.hid (HBA.out _)⟩, by simp [intOf]; omega⟩
      · obtain rfl : k = n := by omega
        have hyes : smallP p = true := by
          rw [HSM.out]
          have h1 : linesN p.ops = N := by rw [HNN.out, List.take_of_length_le (by rw [← HN.out]; exact Nat.le_refl _)]
          simp [g1, g2, h1, hN]
        have HY := Lib.hid hyes
        clear hyes
        go_wp2_with fail
        go_ret
        exact ⟨ret_bool HY.out.symm, HB.out⟩
  · have hs : smallP p = false := by
      rw [HSM.out]
      by_cases g1 : m ≤ 200
      · have g2 : ¬ n ≤ 1000 := fun h => hg ⟨g1, h⟩
        simp [g2]
      · simp [g1]
    have HS := Lib.hid hs
    clear hs
    go_enter Tryz.func9, Tryz.ntmps9
    go_wp2_with fail
    all_goals first
      | (exfalso; omega)
      | (go_ret; exact ⟨ret_bool HS.out.symm, HB1.out _⟩)
end Go.Proofs.YtnlakehcghoclaaGreatDoor
set_option linter.unusedVariables false
namespace Go.Proofs.YtnlakehcghoclaaGreatDoor
open Go.ChangeShapes Go.WideShapes Go.ChangeAt Go.RowKit
open Go.Lib (itoa)

def lineA : ByteArray := ⟨#[97]⟩
def op0 : Opp := ⟨1, ⟨-1, 0⟩, ⟨-1, 1⟩, [lineA]⟩
def p0 : Pt := ⟨⟨#[]⟩, [], [op0]⟩
theorem p0_fine : p0.fine := by
  refine ⟨fun o ho => ?_, by decide, fun x hx => by simp [p0] at hx, fun o ho x hx => ?_⟩
  · have e : o = op0 := by simpa [p0] using ho
    subst e
    exact ⟨wfI_small (by decide) (by decide), ⟨wfI_small (by decide) (by decide), wfI_small (by decide) (by decide)⟩, ⟨wfI_small (by decide) (by decide), wfI_small (by decide) (by decide)⟩⟩
  · have e : o = op0 := by simpa [p0] using ho
    subst e
    have e : x = lineA := by simpa [op0] using hx
    subst e
    decide
theorem small_right {p : Pt} (hw : p.wf) (h1 : p.note.size ≤ 100) (h2 : p.ops.length ≤ 1) (h3 : risB p.deps = true) (hd : p.deps.length ≤ 1) (hdz : ∀ x ∈ p.deps, x.size ≤ 64) (h4 : opsR p.deps.length 0 p.ops = true) (h5 : linesN p.ops ≤ 1) (hl : ∀ o ∈ p.ops, ∀ x ∈ o.lines, x.size ≤ 500) : rightP p = true := by
  have hm := madeN_le p.ops
  rw [rightP_of h1 (by omega) h3 h4 (by omega), decide_eq_true_eq]
  have hb := Tm.bytes_le (ptT p)
  have ht := ptT_texts hw h1 hdz hl
  have hp := ptT_parts p
  omega
theorem right0 : rightP p0 = true := by
  refine small_right p0_fine.wf (by decide) (by decide) (risB_iff.2 ⟨by decide, fun j hj => by simp [p0] at hj⟩) (by decide) (fun x hx => by simp [p0] at hx) (by decide) (by decide) (fun o ho x hx => ?_)
  have e : o = op0 := by simpa [p0] using ho
  subst e
  have e : x = lineA := by simpa [op0] using hx
  subst e
  decide
theorem needs0 (nm : ByteArray) : needsL p0 nm = [nm] := by
  obtain ⟨h1, h2⟩ := needs_spec p0 nm
  have hr : needRaw p0 nm = [nm] := by simp [needRaw, p0, op0, needRs, namedR]
  have e : (needsL p0 nm).map (fun s => s.data.toList) = [nm.data.toList] := by
    refine asc_unique h1 (List.pairwise_singleton _ _) (fun x => ?_)
    rw [List.mem_map, List.mem_singleton]
    constructor
    · rintro ⟨s, hs, rfl⟩
      have := (h2 s).1 hs
      rw [hr, List.mem_singleton] at this
      rw [this]
    · rintro rfl
      exact ⟨nm, (h2 nm).2 (by rw [hr]; simp), rfl⟩
  have := congrArg (List.map tx) e
  rw [List.map_map] at this
  have e2 : (tx ∘ fun s : ByteArray => s.data.toList) = id := by funext s; exact tx_data s
  rw [e2, List.map_id] at this
  rw [this, List.map_singleton, tx_data]
theorem nameP_right (p : Pt) (h : rightP p = true) : rightL (tx (nameP p)).data.toList = true := by
  rw [tx_list]
  unfold nameP nameL
  rw [if_pos h]
  unfold rightL
  rw [raw_hex, hexL_len, sumL_len]
  rfl
theorem inv0_ops (nm : ByteArray) : invI [] [nm] nm 0 [op0] = [⟨4, ⟨0, 0⟩, ⟨0, 0⟩, []⟩] := by
  have e : Lib.idxOfS [nm] nm = 0 := by simp [Lib.idxOfS, Lib.idxFromS]
  simp [invI, oneI, op0, delI, lineI, e]
theorem inv0 : rightP (invP p0) = true ∧ (invP p0).deps.length = 1 ∧ (invP p0).ops = [⟨4, ⟨0, 0⟩, ⟨0, 0⟩, []⟩] := by
  have hd : (invP p0).deps = [tx (nameP p0)] := needs0 _
  have ho : (invP p0).ops = [⟨4, ⟨0, 0⟩, ⟨0, 0⟩, []⟩] := by
    show invI p0.deps (needsL p0 (tx (nameP p0))) (tx (nameP p0)) 0 p0.ops = _
    rw [needs0]
    exact inv0_ops _
  have hf := inv_fine p0_fine right0
  refine ⟨small_right hf.wf (by decide) (by rw [ho]; decide) ?_ (by rw [hd]; decide) (fun x hx => ?_) (by rw [hd, ho]; decide) (by rw [ho]; decide) (fun o h x hx => ?_), by rw [hd]; rfl, ho⟩
  · rw [hd]
    refine risB_iff.2 ⟨by decide, fun j hj x hx => ?_⟩
    have hj0 : j = 0 := by simpa using hj
    subst hj0
    have e : x = tx (nameP p0) := by simpa using hx.symm
    subst e
    exact ⟨nameP_right _ right0, fun i y e => by omega⟩
  · rw [hd, List.mem_singleton] at hx
    subst hx
    exact nameP_size _
  · rw [ho, List.mem_singleton] at h
    subst h
    simp at hx
end Go.Proofs.YtnlakehcghoclaaGreatDoor
set_option linter.unusedVariables false
namespace Go.Proofs.YtnlakehcghoclaaGreatDoor
open Go.ChangeShapes Go.WideShapes Go.ChangeAt Go.RowKit
open Go.Lib (itoa)

def lay0 (w : World) : World := (((w.alloc (.cells #[.string ⟨#[97]⟩] 9)).alloc (.cells #[.int .i64 1, .int .i64 (-1), .int .i64 0, .int .i64 (-1), .int .i64 1, .slice (some ⟨w.heap.size, 0, none⟩) 1 1] 56)).alloc (.cells #[.string ⟨#[]⟩, .slice none 0 0, .slice (some ⟨w.heap.size + 1, 0, none⟩) 1 1] 25))
theorem lay0_reads (w : World) : PReads (lay0 w) p0.note (.slice none 0 0) (.slice (some ⟨w.heap.size + 1, 0, none⟩) 1 1) p0 ∧ Below w.heap.size w (lay0 w) := by
  have hb : Below w.heap.size w (lay0 w) := (((Below.refl _ _).alloc (Nat.le_refl _) _).alloc (by simp) _).alloc (by simp; omega) _
  obtain ⟨q1, q2, q3, _, qs⟩ := boxA3 (Below.refl _ (lay0 w))
  refine ⟨⟨rfl, .inl ⟨rfl, none, 0, rfl⟩, .inr ⟨by simp [p0], w.heap.size + 1, 0, 1, rfl, by simp [p0], by decide, by omega, fun j x hx => ?_⟩⟩, hb⟩
  have hj : j = 0 := by have := (List.getElem?_eq_some_iff.1 hx).1; simp [p0] at this; exact this
  subst hj
  have e : x = op0 := by simpa [p0] using hx.symm
  subst e
  refine ⟨.slice (some ⟨w.heap.size, 0, none⟩) 1 1, q2 0, q2 1, q2 2, q2 3, q2 4, q2 5, .inr ⟨by simp [op0], w.heap.size, 0, 1, rfl, by simp [op0], by decide, by omega, fun j x hx => ?_⟩⟩
  have hj : j = 0 := by have := (List.getElem?_eq_some_iff.1 hx).1; simp [op0] at this; exact this
  subst hj
  have e : x = lineA := by simpa [op0] using hx.symm
  subst e
  exact q1 0
theorem lay0_cells {w W : World} (h : Below (lay0 w).heap.size (lay0 w) W) : W.cell? ⟨w.heap.size + 1 + 1, 0, none⟩ = some (.string ⟨#[]⟩) ∧ W.cell? ⟨w.heap.size + 1 + 1, 1, none⟩ = some (.slice none 0 0) ∧ W.cell? ⟨w.heap.size + 1 + 1, 2, none⟩ = some (.slice (some ⟨w.heap.size + 1, 0, none⟩) 1 1) := by
  obtain ⟨_, _, q3, _, _⟩ := boxA3 h
  exact ⟨q3 0, q3 1, q3 2⟩
theorem bytes0 : bytesP p0 = (ptT p0).bytes := by unfold bytesP; rw [if_pos right0]
theorem read0 {s : ByteArray} (hs : s = tx (bytesP p0)) {w : World} {e : Ending} {w' : World} (h : ReadPP s w e w') : Below w.heap.size w w' ∧ ∃ dv ov, e = .returned (.tuple #[ptV p0.note dv ov, .nilIface]) ∧ PReads w' p0.note dv ov p0 := by
  obtain ⟨hb, ⟨p, dv, ov, hw, _, hr, hby, he, hp⟩ | ⟨hno, _⟩⟩ := h
  · have hT : ptT p = ptT p0 := by
      rw [hs, tx_list, bytes0] at hby
      exact (Tm.unique _ _ [] [] (ptT_ok p) (ptT_ok p0) (by rw [List.append_nil, List.append_nil]; exact hby.symm)).1
    have := ptT_inj hw p0_fine.wf hT
    subst this
    exact ⟨hb, dv, ov, he, hp⟩
  · exact absurd (by rw [hs, tx_list, bytes0]) (hno p0 p0_fine.wf right0)
theorem inv_post0 {w : World} {e : Ending} {w' : World} (h : InvPost p0 w e w') : Below w.heap.size w w' ∧ ∃ dv ov, e = .returned (.tuple #[ptV undoB dv ov, .nilIface]) ∧ PReads w' undoB dv ov (invP p0) := by
  obtain ⟨h | h | ⟨_, _, h⟩, hb⟩ := h
  · rw [right0] at h; cases h.1
  · rw [inv0.1] at h; cases h.2.1
  · exact ⟨hb, h⟩

set_option maxHeartbeats 4000000 in
set_option maxRecDepth 100000 in
theorem pawake_any (w : World) (he : Env w) (hk : HasK w) : Calls Tryz.prog 8 #[] w fun e w' => e = .returned (.bool true) ∧ Below w.heap.size w w' := by
  obtain ⟨hpr, hbl⟩ := lay0_reads w
  have c1 : ∀ wz, Below (lay0 w).heap.size (lay0 w) wz → Calls Tryz.prog 10 #[ptV ⟨#[]⟩ (.slice none 0 0) (.slice (some ⟨w.heap.size + 1, 0, none⟩) 1 1)] wz fun e w' => e = .returned (.tuple #[.string (tx (bytesP p0)), .nilIface]) ∧ Below wz.heap.size wz w' := fun wz hz => by
    have h := pwrite_any p0 _ _ wz (hpr.below hz) p0_fine ((he.tab.below hbl).below hz)
    unfold wrV at h
    rw [if_pos right0] at h
    exact h
  have c2 : ∀ wz, Below w.heap.size w wz → Calls Tryz.prog 18 #[.string (tx (bytesP p0))] wz fun e w' => (∃ dv ov, e = .returned (.tuple #[ptV ⟨#[]⟩ dv ov, .nilIface]) ∧ PReads w' ⟨#[]⟩ dv ov p0) ∧ Below wz.heap.size wz w' := fun wz hz => by
    refine (pread_any (tx (bytesP p0)) wz (by rw [ba_tx]; have := bytesP_len p0; omega) (he.below hz)).mono fun e w' h => ?_
    have h := read0 rfl h
    exact ⟨h.2, h.1⟩
  have c3 : ∀ wz, Below (lay0 w).heap.size (lay0 w) wz → Calls Tryz.prog 23 #[ptV ⟨#[]⟩ (.slice none 0 0) (.slice (some ⟨w.heap.size + 1, 0, none⟩) 1 1)] wz fun e w' => (∃ u dv ov, e = .returned (.tuple #[ptV u dv ov, .nilIface]) ∧ PReads w' u dv ov (invP p0)) ∧ Below wz.heap.size wz w' := fun wz hz =>
    (pinverse_any p0 _ _ wz (hpr.below hz) p0_fine ((he.tab.below hbl).below hz) ((hk.below hbl).below hz)).mono fun e w' h => ⟨⟨_, (inv_post0 h).2⟩, (inv_post0 h).1⟩
  have c4 : ∀ wz, Below (lay0 w).heap.size (lay0 w) wz → Calls Tryz.prog 16 #[ptV ⟨#[]⟩ (.slice none 0 0) (.slice (some ⟨w.heap.size + 1, 0, none⟩) 1 1)] wz fun e w' => e = .returned (.int .i64 1) ∧ Below wz.heap.size wz w' := fun wz hz =>
    pmade_any p0 _ _ wz (hpr.below hz) (by decide)
  obtain ⟨X, hX⟩ : ∃ X, X = tx (bytesP p0) := ⟨_, rfl⟩
  rw [← hX] at c1 c2
  have C1 := Lib.hid c1
  have C2 := Lib.hid c2
  have C3 := Lib.hid c3
  have C4 := Lib.hid c4
  have HBL := Lib.hid hbl
  clear c1 c2 c3 c4 hbl hpr he hk hX
  go_enter Tryz.func8, Tryz.ntmps8
  go_wp2_with fail
  refine (C1.out _ (Below.refl _ _)).mono ?_
  rintro e w1 ⟨rfl, hb1⟩
  have B1 := Lib.hid (show Below (lay0 w).heap.size (lay0 w) w1 from hb1)
  clear hb1
  go_wp2_with fail
  refine (C2.out _ (HBL.out.trans (B1.out.mono HBL.out.size))).mono ?_
  rintro e w2 ⟨⟨dv, ov, rfl, hq⟩, hb2⟩
  obtain ⟨dl, dc, hdv, _⟩ := hq.deps.form
  obtain ⟨ol, oc, hov, _⟩ := hq.ops.form
  have e1 : p0.deps.length = 0 := rfl
  have e2 : p0.ops.length = 1 := rfl
  rw [e1] at hdv
  rw [e2] at hov
  subst hdv
  subst hov
  have B2 := Lib.hid (B1.out.trans (hb2.mono B1.out.size))
  clear hb2 e1 e2 hq
  have B3 := Lib.hid (B2.out.alloc B2.out.size (.cells #[.string ⟨#[]⟩, .slice dl 0 dc, .slice ol 1 oc] 25))
  obtain ⟨y0, y1, y2⟩ := lay0_cells B3.out
  go_wp2_with fail
  refine (C3.out _ B3.out).mono ?_
  rintro e w4 ⟨⟨u, dv, ov, rfl, hi⟩, hb4⟩
  obtain ⟨dl', dc', hdv, _⟩ := hi.deps.form
  obtain ⟨ol', oc', hov, _⟩ := hi.ops.form
  have e2 : (invP p0).ops.length = 1 := by rw [inv0.2.2]; rfl
  have hops := hi.ops
  rw [inv0.2.1] at hdv
  rw [e2] at hov
  subst hdv
  subst hov
  rw [inv0.2.2] at hops
  obtain ⟨b, o, rfl, hone, hcl⟩ := hops.at (j := 0) (x := ⟨4, ⟨0, 0⟩, ⟨0, 0⟩, []⟩) rfl
  obtain ⟨_, i0, _⟩ := hcl.2 0 _ rfl
  rw [Nat.zero_mul, Nat.add_zero] at i0
  simp only at i0
  have qb : ∀ j, w4.cell? ⟨w2.heap.size, j, none⟩ = #[Value.string ⟨#[]⟩, .slice dl 0 dc, .slice ol 1 oc][j]? := fun j => (hb4.cell (p := ⟨w2.heap.size, j, none⟩) (by simp)).trans (World.cell?_alloc_at _ _ _ _ rfl)
  have qb2 : w4.cell? ⟨w2.heap.size, 2, none⟩ = some (.slice ol 1 oc) := qb 2
  have B4 := Lib.hid (B3.out.trans (hb4.mono B3.out.size))
  obtain ⟨z0, z1, z2⟩ := lay0_cells B4.out
  have B5 := Lib.hid (B4.out.alloc B4.out.size (.cells #[.string u, .slice dl' 1 dc', .slice (some ⟨b, o, none⟩) 1 oc'] 25))
  have hal : ∀ q j v, w4.cell? ⟨q, j, none⟩ = some v → (w4.alloc (.cells #[.string u, .slice dl' 1 dc', .slice (some ⟨b, o, none⟩) 1 oc'] 25)).cell? ⟨q, j, none⟩ = some v := fun q j v hv => (((Below.refl _ w4).alloc (Nat.le_refl _) _).cell (p := ⟨q, j, none⟩) (cell_lt hv)).trans hv
  have qa := hal _ _ _ qb2
  have ia := hal _ _ _ i0
  have za0 := hal _ _ _ z0
  have za1 := hal _ _ _ z1
  have za2 := hal _ _ _ z2
  clear hal hone hb4 hcl hops hi qb y0 y1 y2 e2 C1 C2 C3
  go_wp2_with fail
  refine (C4.out _ B5.out).mono ?_
  rintro e w6 ⟨rfl, hb6⟩
  have c6 : ∀ q j v, (w4.alloc (.cells #[.string u, .slice dl' 1 dc', .slice (some ⟨b, o, none⟩) 1 oc'] 25)).cell? ⟨q, j, none⟩ = some v → w6.cell? ⟨q, j, none⟩ = some v := fun q j v hv => (hb6.cell (p := ⟨q, j, none⟩) (cell_lt hv)).trans hv
  have ib := c6 _ _ _ ia
  have ic1 := c6 w4.heap.size 1 (.slice dl' 1 dc') (World.cell?_alloc_at _ _ _ _ rfl)
  have ic2 := c6 w4.heap.size 2 (.slice (some ⟨b, o, none⟩) 1 oc') (World.cell?_alloc_at _ _ _ _ rfl)
  have B6 := Lib.hid (HBL.out.trans ((B5.out.trans (hb6.mono B5.out.size)).mono HBL.out.size))
  clear c6 hb6
  go_wp2_with fail
  go_ret
  exact ⟨rfl, B6.out⟩
end Go.Proofs.YtnlakehcghoclaaGreatDoor
set_option linter.unusedVariables false
namespace Go.Proofs.YtnlakehcghoclaaGreatDoor
open Go.ChangeShapes Go.WideShapes Go.ChangeAt Go.RowKit

theorem commB_comm (p q : Pt) : commB p q = commB q p := by
  unfold commB
  cases rightP p <;> cases rightP q <;> cases Lib.containsS p.deps (tx (nameP q)) <;> cases Lib.containsS q.deps (tx (nameP p)) <;> rfl

set_option maxHeartbeats 4000000 in
set_option maxRecDepth 100000 in
theorem commlaw (p q : Pt) (dv ov dv' ov' : Value) (w : World) (hp : PReads w p.note dv ov p) (hf : p.fine) (hl : ∀ o ∈ p.ops, o.lines.length ≤ 140737488355328) (hq : PReads w q.note dv' ov' q) (hg : q.fine) (hlq : ∀ o ∈ q.ops, o.lines.length ≤ 140737488355328) (he : Env w) (hk : HasK w) :
    Calls Tryz.prog 7 #[ptV p.note dv ov, ptV q.note dv' ov'] w fun e w' => e = .returned (.bool true) ∧ Below w.heap.size w w' := by
  have hb2 : ∀ o1 o2, Below w.heap.size w ((w.alloc o1).alloc o2) := fun o1 o2 => ((Below.refl _ _).alloc (Nat.le_refl _) _).alloc (by simp) _
  obtain ⟨da, dc, hdv, _⟩ := hp.deps.form
  obtain ⟨oa, oc, hov, _⟩ := hp.ops.form
  obtain ⟨da', dc', hdv', _⟩ := hq.deps.form
  obtain ⟨oa', oc', hov', _⟩ := hq.ops.form
  subst hdv; subst hov; subst hdv'; subst hov'
  obtain ⟨m, hm⟩ : ∃ m, m = p.deps.length := ⟨_, rfl⟩
  obtain ⟨n, hn⟩ : ∃ n, n = p.ops.length := ⟨_, rfl⟩
  obtain ⟨m', hm'⟩ : ∃ m, m = q.deps.length := ⟨_, rfl⟩
  obtain ⟨n', hn'⟩ : ∃ n, n = q.ops.length := ⟨_, rfl⟩
  have c0 : ∀ wz, Below w.heap.size w wz → Calls Tryz.prog 8 #[] wz fun e w' => e = .returned (.bool true) ∧ Below wz.heap.size wz w' := fun wz hz => pawake_any wz (he.below hz) (hk.below hz)
  have c1 : ∀ wz, Below w.heap.size w wz → Calls Tryz.prog 9 #[ptV p.note (.slice da m dc) (.slice oa n oc)] wz fun e w' => e = .returned (.bool (smallP p)) ∧ Below wz.heap.size wz w' := fun wz hz => by
    rw [hm, hn]; exact psmall_any p _ _ wz (hp.below hz) hl
  have c2 : ∀ wz, Below w.heap.size w wz → Calls Tryz.prog 9 #[ptV q.note (.slice da' m' dc') (.slice oa' n' oc')] wz fun e w' => e = .returned (.bool (smallP q)) ∧ Below wz.heap.size wz w' := fun wz hz => by
    rw [hm', hn']; exact psmall_any q _ _ wz (hq.below hz) hlq
  have c3 : ∀ wz, Below w.heap.size w wz → Calls Tryz.prog 26 #[ptV p.note (.slice da m dc) (.slice oa n oc), ptV q.note (.slice da' m' dc') (.slice oa' n' oc')] wz fun e w' => e = .returned (.bool (commB p q)) ∧ Below wz.heap.size wz w' := fun wz hz => by
    rw [hm, hn, hm', hn']; exact pcommute_any p q _ _ _ _ wz (hp.below hz) hf (hq.below hz) hg (he.tab.below hz) (hk.below hz)
  have c4 : smallP p = true → smallP q = true → ∀ wz, Below w.heap.size w wz → Calls Tryz.prog 28 #[ptV p.note (.slice da m dc) (.slice oa n oc), ptV q.note (.slice da' m' dc') (.slice oa' n' oc')] wz fun e w' => e = .returned (.bool (commB p q)) ∧ Below wz.heap.size wz w' := fun s1 s2 wz hz => by
    rw [hm, hn, hm', hn']; exact rcommute_any p q _ _ _ _ wz (hp.below hz) hf (small_lines s1) (hq.below hz) hg (small_lines s2)
  have c5 : ∀ wz, Below w.heap.size w wz → Calls Tryz.prog 26 #[ptV q.note (.slice da' m' dc') (.slice oa' n' oc'), ptV p.note (.slice da m dc) (.slice oa n oc)] wz fun e w' => e = .returned (.bool (commB p q)) ∧ Below wz.heap.size wz w' := fun wz hz => by
    rw [hm, hn, hm', hn', commB_comm]; exact pcommute_any q p _ _ _ _ wz (hq.below hz) hg (hp.below hz) hf (he.tab.below hz) (hk.below hz)
  rw [← hm, ← hn, ← hm', ← hn']
  obtain ⟨t, htt⟩ : ∃ t, t = p.note := ⟨_, rfl⟩
  obtain ⟨t', htt'⟩ : ∃ t, t = q.note := ⟨_, rfl⟩
  rw [← htt] at c1 c3 c4 c5 ⊢
  rw [← htt'] at c2 c3 c4 c5 ⊢
  obtain ⟨B, hB⟩ : ∃ B, B = commB p q := ⟨_, rfl⟩
  rw [← hB] at c3 c4 c5
  obtain ⟨s1, hs1⟩ : ∃ s, s = smallP p := ⟨_, rfl⟩
  obtain ⟨s2, hs2⟩ : ∃ s, s = smallP q := ⟨_, rfl⟩
  rw [← hs1] at c1 c4
  rw [← hs2] at c2 c4
  have C0 := Lib.hid c0
  have C1 := Lib.hid c1
  have C2 := Lib.hid c2
  have C3 := Lib.hid c3
  have C5 := Lib.hid c5
  have C4 := Lib.hid c4
  have HB2 := Lib.hid hb2
  clear c0 c1 c2 c3 c4 c5 hb2 hm hn hm' hn' htt htt' hp hf hq hg he hk hB hs1 hs2 hl hlq
  cases s1 with
  | false =>
    go_enter Tryz.func7, Tryz.ntmps7
    go_wp2_with fail
    refine (C0.out _ (HB2.out _ _)).mono ?_
    rintro e w1 ⟨rfl, hb⟩
    obtain ⟨q1, q2, qb, qs⟩ := boxA2 hb
    have q10 := (q1 0).trans rfl
    have q11 := (q1 1).trans rfl
    have q12 := (q1 2).trans rfl
    have QB := Lib.hid qb
    clear hb qb q1 q2
    go_wp2_with fail
    refine (C1.out _ QB.out).mono ?_
    rintro e w2 ⟨rfl, hb⟩
    have QB2 := Lib.hid (QB.out.trans (hb.mono QB.out.size))
    clear hb
    go_wp2_with fail
    go_ret
    exact ⟨rfl, QB2.out⟩
  | true =>
    have HC3 := Lib.hid (C4.out rfl)
    clear C4
    go_enter Tryz.func7, Tryz.ntmps7
    go_wp2_with fail
    refine (C0.out _ (HB2.out _ _)).mono ?_
    rintro e w1 ⟨rfl, hb⟩
    obtain ⟨q1, q2, qb, qs⟩ := boxA2 hb
    have q10 := (q1 0).trans rfl
    have q11 := (q1 1).trans rfl
    have q12 := (q1 2).trans rfl
    have q20 := (q2 0).trans rfl
    have q21 := (q2 1).trans rfl
    have q22 := (q2 2).trans rfl
    have QB := Lib.hid qb
    clear hb qb q1 q2
    go_wp2_with fail
    refine (C1.out _ QB.out).mono ?_
    rintro e w2 ⟨rfl, hb⟩
    have c : ∀ q j u, w1.cell? ⟨q, j, none⟩ = some u → w2.cell? ⟨q, j, none⟩ = some u := fun q j u hu => (hb.cell (p := ⟨q, j, none⟩) (cell_lt hu)).trans hu
    have r10 := c _ _ _ q10
    have r11 := c _ _ _ q11
    have r12 := c _ _ _ q12
    have r20 := c _ _ _ q20
    have r21 := c _ _ _ q21
    have r22 := c _ _ _ q22
    have QB2 := Lib.hid (QB.out.trans (hb.mono QB.out.size))
    clear hb c q10 q11 q12 q20 q21 q22
    go_wp2_with fail
    refine (C2.out _ QB2.out).mono ?_
    rintro e w3 ⟨rfl, hb⟩
    have c : ∀ q j u, w2.cell? ⟨q, j, none⟩ = some u → w3.cell? ⟨q, j, none⟩ = some u := fun q j u hu => (hb.cell (p := ⟨q, j, none⟩) (cell_lt hu)).trans hu
    have s10 := c _ _ _ r10
    have s11 := c _ _ _ r11
    have s12 := c _ _ _ r12
    have s20 := c _ _ _ r20
    have s21 := c _ _ _ r21
    have s22 := c _ _ _ r22
    have QB3 := Lib.hid (QB2.out.trans (hb.mono QB2.out.size))
    clear hb c r10 r11 r12 r20 r21 r22
    cases s2 with
    | false =>
      go_wp2_with fail
      go_ret
      exact ⟨rfl, QB3.out⟩
    | true =>
      have HC4 : Hid (∀ wz, Below w.heap.size w wz → Calls Tryz.prog 28 #[ptV t (.slice da m dc) (.slice oa n oc), ptV t' (.slice da' m' dc') (.slice oa' n' oc')] wz fun e w' => e = .returned (.bool B) ∧ Below wz.heap.size wz w') := by
        first
          | exact Lib.hid (HC3.out rfl)
          | exact Lib.hid (HC3.out trivial)
      clear HC3
      go_wp2_with fail
      refine (C3.out _ QB3.out).mono ?_
      rintro e w4 ⟨rfl, hb⟩
      have c : ∀ q j u, w3.cell? ⟨q, j, none⟩ = some u → w4.cell? ⟨q, j, none⟩ = some u := fun q j u hu => (hb.cell (p := ⟨q, j, none⟩) (cell_lt hu)).trans hu
      have t10 := c _ _ _ s10
      have t11 := c _ _ _ s11
      have t12 := c _ _ _ s12
      have t20 := c _ _ _ s20
      have t21 := c _ _ _ s21
      have t22 := c _ _ _ s22
      have QB4 := Lib.hid (QB3.out.trans (hb.mono QB3.out.size))
      clear hb c s10 s11 s12 s20 s21 s22
      go_wp2_with fail
      refine (HC4.out _ QB4.out).mono ?_
      rintro e w5 ⟨rfl, hb⟩
      have c : ∀ q j u, w4.cell? ⟨q, j, none⟩ = some u → w5.cell? ⟨q, j, none⟩ = some u := fun q j u hu => (hb.cell (p := ⟨q, j, none⟩) (cell_lt hu)).trans hu
      have u10 := c _ _ _ t10
      have u11 := c _ _ _ t11
      have u12 := c _ _ _ t12
      have u20 := c _ _ _ t20
      have u21 := c _ _ _ t21
      have u22 := c _ _ _ t22
      have QB5 := Lib.hid (QB4.out.trans (hb.mono QB4.out.size))
      clear hb c t10 t11 t12 t20 t21 t22
      cases B
      all_goals go_wp2_with fail
      all_goals refine (C5.out _ QB5.out).mono ?_
      all_goals rintro e w6 ⟨rfl, hb⟩
      all_goals have QB6 := Lib.hid (QB5.out.trans (hb.mono QB5.out.size))
      all_goals clear hb
      all_goals go_wp2_with fail
      all_goals go_ret
      all_goals exact ⟨rfl, QB6.out⟩
end Go.Proofs.YtnlakehcghoclaaGreatDoor
