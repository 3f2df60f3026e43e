/- An argument that is a patch, opened. Sets of named patches, read whole: in memory, and as9 an argument. -/
import Derived.Deep.Slices
import Derived.Deep.Fields
import Derived.Test.YtojnagonhihknaaGreatDoorU13
import Derived.Test.YtojnagonhihknaaGreatDoorU16
import Derived.Test.YtojnagonhihknaaGreatDoorU6
import Derived.Test.YtojnagonhihknaaGreatDoorU7
set_option linter.unusedVariables false
namespace Go.Proofs.YtojnagonhihknaaGreatDoor
open Go.ChangeShapes Go.WideShapes Go.ChangeAt Go.RowKit Go.Deep

theorem wfI_of {n : Int} (h : (Lit.int .i64 n).wf = true) : wfI n := by
  simp only [Lit.wf, Bool.and_eq_true, decide_eq_true_eq] at h
  exact h

theorem open_rd {H : Type} {enc : TypeId × Value → H} {P : Program} {W : World} {t e : TypeId} {fuel len : Nat} {a0 : Option Addr} {cap : Nat} {x : DataW H × List MemPlace}
    (ht : P.underlying t = some (.slice e)) (he : P.underlying e = some .string) (hc : P.cellsOf e = 1) (hb : 0 < P.bytesOf e) (hf : DataW.trod enc P W 0 (fun _ => true) true fuel t [.slice a0 len cap] = some x)
    (hw : ∀ n ∈ x.1.weights P t, n ≤ reachBytes) :
    ∃ xs : List ByteArray, Reads W (.slice a0 len cap) xs ∧ xs.length ≤ 140737488355328 ∧ ∀ x ∈ xs, x.size ≤ 140737488355328 := by
  have hreach : reachBytes ≤ 140737488355328 := by decide
  rcases open_strings ht he hc hf with ⟨hcs, hx⟩ | ⟨a, len', cap', ss, hcs, _, hl, hm, hz, hx, hcell, hsz⟩
  · simp at hcs
    obtain ⟨rfl, rfl, rfl⟩ := hcs
    exact ⟨[], .inl ⟨rfl, none, 0, rfl⟩, by simp, by simp⟩
  · simp at hcs
    obtain ⟨rfl, rfl, rfl⟩ := hcs
    have hd : x.1 = .slice (strs (ss.take len)) (strs (ss.drop len)) := by rw [hx]
    rw [hd] at hw
    simp only [if_true] at hz
    have hxl : (ss.take len).length = len := by simp; omega
    have hlen : len ≤ 140737488355328 := by
      have h1 := hw (((strs (H := H) (ss.take len)).length + (strs (H := H) (ss.drop len)).length) * P.bytesOf e) (by simp [DataW.weights, ht])
      have h2 : len ≤ (strs (H := H) (ss.take len)).length + (strs (H := H) (ss.drop len)).length := by simp [strs]; omega
      have h3 := Nat.le_mul_of_pos_right ((strs (H := H) (ss.take len)).length + (strs (H := H) (ss.drop len)).length) hb
      omega
    refine ⟨ss.take len, ?_, by omega, fun x hx => ?_⟩
    · by_cases h0 : len = 0
      · subst h0
        exact .inl ⟨by simp, _, cap, rfl⟩
      · obtain ⟨b, off, spot⟩ := a
        have hspot : spot = none := by simpa [Addr.add] using World.cell?_spot (hcell 0 (by omega))
        subst hspot
        refine .inr ⟨fun e => h0 (by rw [← hxl, e]; rfl), b, off, cap, by rw [hxl], by omega, by unfold maxLen at hm; omega, cell_lt (hcell 0 (by omega)), fun j x hx => ?_⟩
        have hj : j < len := by
          have := (List.getElem?_eq_some_iff.1 hx).1
          omega
        have hX' : ss.getD j ByteArray.empty = x := by
          rw [List.getElem?_take_of_lt hj] at hx
          simp [List.getD, hx]
        have hcj := hcell j (by omega)
        rw [hX'] at hcj
        have ha : (⟨b, off, none⟩ : Addr).add j = ⟨b, off + j, none⟩ := by unfold Addr.add; split <;> simp_all
        rw [← ha]
        exact hcj
    · have hmem : (DataW.lit (H := H) (.string x.data.toList)) ∈ strs (H := H) (ss.take len) := List.mem_map.2 ⟨x, hx, rfl⟩
      have h1 := hw x.data.toList.length (by
        simp only [DataW.weights, ht, List.mem_cons, List.mem_append]
        exact .inr (.inl (mem_weightsAll (by simp [DataW.weights]) hmem)))
      have h2 : x.data.toList.length = x.size := Array.length_toList
      omega

set_option maxRecDepth 100000 in
theorem open_rf {H : Type} {enc : TypeId × Value → H} {W : World} {fuel : Nat} {cs : List Value} {x : DataW H × List MemPlace} (h : DataW.trod enc Tryz.prog W 0 (fun _ => true) true fuel 57 cs = some x) :
    ∃ r : Rf, cs = [.int .i64 r.at_, .int .i64 r.n] ∧ r.wf := by
  have hu := Tryz.underlying57
  have hc2 : Tryz.prog.cellsOf 57 = 2 := by kernel_rfl
  have ci : Tryz.prog.cellsOf 3 = 1 := by kernel_rfl
  obtain ⟨xs, n, _, hx, hlen, hxl, hf⟩ := DataW.trod_struct hu h
  rw [hc2] at hlen
  obtain ⟨v0, v1, rfl⟩ : ∃ v0 v1, cs = [v0, v1] := by
    match cs, hlen with
    | [v0, v1], _ => exact ⟨v0, v1, rfl⟩
  obtain ⟨y0, y1, rfl⟩ : ∃ y0 y1, xs = [y0, y1] := by
    match xs, hxl with
    | [y0, y1], _ => exact ⟨y0, y1, rfl⟩
  have f0 : DataW.trod enc Tryz.prog W 0 (fun _ => true) true n 3 (([v0, v1].drop 0).take (Tryz.prog.cellsOf 3)) = [y0, y1][0]? := hf 0 _ rfl
  have f1 : DataW.trod enc Tryz.prog W 0 (fun _ => true) true n 3 (([v0, v1].drop 1).take (Tryz.prog.cellsOf 3)) = [y0, y1][1]? := hf 1 _ rfl
  rw [ci] at f0 f1
  obtain ⟨A, e0, -, w0⟩ := DataW.trod_int (k := .i64) (x := y0) Tryz.underlying3 (by simpa using f0)
  obtain ⟨C, e1, -, w1⟩ := DataW.trod_int (k := .i64) (x := y1) Tryz.underlying3 (by simpa using f1)
  refine ⟨⟨A, C⟩, ?_, wfI_of w0, wfI_of w1⟩
  have a0 : v0 = .int .i64 A := by simpa using e0
  have a1 : v1 = .int .i64 C := by simpa using e1
  rw [a0, a1]

set_option maxRecDepth 100000 in
theorem open_op {H : Type} {enc : TypeId × Value → H} {W : World} {fuel : Nat} {cs : List Value} {x : DataW H × List MemPlace} (h : DataW.trod enc Tryz.prog W 0 (fun _ => true) true fuel 59 cs = some x) (hw : ∀ n ∈ x.1.weights Tryz.prog 59, n ≤ reachBytes) :
    ∃ q : Opp × Value, cs = [.int .i64 q.1.kind, .int .i64 q.1.a.at_, .int .i64 q.1.a.n, .int .i64 q.1.b.at_, .int .i64 q.1.b.n, q.2] ∧ Reads W q.2 q.1.lines ∧ q.1.wf ∧ q.1.lines.length ≤ 140737488355328 ∧ ∀ x ∈ q.1.lines, x.size ≤ 140737488355328 := by
  have hu := Tryz.underlying59
  have hc6 : Tryz.prog.cellsOf 59 = 6 := by kernel_rfl
  have ci : Tryz.prog.cellsOf 3 = 1 := by kernel_rfl
  have cr : Tryz.prog.cellsOf 57 = 2 := by kernel_rfl
  have cl : Tryz.prog.cellsOf 44 = 1 := by kernel_rfl
  obtain ⟨xs, n, _, hx, hlen, hxl, hf⟩ := DataW.trod_struct hu h
  rw [hc6] at hlen
  obtain ⟨v0, v1, v2, v3, v4, v5, rfl⟩ : ∃ v0 v1 v2 v3 v4 v5, cs = [v0, v1, v2, v3, v4, v5] := by
    match cs, hlen with
    | [v0, v1, v2, v3, v4, v5], _ => exact ⟨v0, v1, v2, v3, v4, v5, rfl⟩
  obtain ⟨y0, y1, y2, y3, rfl⟩ : ∃ y0 y1 y2 y3, xs = [y0, y1, y2, y3] := by
    match xs, hxl with
    | [y0, y1, y2, y3], _ => exact ⟨y0, y1, y2, y3, rfl⟩
  have f0 : DataW.trod enc Tryz.prog W 0 (fun _ => true) true n 3 (([v0, v1, v2, v3, v4, v5].drop 0).take (Tryz.prog.cellsOf 3)) = [y0, y1, y2, y3][0]? := hf 0 _ rfl
  have f1 : DataW.trod enc Tryz.prog W 0 (fun _ => true) true n 57 (([v0, v1, v2, v3, v4, v5].drop 1).take (Tryz.prog.cellsOf 57)) = [y0, y1, y2, y3][1]? := hf 1 _ rfl
  have f2 : DataW.trod enc Tryz.prog W 0 (fun _ => true) true n 57 (([v0, v1, v2, v3, v4, v5].drop 3).take (Tryz.prog.cellsOf 57)) = [y0, y1, y2, y3][2]? := hf 2 _ rfl
  have f3 : DataW.trod enc Tryz.prog W 0 (fun _ => true) true n 44 (([v0, v1, v2, v3, v4, v5].drop 5).take (Tryz.prog.cellsOf 44)) = [y0, y1, y2, y3][3]? := hf 3 _ rfl
  rw [ci] at f0
  rw [cr] at f1 f2
  rw [cl] at f3
  obtain ⟨K, e0, -, w0⟩ := DataW.trod_int (k := .i64) (x := y0) Tryz.underlying3 (by simpa using f0)
  have f1' : DataW.trod enc Tryz.prog W 0 (fun _ => true) true n 57 [v1, v2] = some y1 := by simpa using f1
  have f2' : DataW.trod enc Tryz.prog W 0 (fun _ => true) true n 57 [v3, v4] = some y2 := by simpa using f2
  have f3' : DataW.trod enc Tryz.prog W 0 (fun _ => true) true n 44 [v5] = some y3 := by simpa using f3
  obtain ⟨r, e1, wr⟩ := open_rf f1'
  obtain ⟨s, e2, ws⟩ := open_rf f2'
  have ev : ∃ ao l c, v5 = .slice ao l c := by
    rcases open_slice Tryz.underlying44 f3' with ⟨e, _⟩ | ⟨a, l, c, _, _, _, _, e, _⟩
    · simp at e; exact ⟨_, _, _, e⟩
    · simp at e; exact ⟨_, _, _, e⟩
  obtain ⟨ao, l, c, rfl⟩ := ev
  have hw3 : ∀ n ∈ y3.1.weights Tryz.prog 44, n ≤ reachBytes := by
    intro k hk
    refine hw k ?_
    rw [hx]
    simp only [List.map_cons, List.map_nil, DataW.weights, hu]
    exact DataW.weights_mem_each (j := 3) rfl rfl k hk
  obtain ⟨ys, hs, hl, hz⟩ := open_rd Tryz.underlying44 Tryz.underlying9 (by kernel_rfl) (of_decide_eq_true (by kernel_rfl)) f3' hw3
  refine ⟨(⟨K, r, s, ys⟩, .slice ao l c), ?_, hs, ⟨wfI_of w0, wr, ws⟩, hl, hz⟩
  have a0 : v0 = .int .i64 K := by simpa using e0
  simp only [List.cons.injEq, and_true] at e1 e2
  rw [a0, e1.1, e1.2, e2.1, e2.2]

set_option maxRecDepth 100000 in
theorem open_opsA {H : Type} {enc : TypeId × Value → H} {W : World} {fuel len cap : Nat} {a0 : Option Addr} {x : DataW H × List MemPlace} (hf : DataW.trod enc Tryz.prog W 0 (fun _ => true) true fuel 45 [.slice a0 len cap] = some x)
    (hw : ∀ n ∈ x.1.weights Tryz.prog 45, n ≤ reachBytes) :
    ∃ os : List Opp, OReads W (.slice a0 len cap) os ∧ os.length ≤ 140737488355328 ∧ ∀ o ∈ os, o.wf ∧ o.lines.length ≤ 140737488355328 ∧ ∀ x ∈ o.lines, x.size ≤ 140737488355328 := by
  have hreach : reachBytes ≤ 140737488355328 := by decide
  have ht := Tryz.underlying45
  have hc6 : Tryz.prog.cellsOf 59 = 6 := by kernel_rfl
  have hby : 0 < Tryz.prog.bytesOf 59 := of_decide_eq_true (by kernel_rfl)
  rcases open_slice ht hf with ⟨hcs, hx⟩ | ⟨a, len', cap', m, n, D, Pl, hcs, _, hl, hm, hmm, hx, hi⟩
  · simp at hcs
    obtain ⟨rfl, rfl, rfl⟩ := hcs
    exact ⟨[], .inl ⟨rfl, _, _, rfl⟩, by simp, by simp⟩
  · simp at hcs
    obtain ⟨rfl, rfl, rfl⟩ := hcs
    have hd : x.1 = .slice ((List.range len).map D) ((List.range (m - len)).map fun j => D (len + j)) := by rw [hx]
    rw [hd] at hw
    simp only [if_true] at hmm
    subst hmm
    rw [hc6] at hi
    have hwd : ∀ i, i < len → ∀ k ∈ (D i).weights Tryz.prog 59, k ≤ reachBytes := by
      intro i hil k hk
      refine hw k ?_
      simp only [DataW.weights, ht, List.mem_cons, List.mem_append]
      exact .inr (.inl (mem_weightsAll hk (List.mem_map.2 ⟨i, List.mem_range.2 hil, rfl⟩)))
    have hel : ∀ i, i < len → ∃ q : Opp × Value, (W.cell? (a.add (i * 6)) = some (.int .i64 q.1.kind) ∧ W.cell? ((a.add (i * 6)).add 1) = some (.int .i64 q.1.a.at_) ∧ W.cell? ((a.add (i * 6)).add 2) = some (.int .i64 q.1.a.n) ∧ W.cell? ((a.add (i * 6)).add 3) = some (.int .i64 q.1.b.at_) ∧ W.cell? ((a.add (i * 6)).add 4) = some (.int .i64 q.1.b.n) ∧ W.cell? ((a.add (i * 6)).add 5) = some q.2) ∧
        Reads W q.2 q.1.lines ∧ q.1.wf ∧ q.1.lines.length ≤ 140737488355328 ∧ ∀ x ∈ q.1.lines, x.size ≤ 140737488355328 := by
      intro i hil
      obtain ⟨cs', hc, ht'⟩ := hi i (by omega)
      obtain ⟨q, rfl, hs⟩ := open_op ht' (hwd i hil)
      obtain ⟨_, _, hat⟩ := World.cells?_some hc
      have h0 := hat 0 (by omega)
      have h1 := hat 1 (by omega)
      have h2 := hat 2 (by omega)
      have h3 := hat 3 (by omega)
      have h4 := hat 4 (by omega)
      have h5 := hat 5 (by omega)
      rw [show (a.add (i * 6)).add 0 = a.add (i * 6) by rw [Go.Deep.add_add]; rfl] at h0
      exact ⟨q, ⟨h0, h1, h2, h3, h4, h5⟩, hs⟩
    obtain ⟨ps, hpl, hps⟩ := list_of _ len hel
    have hlen : len ≤ 140737488355328 := by
      have h1 := hw _ (by simp only [DataW.weights, ht]; exact List.mem_cons_self)
      have h2 : len ≤ ((List.range len).map D).length + ((List.range (m - len)).map fun j => D (len + j)).length := by simp
      have h3 := Nat.le_mul_of_pos_right (((List.range len).map D).length + ((List.range (m - len)).map fun j => D (len + j)).length) hby
      omega
    refine ⟨ps.map (·.1), ?_, by rw [List.length_map]; omega, fun k hk => ?_⟩
    · by_cases e : ps = []
      · left
        subst e
        simp at hpl
        subst hpl
        exact ⟨rfl, _, _, rfl⟩
      · right
        have hpos : 0 < len := by
          rcases Nat.eq_zero_or_pos len with h | h
          · exact absurd (List.length_eq_zero_iff.1 (by omega)) e
          · exact h
        obtain ⟨b, off, spot⟩ := a
        have h00 := (hps 0 (ps[0]'(by omega)) (by simp)).1.1
        have hspot : spot = none := by simpa [Addr.add] using World.cell?_spot h00
        subst hspot
        have hadd : ∀ (o k : Nat), (⟨b, o, none⟩ : Addr).add k = ⟨b, o + k, none⟩ := fun o k => Addr.add_lit ..
        refine ⟨by simpa using e, b, off, m, by rw [List.length_map, hpl], by rw [List.length_map]; omega, by unfold maxLen at hm; omega, ?_, fun j z hz => ?_⟩
        · rw [hadd] at h00
          exact cell_lt (o := off + 0 * 6) h00
        · rw [List.getElem?_map] at hz
          obtain ⟨q, hq, rfl⟩ := Option.map_eq_some_iff.1 hz
          obtain ⟨⟨c0, c1, c2, c3, c4, c5⟩, hs, _⟩ := hps j q hq
          rw [hadd] at c0
          rw [hadd, hadd] at c1 c2 c3 c4 c5
          exact ⟨q.2, c0, c1, c2, c3, c4, c5, hs⟩
    · obtain ⟨q, hq, rfl⟩ := List.mem_map.1 hk
      obtain ⟨j, hj, e⟩ := List.mem_iff_getElem.1 hq
      exact (hps j q (by rw [← e]; simp)).2.2

end Go.Proofs.YtojnagonhihknaaGreatDoor
set_option linter.unusedVariables false
namespace Go.Proofs.YtojnagonhihknaaGreatDoor
open Go.ChangeShapes Go.WideShapes Go.ChangeAt Go.RowKit Go.Deep

abbrev SetP := List (ByteArray × Pt)
def NPAt (w : World) (b o : Nat) (p : ByteArray × Pt) : Prop :=
  ∃ dv ov, w.cell? ⟨b, o, none⟩ = some (.string p.1) ∧ w.cell? ⟨b, o + 1, none⟩ = some (.string p.2.note) ∧ w.cell? ⟨b, o + 2, none⟩ = some dv ∧ w.cell? ⟨b, o + 3, none⟩ = some ov ∧ PReads w p.2.note dv ov p.2
def GReads (w : World) (v : Value) (S : SetP) : Prop :=
  (S = [] ∧ ∃ a c, v = .slice a 0 c) ∨ (S ≠ [] ∧ ∃ b o c, v = .slice (some ⟨b, o, none⟩) S.length c ∧ S.length ≤ c ∧ c ≤ 9223372036854775807 ∧ b < w.heap.size ∧ ∀ j p, S[j]? = some p → NPAt w b (o + j * 4) p)
theorem NPAt.below {w w' : World} {b o : Nat} {p : ByteArray × Pt} (h : NPAt w b o p) (hb : Below w.heap.size w w') (hl : b < w.heap.size) : NPAt w' b o p := by
  obtain ⟨dv, ov, h0, h1, h2, h3, h4⟩ := h
  exact ⟨dv, ov, (hb.cell (p := ⟨b, o, none⟩) hl).trans h0, (hb.cell (p := ⟨b, o + 1, none⟩) hl).trans h1, (hb.cell (p := ⟨b, o + 2, none⟩) hl).trans h2, (hb.cell (p := ⟨b, o + 3, none⟩) hl).trans h3, h4.below hb⟩
theorem GReads.below {w w' : World} {v : Value} {S : SetP} (h : GReads w v S) (hb : Below w.heap.size w w') : GReads w' v S := by
  rcases h with h | ⟨hn, b, o, c, h1, h2, h3, h4, h5⟩
  · exact .inl h
  · exact .inr ⟨hn, b, o, c, h1, h2, h3, Nat.lt_of_lt_of_le h4 hb.size, fun j p hp => (h5 j p hp).below hb h4⟩
theorem GReads.form {w : World} {v : Value} {S : SetP} (h : GReads w v S) : ∃ a c, v = .slice a S.length c ∧ S.length ≤ 9223372036854775807 := by
  rcases h with ⟨rfl, a, c, rfl⟩ | ⟨hn, b, o, c, rfl, hc, hm, _⟩
  · exact ⟨_, _, rfl, Nat.zero_le _⟩
  · exact ⟨_, _, rfl, by omega⟩
theorem GReads.at {w : World} {a : Option Addr} {n c : Nat} {S : SetP} (h : GReads w (.slice a n c) S) {j : Nat} {p : ByteArray × Pt} (hp : S[j]? = some p) : ∃ b o, a = some ⟨b, o, none⟩ ∧ b < w.heap.size ∧ n ≤ c ∧ c ≤ 9223372036854775807 ∧ NPAt w b (o + j * 4) p := by
  rcases h with ⟨rfl, a', c', e⟩ | ⟨hn, b, o, c', e, hc, hm, hl, hx⟩
  · simp at hp
  · simp only [Value.slice.injEq] at e
    obtain ⟨rfl, rfl, rfl⟩ := e
    exact ⟨b, o, rfl, hl, hc, hm, hx j p hp⟩
def sdeps (S : SetP) : SetB := S.map fun p => (p.1, p.2.deps)
theorem GReads.sreads {w : World} {v : Value} {S : SetP} (h : GReads w v S) : SReads w v (sdeps S) := by
  rcases h with ⟨rfl, a, c, e⟩ | ⟨hn, b, o, c, e, hc, hm, hl, hx⟩
  · exact .inl ⟨rfl, a, c, e⟩
  · refine .inr ⟨by simpa [sdeps] using hn, b, o, c, by rw [e]; simp [sdeps], by simpa [sdeps] using hc, hm, hl, fun j p hp => ?_⟩
    unfold sdeps at hp
    rw [List.getElem?_map] at hp
    obtain ⟨q, hq, rfl⟩ := Option.map_eq_some_iff.1 hp
    obtain ⟨dv, ov, h0, h1, h2, h3, h4⟩ := hx j q hq
    obtain ⟨oa, oc, hov, _⟩ := h4.ops.form
    subst hov
    exact ⟨_, _, _, _, _, h0, h1, h2, h3, h4.deps⟩
set_option maxRecDepth 100000 in
theorem open_patchG {H : Type} {enc : TypeId × Value → H} {W : World} {fuel : Nat} {cs : List Value} {x : DataW H × List MemPlace} (h : DataW.trod enc Tryz.prog W 0 (fun _ => true) true fuel 47 cs = some x) (hw : ∀ n ∈ x.1.weights Tryz.prog 47, n ≤ reachBytes) :
    ∃ (p : Pt) (dv ov : Value), cs = [.string p.note, dv, ov] ∧ PReads W p.note dv ov p ∧ p.fine ∧ p.deps.length ≤ 140737488355328 ∧ p.ops.length ≤ 140737488355328 ∧ ∀ o ∈ p.ops, o.lines.length ≤ 140737488355328 := by
  have hreach : reachBytes ≤ 140737488355328 := by decide
  have hu := Tryz.underlying47
  have hc3 : Tryz.prog.cellsOf 47 = 3 := by kernel_rfl
  have cs1 : Tryz.prog.cellsOf 9 = 1 := by kernel_rfl
  have cl : Tryz.prog.cellsOf 44 = 1 := by kernel_rfl
  have co : Tryz.prog.cellsOf 45 = 1 := by kernel_rfl
  obtain ⟨xs, n, _, hx, hlen, hxl, hf⟩ := DataW.trod_struct hu h
  rw [hc3] at hlen
  obtain ⟨v0, v1, v2, rfl⟩ : ∃ v0 v1 v2, cs = [v0, v1, v2] := by
    match cs, hlen with
    | [v0, v1, v2], _ => exact ⟨v0, v1, v2, rfl⟩
  obtain ⟨y0, y1, y2, rfl⟩ : ∃ y0 y1 y2, xs = [y0, y1, y2] := by
    match xs, hxl with
    | [y0, y1, y2], _ => exact ⟨y0, y1, y2, rfl⟩
  have f0 : DataW.trod enc Tryz.prog W 0 (fun _ => true) true n 9 (([v0, v1, v2].drop 0).take (Tryz.prog.cellsOf 9)) = [y0, y1, y2][0]? := hf 0 _ rfl
  have f1 : DataW.trod enc Tryz.prog W 0 (fun _ => true) true n 44 (([v0, v1, v2].drop 1).take (Tryz.prog.cellsOf 44)) = [y0, y1, y2][1]? := hf 1 _ rfl
  have f2 : DataW.trod enc Tryz.prog W 0 (fun _ => true) true n 45 (([v0, v1, v2].drop 2).take (Tryz.prog.cellsOf 45)) = [y0, y1, y2][2]? := hf 2 _ rfl
  rw [cs1] at f0
  rw [cl] at f1
  rw [co] at f2
  obtain ⟨t, e0, ex0, -⟩ := DataW.trod_string (x := y0) Tryz.underlying9 (by simpa using f0)
  have f1' : DataW.trod enc Tryz.prog W 0 (fun _ => true) true n 44 [v1] = some y1 := by simpa using f1
  have f2' : DataW.trod enc Tryz.prog W 0 (fun _ => true) true n 45 [v2] = some y2 := by simpa using f2
  have ev1 : ∃ ao l c, v1 = .slice ao l c := by
    rcases open_slice Tryz.underlying44 f1' with ⟨e, _⟩ | ⟨a, l, c, _, _, _, _, e, _⟩
    · simp at e; exact ⟨_, _, _, e⟩
    · simp at e; exact ⟨_, _, _, e⟩
  have ev2 : ∃ ao l c, v2 = .slice ao l c := by
    rcases open_slice Tryz.underlying45 f2' with ⟨e, _⟩ | ⟨a, l, c, _, _, _, _, e, _⟩
    · simp at e; exact ⟨_, _, _, e⟩
    · simp at e; exact ⟨_, _, _, e⟩
  obtain ⟨a1, l1, c1, rfl⟩ := ev1
  obtain ⟨a2, l2, c2, rfl⟩ := ev2
  have hdx : x.1 = .agg [y0.1, y1.1, y2.1] := by rw [hx]; rfl
  have hwj : ∀ (j : Nat) (ty : TypeId) (d' : DataW H), [9, 44, 45][j]? = some ty → [y0.1, y1.1, y2.1][j]? = some d' → ∀ k ∈ d'.weights Tryz.prog ty, k ≤ reachBytes := by
    intro j ty d' hj hd k hk
    refine hw k ?_
    rw [hdx]
    simp only [DataW.weights, hu]
    exact DataW.weights_mem_each (j := j) hj hd k hk
  obtain ⟨ds, hds, hdl, hdz⟩ := open_rd Tryz.underlying44 Tryz.underlying9 (by kernel_rfl) (of_decide_eq_true (by kernel_rfl)) f1' (hwj 1 _ _ rfl rfl)
  obtain ⟨os, hos, hol, hoz⟩ := open_opsA f2' (hwj 2 _ _ rfl rfl)
  have hts : t.size ≤ reachBytes := by
    have := hwj 0 _ _ rfl rfl t.data.toList.length (by rw [ex0]; simp [DataW.weights])
    have h2 : t.data.toList.length = t.size := Array.length_toList
    omega
  refine ⟨⟨t, ds, os⟩, .slice a1 l1 c1, .slice a2 l2 c2, ?_, ⟨rfl, hds, hos⟩, ⟨fun o ho => (hoz o ho).1, by show t.size ≤ _; omega, hdz, fun o ho => (hoz o ho).2.2⟩, hdl, hol, fun o ho => (hoz o ho).2.1⟩
  have a0 : v0 = .string t := by simpa using e0
  rw [a0]
set_option maxRecDepth 100000 in
theorem open_namedG {H : Type} {enc : TypeId × Value → H} {W : World} {fuel : Nat} {cs : List Value} {x : DataW H × List MemPlace} (h : DataW.trod enc Tryz.prog W 0 (fun _ => true) true fuel 49 cs = some x) (hw : ∀ n ∈ x.1.weights Tryz.prog 49, n ≤ reachBytes) :
    ∃ (nm : ByteArray) (p : Pt) (dv ov : Value), cs = [.string nm, .string p.note, dv, ov] ∧ PReads W p.note dv ov p ∧ p.fine ∧ nm.size ≤ 140737488355328 ∧ p.deps.length ≤ 140737488355328 ∧ p.ops.length ≤ 140737488355328 ∧ ∀ o ∈ p.ops, o.lines.length ≤ 140737488355328 := by
  have hreach : reachBytes ≤ 140737488355328 := by decide
  have hu := Tryz.underlying49
  have hc4 : Tryz.prog.cellsOf 49 = 4 := by kernel_rfl
  have cs1 : Tryz.prog.cellsOf 9 = 1 := by kernel_rfl
  have cp : Tryz.prog.cellsOf 47 = 3 := by kernel_rfl
  obtain ⟨xs, n, _, hx, hlen, hxl, hf⟩ := DataW.trod_struct hu h
  rw [hc4] at hlen
  obtain ⟨v0, v1, v2, v3, rfl⟩ : ∃ v0 v1 v2 v3, cs = [v0, v1, v2, v3] := by
    match cs, hlen with
    | [v0, v1, v2, v3], _ => exact ⟨v0, v1, v2, v3, rfl⟩
  obtain ⟨y0, y1, rfl⟩ : ∃ y0 y1, xs = [y0, y1] := by
    match xs, hxl with
    | [y0, y1], _ => exact ⟨y0, y1, rfl⟩
  have f0 : DataW.trod enc Tryz.prog W 0 (fun _ => true) true n 9 (([v0, v1, v2, v3].drop 0).take (Tryz.prog.cellsOf 9)) = [y0, y1][0]? := hf 0 _ rfl
  have f1 : DataW.trod enc Tryz.prog W 0 (fun _ => true) true n 47 (([v0, v1, v2, v3].drop 1).take (Tryz.prog.cellsOf 47)) = [y0, y1][1]? := hf 1 _ rfl
  rw [cs1] at f0
  rw [cp] at f1
  obtain ⟨nm, e0, ex0, -⟩ := DataW.trod_string (x := y0) Tryz.underlying9 (by simpa using f0)
  have f1' : DataW.trod enc Tryz.prog W 0 (fun _ => true) true n 47 [v1, v2, v3] = some y1 := by simpa using f1
  have hdx : x.1 = .agg [y0.1, y1.1] := by rw [hx]; rfl
  have hwj : ∀ (j : Nat) (ty : TypeId) (d' : DataW H), [9, 47][j]? = some ty → [y0.1, y1.1][j]? = some d' → ∀ k ∈ d'.weights Tryz.prog ty, k ≤ reachBytes := by
    intro j ty d' hj hd k hk
    refine hw k ?_
    rw [hdx]
    simp only [DataW.weights, hu]
    exact DataW.weights_mem_each (j := j) hj hd k hk
  obtain ⟨p, dv, ov, he, hr, hf, h1, h2, h3⟩ := open_patchG f1' (hwj 1 _ _ rfl rfl)
  have hts : nm.size ≤ reachBytes := by
    have := hwj 0 _ _ rfl rfl nm.data.toList.length (by rw [ex0]; simp [DataW.weights])
    have h2 : nm.data.toList.length = nm.size := Array.length_toList
    omega
  have a0 : v0 = .string nm := by simpa using e0
  refine ⟨nm, p, dv, ov, ?_, hr, hf, by omega, h1, h2, h3⟩
  rw [a0, he]
def SetP.fine (S : SetP) : Prop := S.length ≤ 140737488355328 ∧ ∀ p ∈ S, p.2.fine ∧ p.1.size ≤ 140737488355328 ∧ p.2.deps.length ≤ 140737488355328 ∧ p.2.ops.length ≤ 140737488355328 ∧ ∀ o ∈ p.2.ops, o.lines.length ≤ 140737488355328
set_option maxRecDepth 100000 in
theorem open_gsetArg {H : Type} {enc : TypeId × Value → H} {W : World} {b0 : Nat} {r : Reach} {t : TypeId} {v : Value} {d : DataW H} {p : List MemPlace}
    (ht : Tryz.prog.underlying t = some (.slice 49)) (hval : Value.okWide Tryz.prog W r b0 t v) (h : DataW.Trod enc Tryz.prog W 0 (fun _ => true) true t v d p)
    (hw : ∀ n ∈ d.weights Tryz.prog t, n ≤ reachBytes) : ∃ S : SetP, GReads W v S ∧ S.fine := by
  have hreach : reachBytes ≤ 140737488355328 := by decide
  have hc4 : Tryz.prog.cellsOf 49 = 4 := by kernel_rfl
  have hby : 0 < Tryz.prog.bytesOf 49 := of_decide_eq_true (by kernel_rfl)
  obtain ⟨a0, len, cap, rfl⟩ := okWide_slice ht hval
  obtain ⟨fuel, hf⟩ := h
  rcases open_slice ht hf with ⟨hcs, hx⟩ | ⟨a, len', cap', m, n, D, Pl, hcs, _, hl, hm, hmm, hx, hi⟩
  · simp [Value.cells] at hcs
    obtain ⟨rfl, rfl, rfl⟩ := hcs
    exact ⟨[], .inl ⟨rfl, _, _, rfl⟩, by simp, fun p hp => (by cases hp)⟩
  · simp [Value.cells] at hcs
    obtain ⟨rfl, rfl, rfl⟩ := hcs
    have hd : d = .slice ((List.range len).map D) ((List.range (m - len)).map fun j => D (len + j)) := (Prod.mk.inj hx).1
    subst hd
    simp only [if_true] at hmm
    subst hmm
    rw [hc4] at hi
    have hwd : ∀ i, i < len → ∀ k ∈ (D i).weights Tryz.prog 49, k ≤ reachBytes := by
      intro i hil k hk
      refine hw k ?_
      simp only [DataW.weights, ht, List.mem_cons, List.mem_append]
      exact .inr (.inl (mem_weightsAll hk (List.mem_map.2 ⟨i, List.mem_range.2 hil, rfl⟩)))
    have hel : ∀ i, i < len → ∃ q : ByteArray × Pt, (∃ dv ov, W.cell? (a.add (i * 4)) = some (.string q.1) ∧ W.cell? ((a.add (i * 4)).add 1) = some (.string q.2.note) ∧ W.cell? ((a.add (i * 4)).add 2) = some dv ∧ W.cell? ((a.add (i * 4)).add 3) = some ov ∧ PReads W q.2.note dv ov q.2) ∧
        (q.2.fine ∧ q.1.size ≤ 140737488355328 ∧ q.2.deps.length ≤ 140737488355328 ∧ q.2.ops.length ≤ 140737488355328 ∧ ∀ o ∈ q.2.ops, o.lines.length ≤ 140737488355328) := by
      intro i hil
      obtain ⟨cs', hc, ht'⟩ := hi i (by omega)
      obtain ⟨nm, q, dv, ov, rfl, hr, hs⟩ := open_namedG ht' (hwd i hil)
      obtain ⟨_, _, hat⟩ := World.cells?_some hc
      have h0 := hat 0 (by omega)
      have h1 := hat 1 (by omega)
      have h2 := hat 2 (by omega)
      have h3 := hat 3 (by omega)
      rw [show (a.add (i * 4)).add 0 = a.add (i * 4) by rw [Go.Deep.add_add]; rfl] at h0
      exact ⟨(nm, q), ⟨dv, ov, h0, h1, h2, h3, hr⟩, hs⟩
    obtain ⟨ps, hpl, hps⟩ := list_of _ len hel
    have hlen : len ≤ 140737488355328 := by
      have h1 := hw _ (by simp only [DataW.weights, ht]; exact List.mem_cons_self)
      have h2 : len ≤ ((List.range len).map D).length + ((List.range (m - len)).map fun j => D (len + j)).length := by simp
      have h3 := Nat.le_mul_of_pos_right (((List.range len).map D).length + ((List.range (m - len)).map fun j => D (len + j)).length) hby
      omega
    refine ⟨ps, ?_, by omega, fun q hq => ?_⟩
    · by_cases e : ps = []
      · left
        subst e
        simp at hpl
        subst hpl
        exact ⟨rfl, _, _, rfl⟩
      · right
        have hpos : 0 < len := by
          rcases Nat.eq_zero_or_pos len with h | h
          · exact absurd (List.length_eq_zero_iff.1 (by omega)) e
          · exact h
        obtain ⟨b, off, spot⟩ := a
        obtain ⟨_, _, h00, _⟩ := (hps 0 (ps[0]'(by omega)) (by simp)).1
        have hspot : spot = none := by simpa [Addr.add] using World.cell?_spot h00
        subst hspot
        have hadd : ∀ (o k : Nat), (⟨b, o, none⟩ : Addr).add k = ⟨b, o + k, none⟩ := fun o k => Addr.add_lit ..
        refine ⟨e, b, off, m, by rw [hpl], by omega, by unfold maxLen at hm; omega, ?_, fun j q hq => ?_⟩
        · rw [hadd] at h00
          exact cell_lt (o := off + 0 * 4) h00
        · obtain ⟨⟨dv, ov, c0, c1, c2, c3, hr⟩, _⟩ := hps j q hq
          rw [hadd] at c0
          rw [hadd, hadd] at c1 c2 c3
          exact ⟨dv, ov, c0, c1, c2, c3, hr⟩
    · obtain ⟨j, hj, e⟩ := List.mem_iff_getElem.1 hq
      exact (hps j q (by rw [← e]; simp)).2
end Go.Proofs.YtojnagonhihknaaGreatDoor
