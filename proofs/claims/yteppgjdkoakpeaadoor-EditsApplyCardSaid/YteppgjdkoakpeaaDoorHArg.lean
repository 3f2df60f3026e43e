/- An argument that is a slice of hunks, opened. -/
import Derived.Test.YteppgjdkoakpeaaDoorLawC
import Derived.Test.YteppgjdkoakpeaaDoorHReads
import Derived.Deep.Slices
import Derived.Deep.Fields
set_option linter.unusedVariables false
namespace Go.Proofs.YteppgjdkoakpeaaDoor
open Go.ChangeShapes Go.WideShapes Go.ChangeAt Go.RowKit Go.Deep

theorem list_of {α : Type} (Q : Nat → α → Prop) : ∀ n, (∀ i, i < n → ∃ p, Q i p) → ∃ ps : List α, ps.length = n ∧ ∀ (i : Nat) p, ps[i]? = some p → Q i p
  | 0, _ => ⟨[], rfl, by simp⟩
  | n + 1, h => by
    obtain ⟨ps, hl, hq⟩ := list_of Q n fun i hi => h i (by omega)
    obtain ⟨p, hp⟩ := h n (by omega)
    refine ⟨ps ++ [p], by simp [hl], fun i q hi => ?_⟩
    rcases Nat.lt_or_ge i n with hn | hn
    · rw [List.getElem?_append_left (by omega)] at hi
      exact hq i q hi
    · have hlt := (List.getElem?_eq_some_iff.1 hi).1
      simp [hl] at hlt
      have e : i = n := by omega
      subst e
      rw [List.getElem?_append_right (by omega), hl, Nat.sub_self] at hi
      have : p = q := by simpa using hi
      subst this
      exact hp

theorem mem_weightsAll' {H : Type} {P : Program} {e : TypeId} {d : DataW H} {n : Nat} {l : List (DataW H)} (hn : n ∈ d.weights P e) (hd : d ∈ l) : n ∈ DataW.weightsAll P e l := mem_weightsAll hn hd

set_option maxRecDepth 100000 in
theorem open_hunk {H : Type} {enc : TypeId × Value → H} {W : World} {fuel : Nat} {cs : List Value} {x : DataW H × List MemPlace} (h : DataW.trod enc Tryd.prog W 0 (fun _ => true) true fuel 26 cs = some x) (hw : ∀ n ∈ x.1.weights Tryd.prog 26, n ≤ reachBytes) :
    ∃ p : Hk × Value, cs = [.int .i64 p.1.at_, .int .i64 p.1.cut, p.2] ∧ Sl W p.2 p.1.put ∧ p.1.put.length ≤ 140737488355328 := by
  have hu := Tryd.underlying26
  have hc3 : Tryd.prog.cellsOf 26 = 3 := by kernel_rfl
  have ci : Tryd.prog.cellsOf 3 = 1 := by kernel_rfl
  have cl : Tryd.prog.cellsOf 22 = 1 := by kernel_rfl
  obtain ⟨xs, n, _, hx, hlen, hxl, hf⟩ := DataW.trod_struct hu h
  rw [hc3] at hlen
  obtain ⟨v0, v1, v2, rfl⟩ : ∃ v0 v1 v2, cs = [v0, v1, v2] := by
    match cs, hlen with
    | [v0, v1, v2], _ => exact ⟨v0, v1, v2, rfl⟩
  obtain ⟨y0, y1, y2, rfl⟩ : ∃ y0 y1 y2, xs = [y0, y1, y2] := by
    match xs, hxl with
    | [y0, y1, y2], _ => exact ⟨y0, y1, y2, rfl⟩
  have f0 : DataW.trod enc Tryd.prog W 0 (fun _ => true) true n 3 (([v0, v1, v2].drop 0).take (Tryd.prog.cellsOf 3)) = [y0, y1, y2][0]? := hf 0 _ rfl
  have f1 : DataW.trod enc Tryd.prog W 0 (fun _ => true) true n 3 (([v0, v1, v2].drop 1).take (Tryd.prog.cellsOf 3)) = [y0, y1, y2][1]? := hf 1 _ rfl
  have f2 : DataW.trod enc Tryd.prog W 0 (fun _ => true) true n 22 (([v0, v1, v2].drop 2).take (Tryd.prog.cellsOf 22)) = [y0, y1, y2][2]? := hf 2 _ rfl
  rw [ci] at f0 f1
  rw [cl] at f2
  obtain ⟨A, e0, -, -⟩ := DataW.trod_int (k := .i64) (x := y0) Tryd.underlying3 (by simpa using f0)
  obtain ⟨C, e1, -, -⟩ := DataW.trod_int (k := .i64) (x := y1) Tryd.underlying3 (by simpa using f1)
  have f2' : DataW.trod enc Tryd.prog W 0 (fun _ => true) true n 22 [v2] = some y2 := by simpa using f2
  have ev : ∃ ao l c, v2 = .slice ao l c := by
    rcases open_slice Tryd.underlying22 f2' with ⟨e, _⟩ | ⟨a, l, c, _, _, _, _, e, _⟩
    · simp at e; exact ⟨_, _, _, e⟩
    · simp at e; exact ⟨_, _, _, e⟩
  obtain ⟨ao, l, c, rfl⟩ := ev
  have hw2 : ∀ n ∈ y2.1.weights Tryd.prog 22, n ≤ reachBytes := by
    intro k hk
    refine hw k ?_
    rw [hx]
    simp only [List.map_cons, List.map_nil, DataW.weights, hu]
    exact DataW.weights_mem_each (j := 2) rfl rfl k hk
  obtain ⟨ys, hs, hl⟩ := open_sl Tryd.underlying22 Tryd.underlying9 (by kernel_rfl) (of_decide_eq_true (by kernel_rfl)) f2' hw2
  refine ⟨(⟨A, C, ys⟩, .slice ao l c), ?_, hs, hl⟩
  have a0 : v0 = .int .i64 A := by simpa using e0
  have a1 : v1 = .int .i64 C := by simpa using e1
  rw [a0, a1]

set_option maxRecDepth 100000 in
theorem open_hsArg {H : Type} {enc : TypeId × Value → H} {W : World} {b0 : Nat} {r : Reach} {t : TypeId} {v : Value} {d : DataW H} {p : List MemPlace}
    (ht : Tryd.prog.underlying t = some (.slice 26)) (hval : Value.okWide Tryd.prog W r b0 t v) (h : DataW.Trod enc Tryd.prog W 0 (fun _ => true) true t v d p)
    (hw : ∀ n ∈ d.weights Tryd.prog t, n ≤ reachBytes) : ∃ hs : List Hk, HReads W v hs ∧ hs.length ≤ 140737488355328 ∧ ∀ k ∈ hs, k.put.length ≤ 140737488355328 := by
  have hreach : reachBytes ≤ 140737488355328 := by decide
  have hc3 : Tryd.prog.cellsOf 26 = 3 := by kernel_rfl
  have hby : 0 < Tryd.prog.bytesOf 26 := of_decide_eq_true (by kernel_rfl)
  obtain ⟨a0, len, cap, rfl⟩ := okWide_slice ht hval
  obtain ⟨fuel, hf⟩ := h
  rcases open_slice ht hf with ⟨hcs, hx⟩ | ⟨a, len', cap', m, n, D, Pl, hcs, _, hl, hm, hmm, hx, hi⟩
  · simp [Value.cells] at hcs
    obtain ⟨rfl, rfl, rfl⟩ := hcs
    exact ⟨[], ⟨[], rfl, .inl ⟨rfl, _, _, rfl⟩⟩, by simp, by simp⟩
  · simp [Value.cells] at hcs
    obtain ⟨rfl, rfl, rfl⟩ := hcs
    have hd : d = .slice ((List.range len).map D) ((List.range (m - len)).map fun j => D (len + j)) := (Prod.mk.inj hx).1
    subst hd
    simp only [if_true] at hmm
    subst hmm
    rw [hc3] at hi
    have hwd : ∀ i, i < len → ∀ k ∈ (D i).weights Tryd.prog 26, k ≤ reachBytes := by
      intro i hil k hk
      refine hw k ?_
      simp only [DataW.weights, ht, List.mem_cons, List.mem_append]
      exact .inr (.inl (mem_weightsAll hk (List.mem_map.2 ⟨i, List.mem_range.2 hil, rfl⟩)))
    have hel : ∀ i, i < len → ∃ q : Hk × Value, (W.cell? (a.add (i * 3)) = some (.int .i64 q.1.at_) ∧ W.cell? ((a.add (i * 3)).add 1) = some (.int .i64 q.1.cut) ∧ W.cell? ((a.add (i * 3)).add 2) = some q.2) ∧ Sl W q.2 q.1.put ∧ q.1.put.length ≤ 140737488355328 := by
      intro i hil
      obtain ⟨cs', hc, ht'⟩ := hi i (by omega)
      obtain ⟨q, rfl, hs, hl⟩ := open_hunk ht' (hwd i hil)
      obtain ⟨_, _, hat⟩ := World.cells?_some hc
      have h0 := hat 0 (by omega)
      have h1 := hat 1 (by omega)
      have h2 := hat 2 (by omega)
      rw [show (a.add (i * 3)).add 0 = a.add (i * 3) by rw [Go.Deep.add_add]; rfl] at h0
      exact ⟨q, ⟨h0, h1, h2⟩, hs, hl⟩
    obtain ⟨ps, hpl, hps⟩ := list_of _ len hel
    have hlen : len ≤ 140737488355328 := by
      have h1 := hw _ (by simp only [DataW.weights, ht]; exact List.mem_cons_self)
      have h2 : len ≤ ((List.range len).map D).length + ((List.range (m - len)).map fun j => D (len + j)).length := by simp
      have h3 := Nat.le_mul_of_pos_right (((List.range len).map D).length + ((List.range (m - len)).map fun j => D (len + j)).length) hby
      omega
    refine ⟨ps.map (·.1), ⟨ps, rfl, ?_⟩, by rw [List.length_map]; omega, fun k hk => ?_⟩
    · by_cases e : ps = []
      · left
        subst e
        simp at hpl
        subst hpl
        exact ⟨rfl, _, _, rfl⟩
      · right
        have hpos : 0 < len := by
          rcases Nat.eq_zero_or_pos len with h | h
          · exact absurd (List.length_eq_zero_iff.1 (by omega)) e
          · exact h
        obtain ⟨b, off, spot⟩ := a
        have h00 := (hps 0 (ps[0]'(by omega)) (by simp)).1.1
        have hspot : spot = none := by simpa [Addr.add] using World.cell?_spot h00
        subst hspot
        have hadd : ∀ (o k : Nat), (⟨b, o, none⟩ : Addr).add k = ⟨b, o + k, none⟩ := fun o k => Addr.add_lit ..
        refine ⟨e, b, off, m, by rw [hpl], by omega, by unfold maxLen at hm; omega, ?_, fun j q hq => ?_⟩
        · rw [hadd] at h00
          exact cell_lt (o := off + 0 * 3) h00
        · obtain ⟨⟨c0, c1, c2⟩, hs, _⟩ := hps j q hq
          rw [hadd] at c0
          rw [hadd, hadd] at c1 c2
          exact ⟨c0, c1, c2, hs⟩
    · obtain ⟨q, hq, rfl⟩ := List.mem_map.1 hk
      obtain ⟨j, hj, e⟩ := List.mem_iff_getElem.1 hq
      exact (hps j q (by rw [← e]; simp)).2.2
end Go.Proofs.YteppgjdkoakpeaaDoor
