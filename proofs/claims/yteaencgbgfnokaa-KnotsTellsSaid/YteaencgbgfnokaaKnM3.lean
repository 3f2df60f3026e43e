/- Mathematics: knots of the tied things by their places. -/
import Derived.Test.YteaencgbgfnokaaKnM2
set_option linter.unusedVariables false
namespace Go.Proofs.Yteaencgbgfnokaa

abbrev EdR (es : List (Nat × Nat)) : Nat → Nat → Prop := fun a b => (a, b) ∈ es
theorem ren_edge {n : Nat} {es : List (Nat × Nat)} {T : List Nat} (hT : Tied n es T) {a b : Nat} (h : EdR (renE T es) a b) : ∃ x y, T[a]? = some x ∧ T[b]? = some y ∧ EdR es x y := by
  obtain ⟨e0, he0, e⟩ := List.mem_map.1 h
  injection e with e1 e2
  subst e1; subst e2
  exact ⟨_, _, idx_at (hT.fst e0 he0), idx_at (hT.snd e0 he0), he0⟩
theorem ren_back {n : Nat} {es : List (Nat × Nat)} {T : List Nat} (hT : Tied n es T) {a b : Nat} (h : Walk (EdR (renE T es)) a b) : ∃ x y, T[a]? = some x ∧ T[b]? = some y ∧ Walk (EdR es) x y := by
  induction h with
  | one he =>
    obtain ⟨x, y, hx, hy, h⟩ := ren_edge hT he
    exact ⟨x, y, hx, hy, .one h⟩
  | more he _ ih =>
    obtain ⟨x, y, hx, hy, h⟩ := ren_edge hT he
    obtain ⟨y', z, hy', hz, hw⟩ := ih
    obtain rfl : y = y' := Option.some.inj (hy.symm.trans hy')
    exact ⟨x, z, hx, hz, .more h hw⟩
theorem ren_forth {n : Nat} {es : List (Nat × Nat)} {T : List Nat} (hT : Tied n es T) {x y : Nat} (h : Walk (EdR es) x y) : Walk (EdR (renE T es)) (T.idxOf x) (T.idxOf y) ∧ x ∈ T ∧ y ∈ T := by
  induction h with
  | one he => exact ⟨.one (List.mem_map.2 ⟨_, he, rfl⟩), hT.fst _ he, hT.snd _ he⟩
  | more he _ ih => exact ⟨.more (List.mem_map.2 ⟨_, he, rfl⟩) ih.1, hT.fst _ he, ih.2.2⟩
theorem least_ren {n : Nat} {es : List (Nat × Nat)} {T : List Nat} (hT : Tied n es T) {p l x y : Nat} (hx : T[p]? = some x) (hy : T[l]? = some y) (h : LeastK (EdR (renE T es)) p l) : LeastK (EdR es) x y := by
  have hle := h.le
  have hyx : y ≤ x := by
    rcases Nat.lt_or_ge l p with h1 | h1
    · exact Nat.le_of_lt ((hT.lt_iff hy hx).1 h1)
    · obtain rfl : l = p := by omega
      have := Option.some.inj (hx.symm.trans hy)
      omega
  have back : ∀ {a b u v : Nat}, T[a]? = some u → T[b]? = some v → Back (EdR (renE T es)) a b → Back (EdR es) u v := by
    intro a b u v hu hv hb
    rcases hb with rfl | hb
    · exact .inl (Option.some.inj (hu.symm.trans hv))
    · obtain ⟨x', y', h1, h2, hw⟩ := ren_back hT hb
      obtain rfl := Option.some.inj (hu.symm.trans h1)
      obtain rfl := Option.some.inj (hv.symm.trans h2)
      exact .inr hw
  refine ⟨⟨back hx hy h.1.1, back hy hx h.1.2⟩, fun b hb => ?_⟩
  rcases hb.1 with rfl | hw
  · exact hyx
  · rcases hb.2 with rfl | hw2
    · exact hyx
    · obtain ⟨f1, _, hbT⟩ := ren_forth hT hw
      obtain ⟨f2, _, _⟩ := ren_forth hT hw2
      rw [hT.idx hx] at f1 f2
      have hbi := idx_at hbT
      have := h.2 _ ⟨.inr f1, .inr f2⟩
      rcases Nat.lt_or_ge l (T.idxOf b) with h1 | h1
      · exact Nat.le_of_lt ((hT.lt_iff hy hbi).1 h1)
      · have he : T.idxOf b = l := by omega
        rw [he] at hbi
        have := Option.some.inj (hbi.symm.trans hy)
        omega
theorem least_free {n : Nat} {es : List (Nat × Nat)} {T : List Nat} (hT : Tied n es T) {x : Nat} (hx : x ∉ T) : LeastK (EdR es) x x := by
  refine ⟨Knot.refl x, fun b hb => ?_⟩
  rcases hb.1 with rfl | hw
  · exact Nat.le_refl _
  · exact absurd (ren_forth hT hw).2.1 hx
/-- Each thing's answer, as far as the first j places have been told. -/
def ansK (T : List Nat) (ls : Nat → Nat) (j x : Nat) : Nat := if x ∈ T.take j then T.getD (ls (T.idxOf x)) 0 else x
theorem ansK_zero (T : List Nat) (ls : Nat → Nat) (x : Nat) : ansK T ls 0 x = x := by simp [ansK]
theorem ansK_step {T : List Nat} {ls : Nat → Nat} {j t : Nat} (hn : T.Nodup) (ht : T[j]? = some t) (x : Nat) : ansK T ls (j + 1) x = if x = t then T.getD (ls j) 0 else ansK T ls j x := by
  unfold ansK
  rw [List.take_add_one, ht]
  by_cases e : x = t
  · subst e
    have : T.idxOf x = j := nodup_at hn (idx_at (List.mem_of_getElem? ht)) ht
    rw [if_pos (by simp), if_pos rfl, this]
  · rw [if_neg e]
    have : x ∈ T.take j ++ (some t).toList ↔ x ∈ T.take j := by simp [e]
    simp only [this]
theorem ansK_all {n : Nat} {es : List (Nat × Nat)} {T : List Nat} (hT : Tied n es T) {ls : Nat → Nat} (h : ∀ p, p < T.length → LeastK (EdR (renE T es)) p (ls p)) (x : Nat) : LeastK (EdR es) x (ansK T ls T.length x) := by
  unfold ansK
  rw [List.take_length]
  by_cases hx : x ∈ T
  · rw [if_pos hx]
    have hi := idx_at hx
    have hl := List.idxOf_lt_length_of_mem hx
    have hk := h _ hl
    have hle := hk.le
    have hy : T[ls (T.idxOf x)]? = some (T.getD (ls (T.idxOf x)) 0) := by
      rw [List.getD_eq_getElem?_getD, List.getElem?_eq_getElem (by omega)]
      rfl
    exact least_ren hT hi hy hk
  · rw [if_neg hx]
    exact least_free hT hx
end Go.Proofs.Yteaencgbgfnokaa
