/- Mathematics: ways in a table, thing by thing (Floyd-Warshall, in place). -/
import Derived.Test.YteaencgbgfnokaaKLawM
set_option linter.unusedVariables false
namespace Go.Proofs.Yteaencgbgfnokaa

/-- The table in the midst of round k: rows ahead of i are done, and row i up to j. -/
def Tm (E : Nat → Nat → Bool) (k i j a b : Nat) : Bool := if a < i ∨ a = i ∧ b < j then viaB E (k + 1) a b else viaB E k a b
theorem via_row (E : Nat → Nat → Bool) (k j : Nat) : viaB E (k + 1) k j = viaB E k k j := by
  show (viaB E k k j || (viaB E k k k && viaB E k k j)) = _
  cases viaB E k k j <;> simp
theorem tm_at (E : Nat → Nat → Bool) (k i j : Nat) : Tm E k i j i j = viaB E k i j := by
  unfold Tm
  rw [if_neg (by omega)]
theorem tm_k (E : Nat → Nat → Bool) (k i j b : Nat) : Tm E k i j k b = viaB E k k b := by
  unfold Tm
  split
  · exact via_row E k b
  · rfl
theorem tm_i (E : Nat → Nat → Bool) (k i b : Nat) : Tm E k i 0 i b = viaB E k i b := by
  unfold Tm
  rw [if_neg (by omega)]
theorem tm_first (E : Nat → Nat → Bool) (k a b : Nat) : Tm E k 0 0 a b = viaB E k a b := by
  unfold Tm
  rw [if_neg (by omega)]
theorem tm_skip {E : Nat → Nat → Bool} {k i : Nat} (h : viaB E k i k = false) (a b : Nat) : Tm E k (i + 1) 0 a b = Tm E k i 0 a b := by
  unfold Tm
  by_cases h1 : a < i
  · rw [if_pos (by omega), if_pos (by omega)]
  · by_cases h2 : a = i
    · subst h2
      rw [if_pos (by omega), if_neg (by omega)]
      show (viaB E k a b || (viaB E k a k && viaB E k k b)) = _
      rw [h]; simp
    · rw [if_neg (by omega), if_neg (by omega)]
theorem tm_step {E : Nat → Nat → Bool} {k i j : Nat} (h : viaB E k i k = true) {x : Bool} (hx : x = (viaB E k i j || viaB E k k j)) (a b : Nat) : Tm E k i (j + 1) a b = if a = i ∧ b = j then x else Tm E k i j a b := by
  unfold Tm
  by_cases h1 : a = i ∧ b = j
  · obtain ⟨rfl, rfl⟩ := h1
    rw [if_pos (by omega), if_pos ⟨rfl, rfl⟩, hx]
    show (viaB E k a b || (viaB E k a k && viaB E k k b)) = _
    rw [h]; simp
  · rw [if_neg h1]
    by_cases h2 : a < i ∨ a = i ∧ b < j
    · rw [if_pos (by omega), if_pos h2]
    · rw [if_neg (by omega), if_neg h2]
theorem tm_row {E : Nat → Nat → Bool} {k i n a b : Nat} (hb : b < n) : Tm E k (i + 1) 0 a b = Tm E k i n a b := by
  unfold Tm
  by_cases h1 : a < i ∨ a = i ∧ b < n
  · rw [if_pos h1, if_pos (by omega)]
  · rw [if_neg h1, if_neg (by omega)]
theorem tm_end {E : Nat → Nat → Bool} {k n a b : Nat} (ha : a < n) : viaB E (k + 1) a b = Tm E k n 0 a b := by
  unfold Tm
  rw [if_pos (by omega)]
/-- An edge more. -/
theorem ed_snoc (es : List (Nat × Nat)) (x y a b : Nat) : edB (es ++ [(x, y)]) a b = if a = x ∧ b = y then true else edB es a b := by
  unfold edB
  by_cases h : a = x ∧ b = y
  · obtain ⟨rfl, rfl⟩ := h
    simp
  · rw [if_neg h]
    have h2 : ¬ (a, b) = (x, y) := fun e => by
      injection e with e1 e2
      exact h ⟨e1, e2⟩
    rw [Bool.eq_iff_iff, List.contains_iff_mem, List.contains_iff_mem, List.mem_append, List.mem_singleton]
    exact ⟨fun t => t.resolve_right h2, .inl⟩
end Go.Proofs.Yteaencgbgfnokaa
