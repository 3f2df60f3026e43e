/- Mathematics: the document's Sort, which looks for the least from behind; its Knots, which looks for the least from the first on. -/
import Derived.Test.YteaencgbgfnokaaKComM
import Derived.Test.YteaencgbgfnokaaKnR
set_option linter.unusedVariables false
namespace Go.Proofs.Yteaencgbgfnokaa

def BestS (need : Int → List Int) (n m : Nat) (told : List Int) (b : Int) : Prop :=
  (b = -1 ∧ ∀ u, m ≤ u → u < n → canB need told u = false) ∨ ∃ u : Nat, b = (u : Int) ∧ m ≤ u ∧ u < n ∧ canB need told u = true ∧ ∀ k, m ≤ k → k < u → canB need told k = false
theorem best_first (need : Int → List Int) (n : Nat) (told : List Int) : BestS need n n told (-1) := .inl ⟨rfl, fun u h1 h2 => by omega⟩
theorem best_take {need : Int → List Int} {n m : Nat} {told : List Int} (hm : m < n) (hc : canB need told m = true) : BestS need n m told (m : Int) := .inr ⟨m, rfl, Nat.le_refl _, hm, hc, fun k h1 h2 => by omega⟩
theorem best_skip {need : Int → List Int} {n m : Nat} {told : List Int} {b : Int} (h : BestS need n (m + 1) told b) (hc : canB need told m = false) : BestS need n m told b := by
  rcases h with ⟨rfl, h⟩ | ⟨u, rfl, h1, h2, h3, h4⟩
  · refine .inl ⟨rfl, fun u hu hun => ?_⟩
    by_cases e : u = m
    · rw [e]; exact hc
    · exact h u (by omega) hun
  · refine .inr ⟨u, rfl, by omega, h2, h3, fun k hk hku => ?_⟩
    by_cases e : k = m
    · rw [e]; exact hc
    · exact h4 k (by omega) hku
theorem best_neg {need : Int → List Int} {n m : Nat} {told : List Int} {b : Int} (h : BestS need n m told b) (hb : b < 0) : b = -1 := by
  rcases h with ⟨rfl, h⟩ | ⟨u, rfl, _⟩
  · rfl
  · omega
theorem best_none {need : Int → List Int} {n : Nat} {told : List Int} {b : Int} (h : BestS need n 0 told b) (hb : b < 0) : nextK need n told = none := by
  rcases h with ⟨rfl, h⟩ | ⟨u, rfl, _⟩
  · exact List.find?_eq_none.2 fun x hx => by rw [h x (Nat.zero_le _) (List.mem_range.1 hx)]; simp
  · omega
theorem best_some {es : List (Nat × Nat)} {n u : Nat} {told : List Int} (h : BestS (needE es) n 0 told (u : Int)) : u < n ∧ nextK (needE es) n told = some u := by
  rcases h with ⟨e, _⟩ | ⟨v, e, h1, h2, h3, h4⟩
  · omega
  · obtain rfl : u = v := by omega
    exact ⟨h2, next_of h2 h3 fun k hk => h4 k (Nat.zero_le _) hk⟩
theorem stuck_of {es : List (Nat × Nat)} {n : Nat} {out : List Int} (h : ReachK (needE es) n out) (hN : nextK (needE es) n out = none) (hl : out.length < n) : SortR n es [] false :=
  .inr ⟨rfl, rfl, fun told ht e => by
    have := reach_end h ht hN (reach_full ht e)
    subst this
    omega⟩
/-- Free, as far as the edges es tell. -/
def freeB (n : Int) (es : Ed) (told : List Int) (i : Int) : Bool := !told.contains i && es.all fun e => !(rightP n e && (e.2 == i && !told.contains e.1))
theorem free_none (n : Int) (es : Ed) (told : List Int) (i : Int) : freeB n (es.take 0) told i = !told.contains i := by simp [freeB]
theorem free_step {n : Int} {es : Ed} {told : List Int} {i : Int} {k : Nat} {e : Int × Int} (h : es[k]? = some e) : freeB n (es.take (k + 1)) told i = (freeB n (es.take k) told i && !(rightP n e && (e.2 == i && !told.contains e.1))) := by
  unfold freeB
  rw [List.take_add_one, h, List.all_append]
  simp [Bool.and_assoc]
theorem free_can {n : Int} {es : Ed} {told : List Int} {u : Nat} : freeB n es told (u : Int) = canB (needE (toN (amongL n es))) told u := by
  rw [Bool.eq_iff_iff, canB_iff]
  unfold freeB
  rw [Bool.and_eq_true, List.all_eq_true]
  constructor
  · rintro ⟨h1, h2⟩
    refine ⟨fun hm => (by rw [List.contains_iff_mem.2 hm] at h1; cases h1), fun e he hu => ?_⟩
    obtain ⟨e0, h0, rfl⟩ := List.mem_map.1 he
    obtain ⟨hm, hp⟩ := List.mem_filter.1 h0
    obtain ⟨g1, g2, g3, g4⟩ := rightP_iff.1 hp
    have h3 := h2 e0 hm
    simp only at hu
    have e2 : (e0.2 == (u : Int)) = true := by rw [beq_iff_eq]; omega
    rw [hp, e2] at h3
    simp only [Bool.true_and, Bool.not_not] at h3
    have := List.contains_iff_mem.1 h3
    simp only
    rwa [Int.toNat_of_nonneg g1]
  · rintro ⟨h1, h2⟩
    refine ⟨by
      rw [Bool.not_eq_true']
      exact Bool.eq_false_iff.2 fun h => h1 (List.contains_iff_mem.1 h), fun e0 h0 => ?_⟩
    cases hp : rightP n e0
    · rfl
    · cases he : (e0.2 == (u : Int))
      · rfl
      · obtain ⟨g1, g2, g3, g4⟩ := rightP_iff.1 hp
        have h3 := h2 (e0.1.toNat, e0.2.toNat) (List.mem_map.2 ⟨e0, List.mem_filter.2 ⟨h0, hp⟩, rfl⟩) (by have := beq_iff_eq.1 he; simp only; omega)
        simp only at h3
        rw [Int.toNat_of_nonneg g1] at h3
        rw [List.contains_iff_mem.2 h3]
        rfl
theorem bkv_snoc (ks : Nat → Nat) (i k : Nat) : bkv (upd ks i k) (i + 1) = bkv ks i ++ [.int .i64 (k : Int)] := by
  unfold bkv
  rw [List.range_succ, List.map_append]
  congr 1
  · exact List.map_congr_left fun x hx => by rw [upd_other _ _ (fun e => by have := List.mem_range.1 hx; omega)]
  · simp [upd_same]
theorem knot_refl (E : Nat → Nat → Bool) (n x : Nat) : knotB E n x x = true := by simp [knotB]
theorem knot_ne {E : Nat → Nat → Bool} {n x y : Nat} (h : x ≠ y) : knotB E n x y = (viaB E n x y && viaB E n y x) := by
  have : (x == y) = false := by rw [beq_eq_false_iff_ne]; exact h
  simp [knotB, this]
end Go.Proofs.Yteaencgbgfnokaa
