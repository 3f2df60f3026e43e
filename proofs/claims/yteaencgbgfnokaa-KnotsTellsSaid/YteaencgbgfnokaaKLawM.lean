/- Mathematics that the laws of knots want: knots told by a closure; edges in another order, told twice, turned about. -/
import Derived.Test.YteaencgbgfnokaaKnM3
set_option linter.unusedVariables false
namespace Go.Proofs.Yteaencgbgfnokaa

/-- Via, as a test. -/
def viaB (E : Nat → Nat → Bool) : Nat → Nat → Nat → Bool
  | 0, i, j => E i j
  | k + 1, i, j => viaB E k i j || (viaB E k i k && viaB E k k j)
theorem viaB_iff {E : Nat → Nat → Bool} {R : Nat → Nat → Prop} (h : ∀ a b, E a b = true ↔ R a b) : ∀ k i j, viaB E k i j = true ↔ Via R k i j
  | 0, i, j => h i j
  | k + 1, i, j => by
    unfold viaB Via
    rw [Bool.or_eq_true, Bool.and_eq_true, viaB_iff h k i j, viaB_iff h k i k, viaB_iff h k k j]
def knotB (E : Nat → Nat → Bool) (n x y : Nat) : Bool := x == y || (viaB E n x y && viaB E n y x)
theorem knotB_iff {E : Nat → Nat → Bool} {R : Nat → Nat → Prop} {n : Nat} (h : ∀ a b, E a b = true ↔ R a b) (hR : ∀ a b, R a b → b < n) (x y : Nat) : knotB E n x y = true ↔ Knot R x y := by
  unfold knotB Knot Back
  rw [Bool.or_eq_true, Bool.and_eq_true, beq_iff_eq, viaB_iff h, viaB_iff h, via_iff hR, via_iff hR]
  constructor
  · rintro (h | ⟨h, t⟩)
    · exact ⟨.inl h, .inl h.symm⟩
    · exact ⟨.inr h, .inr t⟩
  · rintro ⟨h | h, t | t⟩
    · exact .inl h
    · exact .inl h
    · exact .inl t.symm
    · exact .inr ⟨h, t⟩
theorem least_of {E : Nat → Nat → Bool} {R : Nat → Nat → Prop} {n : Nat} (h : ∀ a b, E a b = true ↔ R a b) (hR : ∀ a b, R a b → b < n) {x k : Nat} (h1 : knotB E n x k = true) (h2 : ∀ b, b < k → knotB E n x b = false) : LeastK R x k := by
  refine ⟨(knotB_iff h hR x k).1 h1, fun b hb => ?_⟩
  rcases Nat.lt_or_ge b k with hlt | hge
  · have := (knotB_iff h hR x b).2 hb
    rw [h2 b hlt] at this
    cases this
  · exact hge
def edB (es : List (Nat × Nat)) (a b : Nat) : Bool := es.contains (a, b)
theorem edB_iff (es : List (Nat × Nat)) (a b : Nat) : edB es a b = true ↔ EdR es a b := by simp [edB, EdR]

/-- The answers for all of the first n. -/
def ansL (ks : Nat → Nat) (n : Nat) : List Nat := (List.range n).map ks
theorem ansL_congr {f g : Nat → Nat} {n : Nat} (h : ∀ x, x < n → f x = g x) : ansL f n = ansL g n := List.map_congr_left fun x hx => h x (List.mem_range.1 hx)
theorem ans_unique {R S : Nat → Nat → Prop} {f g : Nat → Nat} {n : Nat} (h : ∀ x y, Knot R x y ↔ Knot S x y) (hf : ∀ x, x < n → LeastK R x (f x)) (hg : ∀ x, x < n → LeastK S x (g x)) : ansL f n = ansL g n :=
  ansL_congr fun x hx => (hf x hx).unique ⟨(h _ _).2 (hg x hx).1, fun b hb => (hg x hx).2 b ((h _ _).1 hb)⟩
theorem walk_mono {R S : Nat → Nat → Prop} (h : ∀ a b, R a b → S a b) {a b : Nat} (hw : Walk R a b) : Walk S a b := by
  induction hw with
  | one he => exact .one (h _ _ he)
  | more he _ ih => exact .more (h _ _ he) ih
theorem walk_turn {R S : Nat → Nat → Prop} (h : ∀ a b, R a b → S b a) {a b : Nat} (hw : Walk R a b) : Walk S b a := by
  induction hw with
  | one he => exact .one (h _ _ he)
  | more he _ ih => exact ih.trans (.one (h _ _ he))
theorem knot_same {R S : Nat → Nat → Prop} (h : ∀ a b, R a b ↔ S a b) (x y : Nat) : Knot R x y ↔ Knot S x y := by
  have : R = S := by funext a b; exact propext (h a b)
  rw [this]
theorem knot_turn {R S : Nat → Nat → Prop} (h : ∀ a b, R a b ↔ S b a) (x y : Nat) : Knot R x y ↔ Knot S x y := by
  have back1 : ∀ {a b}, Back R a b → Back S b a := fun hb => by
    rcases hb with rfl | hb
    · exact .inl rfl
    · exact .inr (walk_turn (fun a b hr => (h a b).1 hr) hb)
  have back2 : ∀ {a b}, Back S a b → Back R b a := fun hb => by
    rcases hb with rfl | hb
    · exact .inl rfl
    · exact .inr (walk_turn (fun a b hr => (h b a).2 hr) hb)
  exact ⟨fun hk => ⟨back1 hk.2, back1 hk.1⟩, fun hk => ⟨back2 hk.2, back2 hk.1⟩⟩
/-- What may be told next hangs on which edges there are alone. -/
theorem canB_same {es fs : List (Nat × Nat)} (h : ∀ e, e ∈ es ↔ e ∈ fs) (told : List Int) (u : Nat) : canB (needE es) told u = canB (needE fs) told u := by
  rw [Bool.eq_iff_iff, canB_iff, canB_iff]
  constructor
  · rintro ⟨a, b⟩; exact ⟨a, fun e he => b e ((h e).2 he)⟩
  · rintro ⟨a, b⟩; exact ⟨a, fun e he => b e ((h e).1 he)⟩
theorem next_same {es fs : List (Nat × Nat)} (h : ∀ e, e ∈ es ↔ e ∈ fs) (n : Nat) (told : List Int) : nextK (needE es) n told = nextK (needE fs) n told := by
  unfold nextK
  congr 1
  funext u
  exact canB_same h told u
theorem reach_same {es fs : List (Nat × Nat)} (h : ∀ e, e ∈ es ↔ e ∈ fs) {n : Nat} {told : List Int} (hr : ReachK (needE es) n told) : ReachK (needE fs) n told := by
  induction hr with
  | nil => exact .nil
  | step _ hu ih => exact .step ih (by rw [← next_same h]; exact hu)
theorem sort_same {es fs : List (Nat × Nat)} (h : ∀ e, e ∈ es ↔ e ∈ fs) {n : Nat} {out : List Int} {ok : Bool} (hs : SortR n es out ok) : SortR n fs out ok := by
  rcases hs with ⟨h1, h2, h3⟩ | ⟨h1, h2, h3⟩
  · exact .inl ⟨h1, reach_same h h2, h3⟩
  · exact .inr ⟨h1, h2, fun told ht => h3 told (reach_same (fun e => (h e).symm) ht)⟩
end Go.Proofs.Yteaencgbgfnokaa
