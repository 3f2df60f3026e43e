/- Maps whose keys are ints: what they hold. -/
import Derived.Test.YtbicecbcloellaaBase
import Derived.Maps.OwnOps
import Derived.Maps.OwnSet
set_option linter.unusedVariables false
namespace Go.Proofs.Ytbicecbcloellaa
open Go.ChangeShapes Go.WideShapes Go.ChangeAt Go.RowKit Go.WideMaps Go.Maps

theorem ilaw : Keyed Try.prog 3 := int_keyed Try.underlying3
abbrev DU := DataW Unit
abbrev li (x : Int) : Lit := .int .i64 x
theorem li_ne {x y : Int} (h : x ≠ y) : li x ≠ li y := fun e => h (by injection e)
theorem li_wf {x : Int} (h1 : -9223372036854775808 ≤ x) (h2 : x ≤ 9223372036854775807) : (li x).wf = true := by
  show (decide (IntKind.i64.min ≤ x) && decide (x ≤ IntKind.i64.max)) = true
  rw [Bool.and_eq_true, decide_eq_true_iff, decide_eq_true_iff]
  exact ⟨h1, h2⟩
theorem li_key {x : Int} (h1 : -9223372036854775808 ≤ x) (h2 : x ≤ 9223372036854775807) : keyOf Try.prog 3 (.int .i64 x) = some (li x) := keyOf_int_mk Try.underlying3 (li_wf h1 h2)
theorem has_li {D : DU} (hD : IsMap D) (x y : Int) (d : DU) : has (D.put (li x) d) (li y) = (y == x || has D (li y)) := by
  by_cases e : y = x
  · subst e
    rw [has_put_same hD (by exact trivial)]
    simp
  · rw [has_put_other (li_ne e)]
    have : (y == x) = false := by rw [beq_eq_false_iff_ne]; exact e
    rw [this, Bool.false_or]
theorem at_li {D : DU} (hD : IsMap D) (x y : Int) (d z : DU) : (D.put (li x) d).atKey (li y) z = if y = x then d else D.atKey (li y) z := by
  by_cases e : y = x
  · subst e
    rw [if_pos rfl]
    exact atKey_put_same hD (by exact trivial) d z
  · rw [if_neg e]
    exact atKey_put_other (li_ne e) d z
/-- A set of ints: block b holds just those of ks. -/
def MS (W : World) (b : Nat) (ks : List Int) : Prop := ∃ D : DU, W.ownsMap Try.prog 3 unitElem b ks.length D ∧ ∀ y, has D (li y) = ks.contains y
theorem MS.lt {W : World} {b : Nat} {ks : List Int} (h : MS W b ks) : b < W.heap.size := by obtain ⟨D, h, _⟩ := h; exact World.ownsMap.lt h
theorem owns_below {W W' : World} {R : Value → Option (DU × List MemPlace)} {b n : Nat} {D : DU} (h : W.ownsMap Try.prog 3 R b n D) (hb : Below W.heap.size W W') : W'.ownsMap Try.prog 3 R b n D := by
  have hlt := World.ownsMap.lt h
  obtain ⟨es, clock, h0, F, hs, hD⟩ := h
  exact ⟨es, clock, (hb.block b hlt).trans h0, F, hs, hD⟩
theorem MS.below {W W' : World} {b : Nat} {ks : List Int} (h : MS W b ks) (hb : Below W.heap.size W W') : MS W' b ks := by
  obtain ⟨D, h, h2⟩ := h
  exact ⟨D, owns_below h hb, h2⟩
theorem MS.made (W : World) : MS (W.alloc (.map #[] 0)) W.heap.size [] := ⟨.map [], World.ownsMap_made _ _ _ _, fun y => rfl⟩
theorem MS.step {W : World} {b : Nat} {ks : List Int} {D : DU} {x : Int} (hD : IsMap D) (h : ∀ y, has D (li y) = ks.contains y) (h' : W.ownsMap Try.prog 3 unitElem b (ks.length + 1) (D.put (li x) (.agg []))) : MS W b (ks ++ [x]) := by
  refine ⟨_, by rw [List.length_append, List.length_singleton]; exact h', fun y => ?_⟩
  rw [has_li hD, h y, Bool.eq_iff_iff]
  simp
  exact Or.comm
end Go.Proofs.Ytbicecbcloellaa
