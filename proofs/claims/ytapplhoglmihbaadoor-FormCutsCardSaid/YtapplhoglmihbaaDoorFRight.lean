/- The program's look at one form: is it right by itself? -/
import Derived.Test.YtapplhoglmihbaaDoorForms
set_option linter.unusedVariables false
namespace Go.Proofs.YtapplhoglmihbaaDoor
open Go.ChangeShapes Go.WideShapes Go.ChangeAt Go.RowKit

/-- Right, its items left aside. -/
def rightB (l : Bool) (t : ByteArray) (n : Nat) : Bool := if l then decide (t.size = 0) else decide (n = 0)

theorem toList_nil {t : ByteArray} (h : t.size = 0) : t.toList = [] := by
  rw [ByteArray.toList_eq]
  exact List.length_eq_zero_iff.1 (by rw [ba_len]; exact h)
theorem toList_ne {t : ByteArray} (h : ¬ t.size = 0) : t.toList ≠ [] := by
  rw [ByteArray.toList_eq]
  intro e
  have := ba_len t
  rw [e] at this
  exact h this.symm

theorem fright_any (l : Bool) (t : ByteArray) (a : Option Addr) (n c : Nat) (w : World) (hn : n ≤ maxLen) :
    Calls Tryd.prog 38 #[fv l t (.slice a n c)] w fun e w' => e = .returned (.bool (rightB l t n)) ∧ Below w.heap.size w w' := by
  unfold maxLen at hn
  cases l with
  | true =>
    have hr : rightB true t n = decide (t.size = 0) := rfl
    by_cases ht : t.size = 0
    · have e := toList_nil ht
      rw [hr, decide_eq_true ht]
      clear ht hr
      go_enter Tryd.func38, Tryd.ntmps38
      go_wp2
      go_ret
      exact ⟨rfl, (Below.refl _ _).alloc (Nat.le_refl _) _⟩
    · have e := toList_ne ht
      have e2 : t.toList.isEmpty = false := by simpa using e
      rw [hr, decide_eq_false ht]
      clear ht hr e
      go_enter Tryd.func38, Tryd.ntmps38
      go_wp2
      go_ret
      exact ⟨rfl, (Below.refl _ _).alloc (Nat.le_refl _) _⟩
  | false =>
    have hr : rightB false t n = decide (n = 0) := rfl
    by_cases hz : n = 0
    · rw [hr, decide_eq_true hz]
      subst hz
      clear hr
      go_enter Tryd.func38, Tryd.ntmps38
      go_wp2
      go_ret
      exact ⟨rfl, (Below.refl _ _).alloc (Nat.le_refl _) _⟩
    · rw [hr, decide_eq_false hz]
      have e : ((n : Int) == 0) = false := by rw [beq_eq_false_iff_ne]; omega
      clear hr
      go_enter Tryd.func38, Tryd.ntmps38
      go_wp2
      go_ret
      exact ⟨rfl, (Below.refl _ _).alloc (Nat.le_refl _) _⟩
end Go.Proofs.YtapplhoglmihbaaDoor
