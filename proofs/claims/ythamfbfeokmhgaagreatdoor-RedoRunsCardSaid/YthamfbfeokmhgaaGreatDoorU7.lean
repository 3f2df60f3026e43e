/- The program's look at one form: is it right by itself? Cells of boxes that a call has laid. -/
import Derived.Test.YthamfbfeokmhgaaGreatDoorU5
import Derived.Test.YthamfbfeokmhgaaGreatDoorU6
set_option linter.unusedVariables false
namespace Go.Proofs.YthamfbfeokmhgaaGreatDoor
open Go.ChangeShapes Go.WideShapes Go.ChangeAt Go.RowKit

def rightB (l : Bool) (t : ByteArray) (n : Nat) : Bool := if l then decide (t.size = 0) else decide (n = 0)

theorem toList_nil {t : ByteArray} (h : t.size = 0) : t.toList = [] := by
  rw [ByteArray.toList_eq]
  exact List.length_eq_zero_iff.1 (by rw [ba_len]; exact h)
theorem toList_ne {t : ByteArray} (h : ¬ t.size = 0) : t.toList ≠ [] := by
  rw [ByteArray.toList_eq]
  intro e
  have := ba_len t
  rw [e] at this
  exact h this.symm

theorem fright_any (l : Bool) (t : ByteArray) (a : Option Addr) (n c : Nat) (w : World) (hn : n ≤ maxLen) :
    Calls Tryz.prog 89 #[fv l t (.slice a n c)] w fun e w' => e = .returned (.bool (rightB l t n)) ∧ Below w.heap.size w w' := by
  unfold maxLen at hn
  cases l with
  | true =>
    have hr : rightB true t n = decide (t.size = 0) := rfl
    by_cases ht : t.size = 0
    · have e := toList_nil ht
      rw [hr, decide_eq_true ht]
      clear ht hr
      go_enter Tryz.func89, Tryz.ntmps89
      go_wp2
      go_ret
      exact ⟨rfl, (Below.refl _ _).alloc (Nat.le_refl _) _⟩
    · have e := toList_ne ht
      have e2 : t.toList.isEmpty = false := by simpa using e
      rw [hr, decide_eq_false ht]
      clear ht hr e
      go_enter Tryz.func89, Tryz.ntmps89
      go_wp2
      go_ret
      exact ⟨rfl, (Below.refl _ _).alloc (Nat.le_refl _) _⟩
  | false =>
    have hr : rightB false t n = decide (n = 0) := rfl
    by_cases hz : n = 0
    · rw [hr, decide_eq_true hz]
      subst hz
      clear hr
      go_enter Tryz.func89, Tryz.ntmps89
      go_wp2
      go_ret
      exact ⟨rfl, (Below.refl _ _).alloc (Nat.le_refl _) _⟩
    · rw [hr, decide_eq_false hz]
      have e : ((n : Int) == 0) = false := by rw [beq_eq_false_iff_ne]; omega
      clear hr
      go_enter Tryz.func89, Tryz.ntmps89
      go_wp2
      go_ret
      exact ⟨rfl, (Below.refl _ _).alloc (Nat.le_refl _) _⟩
end Go.Proofs.YthamfbfeokmhgaaGreatDoor
set_option linter.unusedVariables false
namespace Go.Proofs.YthamfbfeokmhgaaGreatDoor
open Go.ChangeShapes Go.WideShapes Go.ChangeAt Go.RowKit

theorem ba_neq {x y : ByteArray} (h : x ≠ y) : (x.toList == y.toList) = false := by
  cases e : (x.toList == y.toList) with
  | false => rfl
  | true => exact absurd (ba_eq' e) h

theorem two_boxes (w : World) (o1 o2 : Obj) : Below w.heap.size w ((w.alloc o1).alloc o2) := (((Below.refl _ _).alloc (Nat.le_refl _) _).alloc (by simp) _)

theorem boxes_cell {w wr : World} {x1 x2 : Array Value} {t1 t2 : TypeId} (h : Below (w.heap.size + 2) ((w.alloc (.cells x1 t1)).alloc (.cells x2 t2)) wr) (j : Nat) :
    wr.cell? ⟨w.heap.size, j, none⟩ = x1[j]? ∧ wr.cell? ⟨w.heap.size + 1, j, none⟩ = x2[j]? := by
  have e1 : ((w.alloc (.cells x1 t1)).alloc (.cells x2 t2)).cell? ⟨w.heap.size, j, none⟩ = x1[j]? := by
    rw [World.cell?_of_block (w := w.alloc (.cells x1 t1)) (a := ⟨w.heap.size, j, none⟩) (Below.heap_alloc _ _ _ (by simp)), World.cell?_alloc_at _ _ _ _ rfl]
  have e2 : ((w.alloc (.cells x1 t1)).alloc (.cells x2 t2)).cell? ⟨w.heap.size + 1, j, none⟩ = x2[j]? := by
    rw [World.cell?_alloc_at _ _ _ _ (by simp)]
  exact ⟨(h.cell (p := ⟨w.heap.size, j, none⟩) (Nat.lt_add_of_pos_right (by decide))).trans e1, (h.cell (p := ⟨w.heap.size + 1, j, none⟩) (Nat.lt_succ_self _)).trans e2⟩

theorem box_first {w w2 : World} {o : Obj} (h2 : Below (w.alloc o).heap.size (w.alloc o) w2) : Below (w.heap.size + 1) (w.alloc o) w2 := h2.mono (by simp)
theorem box3 {w wz : World} {x1 x2 x3 : Value} {ty : TypeId} (h : Below (w.heap.size + 1) (w.alloc (.cells #[x1, x2, x3] ty)) wz) :
    wz.cell? ⟨w.heap.size, 0, none⟩ = some x1 ∧ wz.cell? ⟨w.heap.size, 1, none⟩ = some x2 ∧ wz.cell? ⟨w.heap.size, 2, none⟩ = some x3 ∧ Below w.heap.size w wz := by
  have hc : ∀ j, wz.cell? ⟨w.heap.size, j, none⟩ = #[x1, x2, x3][j]? := fun j => (h.cell (p := ⟨w.heap.size, j, none⟩) (Nat.lt_succ_self _)).trans (World.cell?_alloc_at _ _ _ _ rfl)
  exact ⟨hc 0, hc 1, hc 2, ((Below.refl _ _).alloc (Nat.le_refl _) _).trans (h.mono (Nat.le_succ _))⟩
end Go.Proofs.YthamfbfeokmhgaaGreatDoor
