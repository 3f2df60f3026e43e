/- The contract of the document's Depth. The contracts of the document's size and bytes. Cells of boxes that a call has laid. The contract of the document's Write. -/
import Derived.Deep.RegionHeld3
import Derived.Test.YtojnagonhihknaaGreatDoorU6
import Derived.Test.YtojnagonhihknaaGreatDoorU8
set_option linter.unusedVariables false
namespace Go.Proofs.YtojnagonhihknaaGreatDoor
open Go.ChangeShapes Go.WideShapes Go.ChangeAt Go.RowKit

end Go.Proofs.YtojnagonhihknaaGreatDoor
set_option linter.unusedVariables false
namespace Go.Proofs.YtojnagonhihknaaGreatDoor
open Go.ChangeShapes Go.WideShapes Go.ChangeAt Go.RowKit
open Go.Lib (decDigits itoa)

end Go.Proofs.YtojnagonhihknaaGreatDoor
set_option linter.unusedVariables false
namespace Go.Proofs.YtojnagonhihknaaGreatDoor
open Go.ChangeShapes Go.WideShapes Go.ChangeAt Go.RowKit

theorem two_boxes (w : World) (o1 o2 : Obj) : Below w.heap.size w ((w.alloc o1).alloc o2) := (((Below.refl _ _).alloc (Nat.le_refl _) _).alloc (by simp) _)

theorem box3 {w wz : World} {x1 x2 x3 : Value} {ty : TypeId} (h : Below (w.heap.size + 1) (w.alloc (.cells #[x1, x2, x3] ty)) wz) :
    wz.cell? ⟨w.heap.size, 0, none⟩ = some x1 ∧ wz.cell? ⟨w.heap.size, 1, none⟩ = some x2 ∧ wz.cell? ⟨w.heap.size, 2, none⟩ = some x3 ∧ Below w.heap.size w wz := by
  have hc : ∀ j, wz.cell? ⟨w.heap.size, j, none⟩ = #[x1, x2, x3][j]? := fun j => (h.cell (p := ⟨w.heap.size, j, none⟩) (Nat.lt_succ_self _)).trans (World.cell?_alloc_at _ _ _ _ rfl)
  exact ⟨hc 0, hc 1, hc 2, ((Below.refl _ _).alloc (Nat.le_refl _) _).trans (h.mono (Nat.le_succ _))⟩
end Go.Proofs.YtojnagonhihknaaGreatDoor
set_option linter.unusedVariables false
namespace Go.Proofs.YtojnagonhihknaaGreatDoor
open Go.ChangeShapes Go.WideShapes Go.ChangeAt Go.RowKit
open Go.Lib (decDigits itoa)

theorem box_step {w wz w2 : World} {o : Obj} (h1 : Below (w.heap.size + 1) (w.alloc o) wz) (h2 : Below wz.heap.size wz w2) : Below (w.heap.size + 1) (w.alloc o) w2 :=
  h1.trans (h2.mono (by have := h1.size; simp at this; omega))
end Go.Proofs.YtojnagonhihknaaGreatDoor
