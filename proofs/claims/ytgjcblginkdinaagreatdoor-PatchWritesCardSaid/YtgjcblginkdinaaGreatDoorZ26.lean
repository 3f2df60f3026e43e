/- The contract of the document's Number, of a text. -/
import Derived.StillTailTactics
import Derived.Deep.Cut
import Derived.Deep.CutRange
import Derived.Deep.DeepCutAuto
import Derived.Test.YtgjcblginkdinaaGreatDoorZ1
import Derived.Test.YtgjcblginkdinaaGreatDoorZ15
import Derived.Test.YtgjcblginkdinaaGreatDoorZ2
set_option linter.unusedVariables false
namespace Go.Proofs.YtgjcblginkdinaaGreatDoor
open Go.ChangeShapes Go.WideShapes Go.ChangeAt Go.RowKit
open Go.Lib (decDigits itoa)

structure Cut (s : ByteArray) (B : Bool) (T : ByteArray) : Prop where
  list : s.data.toList = if B then 45 :: T.data.toList else T.data.toList
  head : B = false → ∀ r, T.data.toList ≠ 45 :: r

theorem Cut.neg {s T : ByteArray} {B : Bool} (h : Cut s B T) {lo hi m : Int} (g : isNum s lo hi m) : (∀ c ∈ T.data.toList, isDig c) ∧ (val T.data.toList : Int) = (if B then -m else m) ∧ (if B then m < 0 else 0 ≤ m) := by
  obtain ⟨h0, h1, h2, h3, h4⟩ := g
  have e : itoa m = s.data.toList := by rw [h2]
  rw [h.list] at e
  cases B with
  | true =>
    obtain ⟨a, b, c⟩ := itoa_below e h0 h1
    exact ⟨b, c, a⟩
  | false =>
    obtain ⟨a, b, c⟩ := itoa_plain e h0 h1 (h.head rfl)
    exact ⟨b, c, a⟩

end Go.Proofs.YtgjcblginkdinaaGreatDoor
