/- The contract of the document's form. -/
import Derived.Deep.RegionHeld3
import Derived.Test.YtgjcblginkdinaaGreatDoorU24
import Derived.Test.YtgjcblginkdinaaGreatDoorU33
import Derived.Test.YtgjcblginkdinaaGreatDoorU34
set_option linter.unusedVariables false
namespace Go.Proofs.YtgjcblginkdinaaGreatDoor
open Go.ChangeShapes Go.WideShapes Go.ChangeAt Go.RowKit
open Go.Lib (itoa)

attribute [-go_sem] Builtin.append_
end Go.Proofs.YtgjcblginkdinaaGreatDoor
