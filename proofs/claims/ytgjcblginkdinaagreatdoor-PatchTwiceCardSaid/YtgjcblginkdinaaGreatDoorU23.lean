/- The contracts of the document's Num, List and two. -/
import Derived.Test.YtgjcblginkdinaaGreatDoorU22
import Derived.Test.YtgjcblginkdinaaGreatDoorU3
import Derived.Test.YtgjcblginkdinaaGreatDoorU5
set_option linter.unusedVariables false
namespace Go.Proofs.YtgjcblginkdinaaGreatDoor
open Go.ChangeShapes Go.WideShapes Go.ChangeAt Go.RowKit
open Go.Lib (itoa)

end Go.Proofs.YtgjcblginkdinaaGreatDoor
