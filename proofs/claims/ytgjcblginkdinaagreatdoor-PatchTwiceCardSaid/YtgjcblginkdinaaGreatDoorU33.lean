/- The contracts of the document's ref, line and op. -/
import Derived.Test.YtgjcblginkdinaaGreatDoorU10
import Derived.Test.YtgjcblginkdinaaGreatDoorU20
set_option linter.unusedVariables false
set_option linter.unusedSimpArgs false
namespace Go.Proofs.YtgjcblginkdinaaGreatDoor
open Go.ChangeShapes Go.WideShapes Go.ChangeAt Go.RowKit

end Go.Proofs.YtgjcblginkdinaaGreatDoor
