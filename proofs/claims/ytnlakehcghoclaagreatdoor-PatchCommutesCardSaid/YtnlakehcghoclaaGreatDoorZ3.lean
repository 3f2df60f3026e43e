/- errors.Is of an error of type api.Errno and itself; Code. Code of a nil error and of an error of type api.Errno. -/
import Derived.Test.YtnlakehcghoclaaGreatDoorZ2
set_option linter.unusedVariables false
namespace Go.Proofs.YtnlakehcghoclaaGreatDoor
open Go.RowKit Go.Extern.Stop Go.Stop Go.Extern

end Go.Proofs.YtnlakehcghoclaaGreatDoor
set_option linter.unusedVariables false
namespace Go.Proofs.YtnlakehcghoclaaGreatDoor
open Go.RowKit Go.Extern.Stop Go.Stop Go.Extern

end Go.Proofs.YtnlakehcghoclaaGreatDoor
