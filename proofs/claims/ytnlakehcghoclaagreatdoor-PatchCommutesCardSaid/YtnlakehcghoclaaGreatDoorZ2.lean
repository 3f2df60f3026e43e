/- errors.As where the error's own type is api.Errno; errors.Is of one such error and itself; Code. -/
import Derived.Test.YtnlakehcghoclaaGreatDoorZ1
set_option linter.unusedVariables false
namespace Go.Proofs.YtnlakehcghoclaaGreatDoor
open Go.RowKit Go.Extern.Stop Go.Stop Go.Extern

end Go.Proofs.YtnlakehcghoclaaGreatDoor
