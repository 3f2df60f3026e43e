/- The contract of the document's Sum. -/
import Derived.Test.YtgjcblginkdinaaGreatDoorU37
set_option linter.unusedVariables false
namespace Go.Proofs.YtgjcblginkdinaaGreatDoor
open Go.ChangeShapes Go.WideShapes Go.ChangeAt Go.RowKit

attribute [local go_sem] bv_u8 wd_add wd_xor wd_and wd_or wd_ofByte wd_shl24 wd_shl16 wd_shl8 wd_shr3 wd_shr10
attribute [local go_sem] wd_not wd_byte wd_shr24 wd_shr16 wd_shr8

end Go.Proofs.YtgjcblginkdinaaGreatDoor
