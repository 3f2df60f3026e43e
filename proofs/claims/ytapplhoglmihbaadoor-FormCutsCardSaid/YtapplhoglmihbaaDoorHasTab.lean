/- What the row's list gives: the library's table of powers of ten. -/
import Derived.Test.YtapplhoglmihbaaDoorWText
import Derived.Lib.LaidTab
import Derived.Stop.LaidErr
import Derived.Carry
import Derived.LaidHandle
set_option linter.unusedVariables false
namespace Go.Proofs.YtapplhoglmihbaaDoor
open Go.ChangeShapes Go.WideShapes Go.ChangeAt Go.RowKit

theorem Tryd.pg : Tryd.prog.globalNamed "internal/strconv.uint64pow10" = some 3 := by kernel_rfl
theorem Tryd.pty : (Tryd.prog.globals[3]?).map (·.type) = some 132 := by kernel_rfl
theorem hasTab_of {W : World} {x y : String × DataW Unit} {rest : List (String × DataW Unit)} (h : laidMet Tryd.prog (x :: y :: ("internal/strconv.uint64pow10", Rows.laid_internal_strconv_uint64pow10) :: rest) W) : HasTab W := by
  have h2 := laidMet.tail (laidMet.tail h)
  have e : (Rows.laid_internal_strconv_uint64pow10 : DataW Unit) = Lib.tabData .u64 Lib.pow10Tab := rfl
  rw [e] at h2
  exact Lib.tabIs_of_head Tryd.pg Tryd.pty Tryd.underlying132 Tryd.underlying118 (by kernel_rfl) (by kernel_rfl) h2
end Go.Proofs.YtapplhoglmihbaaDoor
