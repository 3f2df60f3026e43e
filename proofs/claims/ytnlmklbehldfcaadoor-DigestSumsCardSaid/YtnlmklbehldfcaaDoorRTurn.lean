/- The contract of the document's turn. -/
import Derived.Test.YtnlmklbehldfcaaDoorTurn
set_option linter.unusedVariables false
namespace Go.Proofs.YtnlmklbehldfcaaDoor
open Go.ChangeShapes Go.WideShapes Go.ChangeAt Go.RowKit

set_option maxHeartbeats 1000000 in
theorem rturn_any (x : Wd) (n : Int) (w : World) (h1 : 1 ≤ n) (h2 : n ≤ 31) :
    Calls Tryd.prog 20 #[.int .u32 (nv x), .int .i64 n] w fun e w' => e = .returned (.int .u32 (nv (rotr x n.toNat))) ∧ ∃ q, w' = w.drewN q := by
  have hq : (32 - n).toNat = 32 - n.toNat := by omega
  have hw : IntKind.i64.wrap (32 - n) = 32 - n := by rw [IntKind.wrap_i64]; omega
  have hr : bits .or .u32 (nv x / (2 : Int) ^ n.toNat) (IntKind.u32.wrap (nv x * (2 : Int) ^ (32 - n.toNat))) = nv (rotr x n.toNat) := by
    rw [wd_shl, wd_shr, wd_or, rotr, BitVec.or_comm]
  have h0 : 0 ≤ n := by omega
  have h3 : n ≤ 32 := by omega
  have h4 : 0 ≤ 32 - n := by omega
  have h5 : 32 - n ≤ 32 := by omega
  have HR := Lib.hid hr
  clear hr
  go_enter Tryd.func20, Tryd.ntmps20
  go_wp2
  go_quiet (fail)
  go_wp2
  go_ret
  refine ⟨?_, nq, rfl⟩
  refine ret_int ?_
  first | exact HR.out | simpa [hq] using HR.out
end Go.Proofs.YtnlmklbehldfcaaDoor
