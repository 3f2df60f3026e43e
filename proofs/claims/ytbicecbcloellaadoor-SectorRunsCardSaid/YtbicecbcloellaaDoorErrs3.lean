/- errors.Is of an error of type api.Errno and itself; Code. -/
import Derived.Test.YtbicecbcloellaaDoorErrs2
set_option linter.unusedVariables false
namespace Go.Proofs.YtbicecbcloellaaDoor
open Go.RowKit Go.Extern.Stop Go.Stop Go.Extern

/-- '==' between two errors of type api.Errno: as their numbers. -/
theorem eql_errno (a b : Int) (w : World) : (binOp .eql 26 (.iface 53 (.int .i64 a)) (.iface 53 (.int .i64 b))).run Tryd.prog w = .ok (.bool (a == b)) w := by
  have h : ∀ d : Nat, (Op.equalIn (d + 2) 26 (.iface 53 (.int .i64 a)) (.iface 53 (.int .i64 b))).run Tryd.prog w = .ok (a == b) w := by
    intro d
    have hm : (Tryd.prog.info? 53).map (·.comparable) = some true := by kernel_rfl
    obtain ⟨i, hi, hc⟩ := Option.map_eq_some_iff.1 hm
    simp [Op.equalIn, run_underlying Tryd.underlying26, run_underlying Tryd.underlying53, typeInfo, hi, hc]
  simp only [binOp, Op.equal, Op.maxDepth]
  simp [h 9998]

theorem compE (w : World) : (ReflectliteType.method (fun t => do Rtype.noPackHeld "Comparable" t; (fun a => Value.bool a.comparable) <$> typeInfo t) #[.agg #[hnd 53]]).run Tryd.prog w = .ok (.bool true) w := by kernel_rfl

set_option maxHeartbeats 1000000 in
set_option maxRecDepth 100000 in
theorem is_same (k : Int) (w : World) :
    Calls Tryd.prog 22 #[.iface 53 (.int .i64 k), .iface 53 (.int .i64 k)] w fun ev w' => ev = .returned (.bool true) ∧ w' = w := by
  have h10 := @run_callFunc_extern Tryd.prog 36 _ ReflectliteType.typeOf Tryd.func36 (by kernel_rfl) (by kernel_rfl) (by kernel_rfl) (by kernel_rfl)
  have h11 := @run_callFunc_extern Tryd.prog 78 _ (ReflectliteType.method fun t => do Rtype.noPackHeld "Comparable" t; pure (.bool (← typeInfo t).comparable)) Tryd.func78 (by kernel_rfl) (by kernel_rfl) (by kernel_rfl) (by kernel_rfl)
  have tO := typeOfE
  have mC := methodComparable
  have cE := compE
  have eq := eql_errno k k
  go_enter Tryd.func22, Tryd.ntmps22
  go_wp2
  refine wp_loop_rounds 1 ?_
  rw [rounds_succ]
  go_wp2
  go_ret
  exact ⟨rfl, rfl⟩
end Go.Proofs.YtbicecbcloellaaDoor
