/- errors.Is of an error of type api.Errno and itself; Code. Code of a nil error and of an error of type api.Errno. -/
import Derived.Test.YtgjcblginkdinaaGreatDoorZ5
set_option linter.unusedVariables false
namespace Go.Proofs.YtgjcblginkdinaaGreatDoor
open Go.RowKit Go.Extern.Stop Go.Stop Go.Extern

theorem eql_errno (a b : Int) (w : World) : (binOp .eql 29 (.iface 47 (.int .i64 a)) (.iface 47 (.int .i64 b))).run Tryz.prog w = .ok (.bool (a == b)) w := by
  have h : ∀ d : Nat, (Op.equalIn (d + 2) 29 (.iface 47 (.int .i64 a)) (.iface 47 (.int .i64 b))).run Tryz.prog w = .ok (a == b) w := by
    intro d
    have hm : (Tryz.prog.info? 47).map (·.comparable) = some true := by kernel_rfl
    obtain ⟨i, hi, hc⟩ := Option.map_eq_some_iff.1 hm
    simp [Op.equalIn, run_underlying Tryz.underlying29, run_underlying Tryz.underlying47, typeInfo, hi, hc]
  simp only [binOp, Op.equal, Op.maxDepth]
  simp [h 9998]

theorem compE (w : World) : (ReflectliteType.method (fun t => do Rtype.noPackHeld "Comparable" t; (fun a => Value.bool a.comparable) <$> typeInfo t) #[.agg #[hnd 47]]).run Tryz.prog w = .ok (.bool true) w := by kernel_rfl

set_option maxHeartbeats 1000000 in
set_option maxRecDepth 100000 in
theorem is_same (k : Int) (w : World) :
    Calls Tryz.prog 22 #[.iface 47 (.int .i64 k), .iface 47 (.int .i64 k)] w fun ev w' => ev = .returned (.bool true) ∧ w' = w := by
  have h10 := @run_callFunc_extern Tryz.prog 49 _ ReflectliteType.typeOf Tryz.func49 (by kernel_rfl) (by kernel_rfl) (by kernel_rfl) (by kernel_rfl)
  have h11 := @run_callFunc_extern Tryz.prog 217 _ (ReflectliteType.method fun t => do Rtype.noPackHeld "Comparable" t; pure (.bool (← typeInfo t).comparable)) Tryz.func217 (by kernel_rfl) (by kernel_rfl) (by kernel_rfl) (by kernel_rfl)
  have tO := typeOfE
  have mC := methodComparable
  have cE := compE
  have eq := eql_errno k k
  go_enter Tryz.func22, Tryz.ntmps22
  go_wp2
  refine wp_loop_rounds 1 ?_
  rw [rounds_succ]
  go_wp2
  go_ret
  exact ⟨rfl, rfl⟩
end Go.Proofs.YtgjcblginkdinaaGreatDoor
set_option linter.unusedVariables false
namespace Go.Proofs.YtgjcblginkdinaaGreatDoor
open Go.RowKit Go.Extern.Stop Go.Stop Go.Extern

theorem code_nil (w : World) : Calls Tryz.prog 14 #[.nilIface] w fun e w' => e = .returned (.int .i64 0) ∧ w' = w := by
  go_enter Tryz.func14, Tryz.ntmps14
  go_wp2
  go_ret
  exact ⟨rfl, rfl⟩

theorem as_hit' (k : Int) (t : Addr) (old : Value) (w : World) (hg : HasErr w) (ht0 : w.cell? t = some old) (hf0 : w.frozen? t = false) :
    Calls Tryz.prog 21 #[.iface 47 (.int .i64 k), .iface 65 (.pointer (some t))] w fun ev w' => ev = .returned (.bool true) ∧ ∃ W1, Below w.heap.size w W1 ∧ w' = W1.setCell t (.int .i64 k) :=
  (as_hit k t old w hg ht0 hf0).mono fun e w' ⟨he, hw⟩ => ⟨he, _, ((((Below.refl _ _).alloc (Nat.le_refl _) _).alloc (by simp) _).alloc (by simp; omega) _).alloc (by simp; omega) _, hw⟩

set_option maxHeartbeats 1000000 in
theorem code_errno (k : Int) (w : World) (hg : HasErr w) :
    Calls Tryz.prog 14 #[.iface 47 (.int .i64 k)] w fun e w' => e = .returned (.int .i64 k) ∧ Below w.heap.size w w' := by
  have hg1 : HasErr (w.alloc (.cells #[.int .i64 0] 47)) := hg.below ((Below.refl _ _).alloc (Nat.le_refl _) _)
  have ha := as_hit' k ⟨w.heap.size, 0, none⟩ (.int .i64 0) (w.alloc (.cells #[.int .i64 0] 47)) hg1 (by rw [World.cell?_alloc_at _ _ _ _ rfl]; rfl) (World.frozen?_alloc_at _ _ _ _ rfl)
  have HA := Lib.hid ha
  clear ha hg1 hg
  go_enter Tryz.func14, Tryz.ntmps14
  go_wp2_with fail
  refine HA.out.mono ?_
  rintro e w1 ⟨rfl, W1, hB, hw⟩
  have hc0 : W1.cell? ⟨w.heap.size, 0, none⟩ = some (.int .i64 0) := (hB.cell (p := ⟨w.heap.size, 0, none⟩) (by simp)).trans (by rw [World.cell?_alloc_at _ _ _ _ rfl]; rfl)
  have hc : w1.cell? ⟨w.heap.size, 0, none⟩ = some (.int .i64 k) := by
    rw [hw]
    exact World.cell?_setCell_same _ _ _ hc0
  have hb : Below w.heap.size w w1 := by
    rw [hw]
    exact (((Below.refl _ _).alloc (Nat.le_refl _) _).trans (hB.mono (by simp))).setCell (Nat.le_refl _) _
  clear hw hB hc0
  go_wp2_with fail
  refine (is_same k _).mono ?_
  rintro e w2 ⟨rfl, rfl⟩
  go_wp2
  go_ret
  exact ⟨rfl, hb⟩
end Go.Proofs.YtgjcblginkdinaaGreatDoor
