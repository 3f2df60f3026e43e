/- Code of a nil error and of an error of type api.Errno. Code of an error by its number. -/
import Derived.Test.YthamfbfeokmhgaaGreatDoorV19
import Derived.Test.YthamfbfeokmhgaaGreatDoorV7
set_option linter.unusedVariables false
namespace Go.Proofs.YthamfbfeokmhgaaGreatDoor
open Go.RowKit Go.Extern.Stop Go.Stop Go.Extern

theorem code_nil (w : World) : Calls Tryz.prog 9 #[.nilIface] w fun e w' => e = .returned (.int .i64 0) ∧ w' = w := by
  go_enter Tryz.func9, Tryz.ntmps9
  go_wp2
  go_ret
  exact ⟨rfl, rfl⟩

theorem as_hit' (k : Int) (t : Addr) (old : Value) (w : World) (hg : HasErr w) (ht0 : w.cell? t = some old) (hf0 : w.frozen? t = false) :
    Calls Tryz.prog 25 #[.iface 55 (.int .i64 k), .iface 65 (.pointer (some t))] w fun ev w' => ev = .returned (.bool true) ∧ ∃ W1, Below w.heap.size w W1 ∧ w' = W1.setCell t (.int .i64 k) :=
  (as_hit k t old w hg ht0 hf0).mono fun e w' ⟨he, hw⟩ => ⟨he, _, ((((Below.refl _ _).alloc (Nat.le_refl _) _).alloc (by simp) _).alloc (by simp; omega) _).alloc (by simp; omega) _, hw⟩

set_option maxHeartbeats 1000000 in
theorem code_errno (k : Int) (w : World) (hg : HasErr w) :
    Calls Tryz.prog 9 #[.iface 55 (.int .i64 k)] w fun e w' => e = .returned (.int .i64 k) ∧ Below w.heap.size w w' := by
  have hg1 : HasErr (w.alloc (.cells #[.int .i64 0] 55)) := hg.below ((Below.refl _ _).alloc (Nat.le_refl _) _)
  have ha := as_hit' k ⟨w.heap.size, 0, none⟩ (.int .i64 0) (w.alloc (.cells #[.int .i64 0] 55)) hg1 (by rw [World.cell?_alloc_at _ _ _ _ rfl]; rfl) (World.frozen?_alloc_at _ _ _ _ rfl)
  have HA := Lib.hid ha
  clear ha hg1 hg
  go_enter Tryz.func9, Tryz.ntmps9
  go_wp2_with fail
  refine HA.out.mono ?_
  rintro e w1 ⟨rfl, W1, hB, hw⟩
  have hc0 : W1.cell? ⟨w.heap.size, 0, none⟩ = some (.int .i64 0) := (hB.cell (p := ⟨w.heap.size, 0, none⟩) (by simp)).trans (by rw [World.cell?_alloc_at _ _ _ _ rfl]; rfl)
  have hc : w1.cell? ⟨w.heap.size, 0, none⟩ = some (.int .i64 k) := by
    rw [hw]
    exact World.cell?_setCell_same _ _ _ hc0
  have hb : Below w.heap.size w w1 := by
    rw [hw]
    exact (((Below.refl _ _).alloc (Nat.le_refl _) _).trans (hB.mono (by simp))).setCell (Nat.le_refl _) _
  clear hw hB hc0
  go_wp2_with fail
  refine (is_same k _).mono ?_
  rintro e w2 ⟨rfl, rfl⟩
  go_wp2
  go_ret
  exact ⟨rfl, hb⟩
end Go.Proofs.YthamfbfeokmhgaaGreatDoor
set_option linter.unusedVariables false
namespace Go.Proofs.YthamfbfeokmhgaaGreatDoor
open Go.ChangeShapes Go.WideShapes Go.ChangeAt Go.RowKit

theorem code_s (k : Int) (w : World) (hg : HasErr w) : Calls Tryz.prog 9 #[errS k] w fun e w' => e = .returned (.int .i64 k) ∧ Below w.heap.size w w' := by
  by_cases h : k = 0
  · subst h
    exact (code_nil w).mono fun e w' ⟨h1, h2⟩ => ⟨h1, h2 ▸ Below.refl _ _⟩
  · rw [errS, if_neg h]
    exact code_errno k w hg
end Go.Proofs.YthamfbfeokmhgaaGreatDoor
