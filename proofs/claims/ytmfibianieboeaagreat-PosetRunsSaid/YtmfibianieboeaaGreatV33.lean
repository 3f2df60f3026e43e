/- Groups: alone. -/
import Derived.Test.YtmfibianieboeaaGreatV17
set_option linter.unusedVariables false
set_option linter.unusedSimpArgs false
namespace Go.Proofs.YtmfibianieboeaaGreat
open Go.ChangeShapes Go.WideShapes Go.ChangeAt Go.RowKit

def aloK (j x : Nat) : Nat := if x < j then x else 0
theorem aloK_step {j m : Nat} (h : j < m) : (bkv (aloK j) m).set j (.int .i64 (j : Int)) = bkv (aloK (j + 1)) m := by
  rw [bkv_set _ h]
  refine bkv_congr fun v _ => ?_
  unfold upd aloK
  by_cases e : v = j
  · subst e; simp
  · simp only [if_neg e]
    by_cases hv : v < j
    · rw [if_pos hv, if_pos (by omega)]
    · rw [if_neg hv, if_neg (by omega)]
theorem aloK_all (m : Nat) : bkv (aloK m) m = bkv id m := bkv_congr fun v hv => by simp [aloK, hv]
set_option maxHeartbeats 1000000 in
set_option maxRecDepth 100000 in
theorem alone_any (m : Nat) (w : World) (hm : m ≤ 1000000) :
    Calls Tryz.prog 65 #[.int .i64 (m : Int)] w fun e w' => ∃ pb, e = .returned (.slice (some ⟨pb, 0, none⟩) m m) ∧ Row 1 w.heap.size w' (.slice (some ⟨pb, 0, none⟩) m m) m (bkv id m) ∧ Below w.heap.size w w' := by
  have mk1 := run_make_row' (P := Tryz.prog) 88 3 (.int .i64 0) 8 Tryz.underlying88 infoIk rfl .i64 .i64 m (by omega) (by omega)
  have hr0 : Row 1 w.heap.size (w.alloc (.cells (madeCells #[.int .i64 0] m) 3)) (.slice (some ⟨w.heap.size, 0, none⟩) m m) m (bkv (aloK 0) m) := by
    have : bkv (aloK 0) m = iv (List.replicate m 0) := by
      rw [bkv_congr (g := fun _ => 0) (fun v _ => by simp [aloK]), ← bkv_zero]
    rw [this]
    exact made_intk hm (Nat.le_refl _) _
  have HR0 := Lib.hid hr0
  have HB0 := Lib.hid ((Below.refl w.heap.size w).alloc (Nat.le_refl _) (.cells (madeCells #[.int .i64 0] m) 3))
  clear hr0
  go_enter Tryz.func65, Tryz.ntmps65
  go_wp2_with fail
  clear mk1
  go_loopw [9] (fun jv wr => ∃ j : Nat, jv = .int .i64 (j : Nat) ∧ j ≤ m ∧ Hid (Row 1 w.heap.size wr (.slice (some ⟨w.heap.size, 0, none⟩) m m) m (bkv (aloK j) m)) ∧ Hid (Below w.heap.size w wr)) (fun jv _ => m - (intOf jv).toNat)
  case atStart => exact ⟨0, rfl, Nat.zero_le _, HR0, HB0⟩
  case round =>
    obtain ⟨j, rfl, hj, HO, HB⟩ := hrel
    by_cases hlj : j < m
    · obtain ⟨cp, fp, _⟩ := HO.out.cellF (bkv_at (aloK j) hlj)
      have hp := HO.out.put (j := j) (by rw [bkv_len]; exact hlj) (.int .i64 (j : Int))
      rw [aloK_step hlj] at hp
      have HP := Lib.hid hp
      have HB9 := Lib.hid (HB.out.setCell (p := ⟨w.heap.size, j, none⟩) (Nat.le_refl _) (.int .i64 (j : Int)))
      clear hp
      go_wp2_with fail
      exact ⟨⟨j + 1, by go_num, by omega, HP, HB9⟩, by simp [intOf]; omega⟩
    · have hje : m = j := by omega
      subst hje
      go_wp2_with fail
      go_ret
      refine ⟨_, rfl, ?_, HB.out⟩
      have h := HO.out
      rw [aloK_all] at h
      exact h
end Go.Proofs.YtmfibianieboeaaGreat
