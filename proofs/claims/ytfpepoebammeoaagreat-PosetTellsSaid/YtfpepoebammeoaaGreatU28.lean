/- Pairs sorted by the first, then by the second: the closure of New. -/
import Derived.Test.YtfpepoebammeoaaGreatU25
set_option linter.unusedVariables false
set_option linter.unusedSimpArgs false
namespace Go.Proofs.YtfpepoebammeoaaGreat
open Go.ChangeShapes Go.WideShapes Go.ChangeAt Go.RowKit

set_option maxHeartbeats 4000000 in
theorem closure_any (x y : Int × Int) (W : World) : Calls Tryz.prog 25 #[.agg #[.int .i64 x.1, .int .i64 x.2], .agg #[.int .i64 y.1, .int .i64 y.2]] W fun e w' => e = .returned (.int .i64 (cmpP x y)) ∧ ∃ q os', w' = Go.Sort.grow (W.drewN q) os' := by
  obtain ⟨x1, x2⟩ := x
  obtain ⟨y1, y2⟩ := y
  have H1 := Lib.hid (fun w => compare_any x1 y1 w)
  have H2 := Lib.hid (fun w => compare_any x2 y2 w)
  unfold cmpP
  simp only
  obtain ⟨a, ha⟩ : ∃ a, a = cmpI x1 y1 := ⟨_, rfl⟩
  obtain ⟨b, hb⟩ : ∃ b, b = cmpI x2 y2 := ⟨_, rfl⟩
  rw [← ha] at H1 ⊢
  rw [← hb] at H2 ⊢
  have HO := Lib.hid (fun k w => or_any a b k w)
  obtain ⟨r, hr⟩ : ∃ r, r = if a = 0 then b else a := ⟨_, rfl⟩
  rw [← hr] at HO ⊢
  clear ha hb hr
  go_enter Tryz.func25, Tryz.ntmps25
  obtain ⟨W2, hW2⟩ : ∃ W2, W2 = (W.alloc (.cells #[.int .i64 x1, .int .i64 x2] 36)).alloc (.cells #[.int .i64 y1, .int .i64 y2] 36) := ⟨_, rfl⟩
  obtain ⟨s, hs⟩ : ∃ s, s = W.heap.size := ⟨_, rfl⟩
  have hs2 : W2.heap.size = s + 2 := by rw [hW2, hs]; simp
  have a0 : W2.cell? ⟨s, 0, none⟩ = some (.int .i64 x1) := by
    have hl : s < (W.alloc (.cells #[.int .i64 x1, .int .i64 x2] 36)).heap.size := by rw [hs]; simp
    rw [hW2, ((Below.refl _ _).alloc (Nat.le_refl _) _ : Below (W.alloc (.cells #[.int .i64 x1, .int .i64 x2] 36)).heap.size _ _).cell (p := ⟨s, 0, none⟩) hl, hs, World.cell?_alloc_at _ _ _ _ rfl]
    rfl
  have a1 : W2.cell? ⟨s, 1, none⟩ = some (.int .i64 x2) := by
    have hl : s < (W.alloc (.cells #[.int .i64 x1, .int .i64 x2] 36)).heap.size := by rw [hs]; simp
    rw [hW2, ((Below.refl _ _).alloc (Nat.le_refl _) _ : Below (W.alloc (.cells #[.int .i64 x1, .int .i64 x2] 36)).heap.size _ _).cell (p := ⟨s, 1, none⟩) hl, hs, World.cell?_alloc_at _ _ _ _ rfl]
    rfl
  have b0 : W2.cell? ⟨s + 1, 0, none⟩ = some (.int .i64 y1) := by
    rw [hW2, World.cell?_alloc_at _ _ _ _ (by rw [hs]; simp)]
    rfl
  have b1 : W2.cell? ⟨s + 1, 1, none⟩ = some (.int .i64 y2) := by
    rw [hW2, World.cell?_alloc_at _ _ _ _ (by rw [hs]; simp)]
    rfl
  have HO2 : Hid (∀ t, Calls Tryz.prog 26 #[.slice (some ⟨W2.heap.size, 0, none⟩) 2 2] (W2.alloc (.cells #[.int .i64 a, .int .i64 b] t)).drew fun e w' => e = .returned (.int .i64 r) ∧ w' = (W2.alloc (.cells #[.int .i64 a, .int .i64 b] t)).drew) := Lib.hid (fun t => HO.out _ _ (by show (W2.alloc _).cell? _ = _; rw [World.cell?_alloc_at _ _ _ _ rfl]; rfl) (by show (W2.alloc _).cell? _ = _; rw [World.cell?_alloc_at _ _ _ _ rfl]; rfl))
  have HW2 := Lib.hid hW2
  go_wp2_with fail
  rw [← hs, ← hW2]
  rw [hs2] at HO2
  have HS2 := Lib.hid hs2
  clear hs hW2 HO
  go_region_law (first
    | (go_simp; with_reducible refine (H1.out _).mono ?_; rintro e w7 ⟨rfl, rfl⟩)
    | (go_simp; with_reducible refine (H2.out _).mono ?_; rintro e w7 ⟨rfl, rfl⟩)
    | (go_simp; with_reducible refine (HO2.out _).mono ?_; rintro e w7 ⟨rfl, rfl⟩))
  all_goals
    go_wp2_with fail
    go_ret
    refine ⟨rfl, 1, #[.cells #[.int .i64 x1, .int .i64 x2] 36] ++ (#[.cells #[.int .i64 y1, .int .i64 y2] 36] ++ #[.cells #[.int .i64 a, .int .i64 b] 3]), ?_⟩
    rw [HW2.out, Go.Sort.alloc_eq_grow, Go.Sort.alloc_eq_grow, Go.Sort.alloc_eq_grow, Go.Sort.grow_grow, Go.Sort.grow_grow]
    first | rfl | (rw [Array.append_assoc]; rfl) | (rw [← Array.append_assoc]; rfl)
end Go.Proofs.YtfpepoebammeoaaGreat
