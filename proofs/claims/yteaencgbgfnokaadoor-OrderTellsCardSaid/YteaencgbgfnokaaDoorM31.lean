/- The contract of awake. -/
import Derived.Test.YteaencgbgfnokaaDoorM29
import Derived.Test.YteaencgbgfnokaaDoorM30
set_option linter.unusedVariables false
namespace Go.Proofs.YteaencgbgfnokaaDoor
open Go.ChangeShapes Go.WideShapes Go.ChangeAt Go.RowKit

theorem eqNil (w : World) : (binOp .eql 27 .nilIface .nilIface).run Tryd.prog w = .ok (.bool true) w := by kernel_rfl
theorem lit_reads {w : World} {xs : Lb} {t : TypeId} (h0 : xs ≠ []) (hm : xs.length ≤ 1000) : Reads (w.alloc (.cells (xs.map Value.string).toArray t)) (.slice (some ⟨w.heap.size, 0, none⟩) xs.length xs.length) xs :=
  .inr ⟨h0, w.heap.size, 0, xs.length, rfl, Nat.le_refl _, by omega, by simp, fun j x hx => by
    rw [Nat.zero_add, World.cell?_alloc_at _ _ _ _ rfl]
    simp [hx]⟩
def s0W (w : World) : World := ((w.alloc (.cells #[.string ⟨#[97]⟩] 9)).alloc (.cells #[.string ⟨#[97]⟩] 9)).alloc (.cells #[.string ⟨#[99]⟩, .string ⟨#[]⟩, .slice (some ⟨w.heap.size, 0, none⟩) 1 1, .slice none 0 0, .string ⟨#[98]⟩, .string ⟨#[]⟩, .slice (some ⟨w.heap.size + 1, 0, none⟩) 1 1, .slice none 0 0, .string ⟨#[97]⟩, .string ⟨#[]⟩, .slice none 0 0, .slice none 0 0] 44)
theorem s0_reads (w : World) : SReads (s0W w) (.slice (some ⟨w.heap.size + 1 + 1, 0, none⟩) 3 3) S0 ∧ Below w.heap.size w (s0W w) := by
  obtain ⟨w1, h1⟩ : ∃ w1, w1 = w.alloc (.cells #[.string ⟨#[97]⟩] 9) := ⟨_, rfl⟩
  obtain ⟨w2, h2⟩ : ∃ w2, w2 = w1.alloc (.cells #[.string ⟨#[97]⟩] 9) := ⟨_, rfl⟩
  have s1 : w1.heap.size = w.heap.size + 1 := by rw [h1]; simp
  have s2 : w2.heap.size = w.heap.size + 1 + 1 := by rw [h2]; simp [s1]
  have r1 : Reads w1 (.slice (some ⟨w.heap.size, 0, none⟩) 1 1) [bA] := by rw [h1]; exact lit_reads (xs := [bA]) (by simp) (by simp)
  have r2 : Reads w2 (.slice (some ⟨w.heap.size + 1, 0, none⟩) 1 1) [bA] := by
    have := lit_reads (w := w1) (xs := [bA]) (t := 9) (by simp) (by simp)
    rw [s1] at this
    rw [h2]; exact this
  have b1 : Below w.heap.size w w1 := by rw [h1]; exact (Below.refl _ _).alloc (Nat.le_refl _) _
  have b2 : Below w1.heap.size w1 w2 := by rw [h2]; exact (Below.refl _ _).alloc (Nat.le_refl _) _
  unfold s0W
  rw [← h1, ← h2]
  obtain ⟨w3, h3⟩ : ∃ w3, w3 = w2.alloc (.cells #[.string ⟨#[99]⟩, .string ⟨#[]⟩, .slice (some ⟨w.heap.size, 0, none⟩) 1 1, .slice none 0 0, .string ⟨#[98]⟩, .string ⟨#[]⟩, .slice (some ⟨w.heap.size + 1, 0, none⟩) 1 1, .slice none 0 0, .string ⟨#[97]⟩, .string ⟨#[]⟩, .slice none 0 0, .slice none 0 0] 44) := ⟨_, rfl⟩
  have b3 : Below w2.heap.size w2 w3 := by rw [h3]; exact (Below.refl _ _).alloc (Nat.le_refl _) _
  rw [← h3]
  have c : ∀ j (u : Value), (#[Value.string ⟨#[99]⟩, .string ⟨#[]⟩, .slice (some ⟨w.heap.size, 0, none⟩) 1 1, .slice none 0 0, .string ⟨#[98]⟩, .string ⟨#[]⟩, .slice (some ⟨w.heap.size + 1, 0, none⟩) 1 1, .slice none 0 0, .string ⟨#[97]⟩, .string ⟨#[]⟩, .slice none 0 0, .slice none 0 0])[j]? = some u → w3.cell? ⟨w.heap.size + 1 + 1, j, none⟩ = some u := fun j u hu => by
    rw [h3, World.cell?_alloc_at _ _ _ _ s2.symm]; first | done | exact hu
  have r13 := (r1.below b2).below b3
  have r23 := r2.below b3
  refine ⟨.inr ⟨by simp [S0], w.heap.size + 1 + 1, 0, 3, rfl, Nat.le_refl _, by omega, by rw [h3]; simp [s2], fun j p hj => ?_⟩, b1.trans ((b2.trans (b3.mono (by omega))).mono (by omega))⟩
  match j, hj with
  | 0, hj => simp [S0] at hj; subst hj; exact ⟨⟨#[]⟩, _, none, 0, 0, c 0 _ rfl, c 1 _ rfl, c 2 _ rfl, c 3 _ rfl, r13⟩
  | 1, hj => simp [S0] at hj; subst hj; exact ⟨⟨#[]⟩, _, none, 0, 0, c 4 _ rfl, c 5 _ rfl, c 6 _ rfl, c 7 _ rfl, r23⟩
  | 2, hj => simp [S0] at hj; subst hj; exact ⟨⟨#[]⟩, _, none, 0, 0, c 8 _ rfl, c 9 _ rfl, c 10 _ rfl, c 11 _ rfl, .inl ⟨rfl, none, 0, rfl⟩⟩
  | j + 3, hj => simp [S0] at hj
set_option maxHeartbeats 600000 in
set_option maxRecDepth 100000 in
theorem awake_any (w : World) : Calls Tryd.prog 4 #[] w fun e w' => e = .returned (.bool true) ∧ Below w.heap.size w w' := by
  obtain ⟨hS, hB⟩ := s0_reads w
  have HLI := Lib.hid (linear_any S0 _ _ hS s0_small)
  have HHE := Lib.hid (fun W (hW : Below (s0W w).heap.size (s0W w) W) => headsS_any S0 _ W (hS.below hW) s0_small)
  have HB := Lib.hid hB
  have HW := Lib.hid (show s0W w = _ by unfold s0W; rfl)
  have e1 := eqNil
  clear hS hB
  go_enter Tryd.func4, Tryd.ntmps4
  go_wp2_with fail
  refine HLI.out.mono ?_
  rintro e w4 ⟨ov, out, k, rfl, hlin, hrd, hb⟩
  obtain ⟨rfl, rfl⟩ := s0_lin hlin
  have h0 : errV 0 = .nilIface := rfl
  rw [h0]
  obtain ⟨oa, oc, hov, _⟩ := hrd.form
  have h3 : ([bA, bB, bC] : Lb).length = 3 := rfl
  rw [h3] at hov
  subst hov
  have hb4 : Below w4.heap.size w4 (w4.alloc (.cells #[.string ⟨#[97]⟩, .string ⟨#[98]⟩, .string ⟨#[99]⟩] 9)) := (Below.refl _ _).alloc (Nat.le_refl _) _
  have SM := same_any [bA, bB, bC] [bA, bB, bC] (.slice oa 3 oc) (.slice (some ⟨w4.heap.size, 0, none⟩) 3 3) (w4.alloc (.cells #[.string ⟨#[97]⟩, .string ⟨#[98]⟩, .string ⟨#[99]⟩] 9)) (hrd.below hb4) (lit_reads (xs := [bA, bB, bC]) (by simp) (by simp))
  rw [decide_eq_true rfl] at SM
  have HSM := Lib.hid SM
  have HB4 := Lib.hid (hb.trans (hb4.mono hb.size))
  clear SM hb4 hb hrd h0 h3 hlin
  go_wp2_with fail
  refine HSM.out.mono ?_
  rintro e w5 ⟨rfl, hb5⟩
  have HB5 := Lib.hid (HB4.out.trans (hb5.mono HB4.out.size))
  have HH5 := Lib.hid (HHE.out w5 HB5.out)
  clear hb5
  go_wp2_with fail
  refine HH5.out.mono ?_
  rintro e w6 ⟨hv, out, rfl, hhd, hrd, hb6⟩
  obtain rfl := s0_heads hhd
  obtain ⟨ha, hc, hov, _⟩ := hrd.form
  have h2 : ([bB, bC] : Lb).length = 2 := rfl
  rw [h2] at hov
  subst hov
  have hb7 : Below w6.heap.size w6 (w6.alloc (.cells #[.string ⟨#[98]⟩, .string ⟨#[99]⟩] 9)) := (Below.refl _ _).alloc (Nat.le_refl _) _
  have SM := same_any [bB, bC] [bB, bC] (.slice ha 2 hc) (.slice (some ⟨w6.heap.size, 0, none⟩) 2 2) (w6.alloc (.cells #[.string ⟨#[98]⟩, .string ⟨#[99]⟩] 9)) (hrd.below hb7) (lit_reads (xs := [bB, bC]) (by simp) (by simp))
  rw [decide_eq_true rfl] at SM
  have HSM2 := Lib.hid SM
  have HB7 := Lib.hid (HB5.out.trans ((hb6.trans (hb7.mono hb6.size)).mono HB5.out.size))
  clear SM hb7 hb6 hrd h2 hhd
  go_wp2_with fail
  refine HSM2.out.mono ?_
  rintro e w8 ⟨rfl, hb8⟩
  have HB8 := Lib.hid (HB7.out.trans (hb8.mono HB7.out.size))
  clear hb8
  go_wp2_with fail
  go_ret
  exact ⟨rfl, HB.out.trans (HB8.out.mono HB.out.size)⟩
end Go.Proofs.YteaencgbgfnokaaDoor
