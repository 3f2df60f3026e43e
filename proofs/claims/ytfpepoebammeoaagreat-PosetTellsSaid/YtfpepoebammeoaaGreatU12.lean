/- The contracts of container/heap's up and down over ready. -/
import Derived.Test.YtfpepoebammeoaaGreatU3
set_option linter.unusedVariables false
namespace Go.Proofs.YtfpepoebammeoaaGreat
open Go.ChangeShapes Go.WideShapes Go.ChangeAt Go.RowKit

abbrev hpI (p : Nat) : Value := .iface 103 (.pointer (some ⟨p, 0, none⟩))
theorem half_up {j : Nat} (h : 0 < j) : ((j : Int) - 1).tdiv 2 = (((j - 1) / 2 : Nat) : Int) := by
  rw [show (j : Int) - 1 = ((j - 1 : Nat) : Int) by omega]
  rfl
theorem Hp.drewN {p B d : Nat} {w : World} {v : Value} {a : List Int} (h : Hp p B w v a) : Hp p B (w.drewN d) v a := ⟨h.cell, h.fro, h.row, h.lt⟩

set_option maxHeartbeats 400000 in
theorem up_any (a0 : List Int) (p B j0 : Nat) (w : World) (v : Value) (h : Hp p B w v a0) (hU : HeapU a0 a0.length j0) (hj : j0 < a0.length) (hl : a0.length ≤ 1000000000) :
    Calls Tryz.prog 104 #[hpI p, .int .i64 (j0 : Nat)] w fun e w' => e = .returned (.tuple #[]) ∧ ∃ a', Hp p B w' v a' ∧ Heap a' a'.length ∧ a'.length = a0.length ∧ (∀ x, a'.count x = a0.count x) ∧ Off (fun i => v.ownBlock = some i) w w' := by
  obtain ⟨b, c, rfl, hB, hbl, hnc, hcm, hat⟩ := h.at (by omega)
  obtain ⟨n, hn⟩ : ∃ n, n = a0.length := ⟨_, rfl⟩
  rw [← hn] at h hU hj hl hnc ⊢
  have HH := Lib.hid h
  have HU := Lib.hid hU
  have HN := Lib.hid hn
  clear h hU hn hat
  go_enter Tryz.func104, Tryz.ntmps104
  go_wp2_with fail
  go_loopw [1] (fun jv wr => ∃ (j : Nat) (a : List Int), jv = .int .i64 (j : Nat) ∧ j < n ∧ Hid (a.length = n) ∧ Hid (Hp p B wr (.slice (some ⟨b, 0, none⟩) n c) a) ∧ Hid (HeapU a n j) ∧ Hid (∀ x, a.count x = a0.count x) ∧ Hid (Off (fun i => i = b) w wr)) (fun jv _ => (intOf jv).toNat)
  case atStart => exact ⟨j0, a0, rfl, hj, Lib.hid HN.out.symm, HH, HU, Lib.hid fun x => rfl, Lib.hid (Off.refl _ _)⟩
  case round =>
    obtain ⟨j, a, rfl, hjn, HL, HP, HUa, HC, HO⟩ := hrel
    have cp := HP.out.cell
    have ml := methLess cp
    have ms : ∀ d, (Go.method 277 103 (.pointer (some ⟨p, 0, none⟩)) "Swap").run Tryz.prog (wr.drewN d) = .ok (140, .slice (some ⟨b, 0, none⟩) n c) (wr.drewN d) := fun d => methSwap (w := wr.drewN d) cp
    obtain ⟨i, hi⟩ : ∃ i, i = (j - 1) / 2 := ⟨_, rfl⟩
    by_cases h0 : j = 0
    · subst h0
      have HE := Lib.hid (up_end HUa.out (.inl rfl))
      clear hi
      go_wp2_with fail
      go_end0
      exact ⟨rfl, a, HP.out, by rw [HL.out]; exact HE.out, HL.out, HC.out, HO.out.mono fun i hi => by rw [hi]; rfl⟩
    · have hq : ((j : Int) - 1).tdiv 2 = (i : Nat) := by rw [half_up (by omega), hi]
      have hij : i < j := by omega
      have e1 : ((i : Int) == (j : Int)) = false := by rw [beq_eq_false_iff_ne]; omega
      have hcell := HP.out.cells HL.out
      have LC := less_any a b n c j i wr HL.out.symm hnc hcm hjn (by omega) (hcell j (by omega)).1 (hcell i (by omega)).1
      have SC : ∀ d, Calls Tryz.prog 140 #[.slice (some ⟨b, 0, none⟩) n c, .int .i64 (i : Nat), .int .i64 (j : Nat)] (wr.drewN d) fun e w' => e = .returned (.tuple #[]) ∧ Hp p B w' (.slice (some ⟨b, 0, none⟩) n c) (swapL a i j) ∧ Off (fun i => i = b) wr w' := fun d => by
        refine (swap_any a b n c i j (wr.drewN d) HL.out.symm hnc hcm (by omega) hjn (hcell i (by omega)).1 (hcell j (by omega)).1 (hcell i (by omega)).2 (hcell j (by omega)).2).mono ?_
        rintro e w' ⟨rfl, q, rfl⟩
        have hp' := HP.out.drewN (d := d)
        rw [← HL.out] at hp'
        have hsw := hp'.swap (i := i) (j := j) (by rw [HL.out]; omega) (by rw [HL.out]; omega)
        rw [swapL_len, HL.out] at hsw
        exact ⟨rfl, hsw.1.drewN, (Off.drewN (Off.refl _ _)).trans hsw.2.drewN⟩
      have HSC := Lib.hid SC
      clear SC hcell
      by_cases hlt : a.getD j 0 < a.getD i 0
      · have hd : decide (a.getD j 0 < a.getD i 0) = true := decide_eq_true hlt
        rw [hd] at LC
        have HLC := Lib.hid LC
        have HS := Lib.hid (by have := up_step (by rw [HL.out]; exact Nat.le_refl _) HUa.out (by omega) (by omega) (by rw [← hi]; exact hlt); rw [← hi] at this; exact this : HeapU (swapL a i j) n i)
        have HCT := Lib.hid (fun x => swapL_count (a := a) (i := i) (j := j) (by rw [HL.out]; omega) (by rw [HL.out]; omega) x)
        clear LC hd hlt hi
        go_wp2_with fail
        refine HLC.out.mono ?_
        rintro e w1 ⟨rfl, d, rfl⟩
        have msd := ms d
        go_wp2_with fail
        refine (HSC.out d).mono ?_
        rintro e w2 ⟨rfl, hp2, ho2⟩
        have HP2 := Lib.hid hp2
        have HO2 := Lib.hid ho2
        clear hp2 ho2
        go_wp2_with fail
        exact ⟨⟨i, swapL a i j, rfl, by omega, Lib.hid (by rw [swapL_len]; exact HL.out), HP2, HS, Lib.hid (fun x => (HCT.out x).trans (HC.out x)), Lib.hid (HO.out.trans HO2.out)⟩, by simp [intOf]; omega⟩
      · have hd : decide (a.getD j 0 < a.getD i 0) = false := decide_eq_false hlt
        rw [hd] at LC
        have HLC := Lib.hid LC
        have HE := Lib.hid (up_end HUa.out (.inr (by rw [← hi]; exact hlt)))
        clear LC hd hlt hi
        go_wp2_with fail
        refine HLC.out.mono ?_
        rintro e w1 ⟨rfl, d, rfl⟩
        go_wp2_with fail
        go_end0
        exact ⟨rfl, a, HP.out.drewN, by rw [HL.out]; exact HE.out, HL.out, HC.out, (HO.out.drewN).mono fun i hi => by rw [hi]; rfl⟩
end Go.Proofs.YtfpepoebammeoaaGreat
