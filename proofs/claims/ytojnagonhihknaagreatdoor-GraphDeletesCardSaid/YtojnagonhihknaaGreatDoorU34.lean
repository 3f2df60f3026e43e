/- The contracts of container/heap's up and down over ready. The contract of container/heap's down over ready. The contracts of container/heap's Push and Pop over ready. -/
import Derived.Test.YtojnagonhihknaaGreatDoorU15
set_option linter.unusedVariables false
namespace Go.Proofs.YtojnagonhihknaaGreatDoor
open Go.ChangeShapes Go.WideShapes Go.ChangeAt Go.RowKit

abbrev hpI (p : Nat) : Value := .iface 193 (.pointer (some ⟨p, 0, none⟩))
theorem half_up {j : Nat} (h : 0 < j) : ((j : Int) - 1).tdiv 2 = (((j - 1) / 2 : Nat) : Int) := by
  rw [show (j : Int) - 1 = ((j - 1 : Nat) : Int) by omega]
  rfl
theorem Hp.drewN {p B d : Nat} {w : World} {v : Value} {a : List Int} (h : Hp p B w v a) : Hp p B (w.drewN d) v a := ⟨h.cell, h.fro, h.row, h.lt⟩

set_option maxHeartbeats 400000 in
theorem up_any (a0 : List Int) (p B j0 : Nat) (w : World) (v : Value) (h : Hp p B w v a0) (hU : HeapU a0 a0.length j0) (hj : j0 < a0.length) (hl : a0.length ≤ 1000000000) :
    Calls Tryz.prog 132 #[hpI p, .int .i64 (j0 : Nat)] w fun e w' => e = .returned (.tuple #[]) ∧ ∃ a', Hp p B w' v a' ∧ Heap a' a'.length ∧ a'.length = a0.length ∧ (∀ x, a'.count x = a0.count x) ∧ Off (fun i => v.ownBlock = some i) w w' := by
  obtain ⟨b, c, rfl, hB, hbl, hnc, hcm, hat⟩ := h.at (by omega)
  obtain ⟨n, hn⟩ : ∃ n, n = a0.length := ⟨_, rfl⟩
  rw [← hn] at h hU hj hl hnc ⊢
  have HH := Lib.hid h
  have HU := Lib.hid hU
  have HN := Lib.hid hn
  clear h hU hn hat
  go_enter Tryz.func132, Tryz.ntmps132
  go_wp2_with fail
  go_loopw [1] (fun jv wr => ∃ (j : Nat) (a : List Int), jv = .int .i64 (j : Nat) ∧ j < n ∧ Hid (a.length = n) ∧ Hid (Hp p B wr (.slice (some ⟨b, 0, none⟩) n c) a) ∧ Hid (HeapU a n j) ∧ Hid (∀ x, a.count x = a0.count x) ∧ Hid (Off (fun i => i = b) w wr)) (fun jv _ => (intOf jv).toNat)
  case atStart => exact ⟨j0, a0, rfl, hj, Lib.hid HN.out.symm, HH, HU, Lib.hid fun x => rfl, Lib.hid (Off.refl _ _)⟩
  case round =>
    obtain ⟨j, a, rfl, hjn, HL, HP, HUa, HC, HO⟩ := hrel
    have cp := HP.out.cell
    have ml := methLess cp
    have ms : ∀ d, (Go.method 403 193 (.pointer (some ⟨p, 0, none⟩)) "Swap").run Tryz.prog (wr.drewN d) = .ok (244, .slice (some ⟨b, 0, none⟩) n c) (wr.drewN d) := fun d => methSwap (w := wr.drewN d) cp
    obtain ⟨i, hi⟩ : ∃ i, i = (j - 1) / 2 := ⟨_, rfl⟩
    by_cases h0 : j = 0
    · subst h0
      have HE := Lib.hid (up_end HUa.out (.inl rfl))
      clear hi
      go_wp2_with fail
      go_end0
      exact ⟨rfl, a, HP.out, by rw [HL.out]; exact HE.out, HL.out, HC.out, HO.out.mono fun i hi => by rw [hi]; rfl⟩
    · have hq : ((j : Int) - 1).tdiv 2 = (i : Nat) := by rw [half_up (by omega), hi]
      have hij : i < j := by omega
      have e1 : ((i : Int) == (j : Int)) = false := by rw [beq_eq_false_iff_ne]; omega
      have hcell := HP.out.cells HL.out
      have LC := less_any a b n c j i wr HL.out.symm hnc hcm hjn (by omega) (hcell j (by omega)).1 (hcell i (by omega)).1
      have SC : ∀ d, Calls Tryz.prog 244 #[.slice (some ⟨b, 0, none⟩) n c, .int .i64 (i : Nat), .int .i64 (j : Nat)] (wr.drewN d) fun e w' => e = .returned (.tuple #[]) ∧ Hp p B w' (.slice (some ⟨b, 0, none⟩) n c) (swapL a i j) ∧ Off (fun i => i = b) wr w' := fun d => by
        refine (swap_any a b n c i j (wr.drewN d) HL.out.symm hnc hcm (by omega) hjn (hcell i (by omega)).1 (hcell j (by omega)).1 (hcell i (by omega)).2 (hcell j (by omega)).2).mono ?_
        rintro e w' ⟨rfl, q, rfl⟩
        have hp' := HP.out.drewN (d := d)
        rw [← HL.out] at hp'
        have hsw := hp'.swap (i := i) (j := j) (by rw [HL.out]; omega) (by rw [HL.out]; omega)
        rw [swapL_len, HL.out] at hsw
        exact ⟨rfl, hsw.1.drewN, (Off.drewN (Off.refl _ _)).trans hsw.2.drewN⟩
      have HSC := Lib.hid SC
      clear SC hcell
      by_cases hlt : a.getD j 0 < a.getD i 0
      · have hd : decide (a.getD j 0 < a.getD i 0) = true := decide_eq_true hlt
        rw [hd] at LC
        have HLC := Lib.hid LC
        have HS := Lib.hid (by have := up_step (by rw [HL.out]; exact Nat.le_refl _) HUa.out (by omega) (by omega) (by rw [← hi]; exact hlt); rw [← hi] at this; exact this : HeapU (swapL a i j) n i)
        have HCT := Lib.hid (fun x => swapL_count (a := a) (i := i) (j := j) (by rw [HL.out]; omega) (by rw [HL.out]; omega) x)
        clear LC hd hlt hi
        go_wp2_with fail
        refine HLC.out.mono ?_
        rintro e w1 ⟨rfl, d, rfl⟩
        have msd := ms d
        go_wp2_with fail
        refine (HSC.out d).mono ?_
        rintro e w2 ⟨rfl, hp2, ho2⟩
        have HP2 := Lib.hid hp2
        have HO2 := Lib.hid ho2
        clear hp2 ho2
        go_wp2_with fail
        exact ⟨⟨i, swapL a i j, rfl, by omega, Lib.hid (by rw [swapL_len]; exact HL.out), HP2, HS, Lib.hid (fun x => (HCT.out x).trans (HC.out x)), Lib.hid (HO.out.trans HO2.out)⟩, by simp [intOf]; omega⟩
      · have hd : decide (a.getD j 0 < a.getD i 0) = false := decide_eq_false hlt
        rw [hd] at LC
        have HLC := Lib.hid LC
        have HE := Lib.hid (up_end HUa.out (.inr (by rw [← hi]; exact hlt)))
        clear LC hd hlt hi
        go_wp2_with fail
        refine HLC.out.mono ?_
        rintro e w1 ⟨rfl, d, rfl⟩
        go_wp2_with fail
        go_end0
        exact ⟨rfl, a, HP.out.drewN, by rw [HL.out]; exact HE.out, HL.out, HC.out, (HO.out.drewN).mono fun i hi => by rw [hi]; rfl⟩
end Go.Proofs.YtojnagonhihknaaGreatDoor
set_option linter.unusedVariables false
namespace Go.Proofs.YtojnagonhihknaaGreatDoor
open Go.ChangeShapes Go.WideShapes Go.ChangeAt Go.RowKit

def DownP (p B b N c n : Nat) (a0 : List Int) (w : World) (e : Ending) (w' : World) : Prop :=
  ∃ bl a', e = .returned (.bool bl) ∧ Hp p B w' (.slice (some ⟨b, 0, none⟩) N c) a' ∧ Heap a' n ∧ a'.length = N ∧ (∀ x, a'.count x = a0.count x) ∧ (∀ k, n ≤ k → a'.getD k 0 = a0.getD k 0) ∧ Off (fun i => i = b) w w'
theorem child_eq {a : List Int} {n i m : Nat} (hm : m = 2 * i + 1) : child a n i = if m + 1 < n ∧ a.getD (m + 1) 0 < a.getD m 0 then m + 1 else m := by
  subst hm
  unfold child
  rw [show 2 * i + 1 + 1 = 2 * i + 2 by omega]

set_option maxHeartbeats 1000000 in
set_option maxRecDepth 100000 in
theorem down_any (a0 : List Int) (p B b N c n i0 : Nat) (w : World) (h : Hp p B w (.slice (some ⟨b, 0, none⟩) N c) a0) (hD : HeapD a0 n i0) (hL : a0.length = N) (hnN : n ≤ N) (hi0 : i0 ≤ n) (hNc : N ≤ c) (hcm : c ≤ maxLen) (hl : N ≤ 1000000000) :
    Calls Tryz.prog 131 #[hpI p, .int .i64 (i0 : Nat), .int .i64 (n : Nat)] w (DownP p B b N c n a0 w) := by
  have HH := Lib.hid h
  have HD := Lib.hid hD
  have HL0 := Lib.hid hL
  clear h hD hL
  go_enter Tryz.func131, Tryz.ntmps131
  go_wp2_with fail
  go_loopw [7] (fun jv wr => ∃ (i : Nat) (a : List Int), jv = .int .i64 (i : Nat) ∧ i ≤ n ∧ Hid (a.length = N) ∧ Hid (Hp p B wr (.slice (some ⟨b, 0, none⟩) N c) a) ∧ Hid (HeapD a n i) ∧ Hid (∀ x, a.count x = a0.count x) ∧ Hid (∀ k, n ≤ k → a.getD k 0 = a0.getD k 0) ∧ Hid (Off (fun i => i = b) w wr)) (fun jv _ => n - (intOf jv).toNat)
  case atStart => exact ⟨i0, a0, rfl, hi0, HL0, HH, HD, Lib.hid fun x => rfl, Lib.hid fun k _ => rfl, Lib.hid (Off.refl _ _)⟩
  case round =>
    obtain ⟨i, a, rfl, hin, HL, HP, HDa, HC, HK, HO⟩ := hrel
    have cp := HP.out.cell
    have MLH := Lib.hid (show ∀ d, (Go.method 403 193 (.pointer (some ⟨p, 0, none⟩)) "Less").run Tryz.prog (wr.drewN d) = .ok (243, .slice (some ⟨b, 0, none⟩) N c) (wr.drewN d) from fun d => methLess (w := wr.drewN d) cp)
    have ml0 := methLess cp
    have MSH := Lib.hid (show ∀ d, (Go.method 403 193 (.pointer (some ⟨p, 0, none⟩)) "Swap").run Tryz.prog (wr.drewN d) = .ok (244, .slice (some ⟨b, 0, none⟩) N c) (wr.drewN d) from fun d => methSwap (w := wr.drewN d) cp)
    obtain ⟨m, hmm⟩ : ∃ m, m = 2 * i + 1 := ⟨_, rfl⟩
    obtain ⟨r, hrr⟩ : ∃ r, r = m + 1 := ⟨_, rfl⟩
    have hm : 2 * (i : Int) + 1 = (m : Int) := by omega
    have hr : (m : Int) + 1 = (r : Int) := by omega
    have hmi : i < m := by omega
    have hcell := HP.out.cells HL.out
    have HMM := Lib.hid hmm
    have HRR := Lib.hid hrr
    by_cases hnm : n ≤ m
    · have HE := Lib.hid (down_end HDa.out (.inl (by omega)))
      clear hmm hrr hcell ml0
      go_wp2_with fail
      go_ret
      exact ⟨_, a, rfl, HP.out, HE.out, HL.out, HC.out, HK.out, HO.out⟩
    · have LC : ∀ x y d, x < N → y < N → Calls Tryz.prog 243 #[.slice (some ⟨b, 0, none⟩) N c, .int .i64 (x : Nat), .int .i64 (y : Nat)] (wr.drewN d) fun e w' => e = .returned (.bool (decide (a.getD x 0 < a.getD y 0))) ∧ ∃ d, w' = wr.drewN d := fun x y d hx hy => by
        refine (less_any a b N c x y (wr.drewN d) HL.out.symm hNc hcm hx hy (hcell x hx).1 (hcell y hy).1).mono ?_
        rintro e w' ⟨rfl, q, rfl⟩
        exact ⟨rfl, d + q, by simp [World.drewN, Nat.add_assoc]⟩
      have SC : ∀ k, k < n → ∀ d, Calls Tryz.prog 244 #[.slice (some ⟨b, 0, none⟩) N c, .int .i64 (i : Nat), .int .i64 (k : Nat)] (wr.drewN d) fun e w' => e = .returned (.tuple #[]) ∧ Hp p B w' (.slice (some ⟨b, 0, none⟩) N c) (swapL a i k) ∧ Off (fun i => i = b) wr w' := fun k hk d => by
        refine (swap_any a b N c i k (wr.drewN d) HL.out.symm hNc hcm (by omega) (by omega) (hcell i (by omega)).1 (hcell k (by omega)).1 (hcell i (by omega)).2 (hcell k (by omega)).2).mono ?_
        rintro e w' ⟨rfl, q, rfl⟩
        have hp' := HP.out.drewN (d := d)
        rw [← HL.out] at hp'
        have hsw := hp'.swap (i := i) (j := k) (by rw [HL.out]; omega) (by rw [HL.out]; omega)
        rw [swapL_len, HL.out] at hsw
        exact ⟨rfl, hsw.1.drewN, (Off.drewN (Off.refl _ _)).trans hsw.2.drewN⟩
      by_cases h2 : r < n
      · by_cases hl2 : a.getD r 0 < a.getD m 0
        · have hch : child a n i = r := by rw [child_eq hmm, ← hrr, if_pos ⟨h2, hl2⟩]
          have LF := LC r m 0 (by omega) (by omega)
          rw [decide_eq_true hl2] at LF
          have HLF := Lib.hid LF
          clear LF hl2
          by_cases hlt : a.getD r 0 < a.getD i 0
          · have LK := fun d => LC r i d (by omega) (by omega)
            rw [decide_eq_true hlt] at LK
            have HLK := Lib.hid LK
            have HSC := Lib.hid (SC r (by omega))
            have HS := Lib.hid (by have := down_step (by rw [HL.out]; omega) HDa.out (by omega) (by rw [hch]; exact hlt); rw [hch] at this; exact this : HeapD (swapL a i r) n r)
            have HCT := Lib.hid (fun x => swapL_count (a := a) (i := i) (j := r) (by rw [HL.out]; omega) (by rw [HL.out]; omega) x)
            have HKT := Lib.hid (fun q (hq : n ≤ q) => by rw [swapL_get (by rw [HL.out]; omega) (by rw [HL.out]; omega), if_neg (by omega), if_neg (by omega)] : ∀ q, n ≤ q → (swapL a i r).getD q 0 = a.getD q 0)
            clear LK hlt hch hmm hrr LC SC hcell
            go_wp2_with fail
            refine HLF.out.mono ?_
            rintro e w1 ⟨rfl, d, rfl⟩
            have mld := MLH.out d
            go_wp2_with fail
            refine (HLK.out d).mono ?_
            rintro e w2 ⟨rfl, d2, rfl⟩
            have msd := MSH.out d2
            go_wp2_with fail
            refine (HSC.out d2).mono ?_
            rintro e w3 ⟨rfl, hp2, ho2⟩
            have HP2 := Lib.hid hp2
            have HO2 := Lib.hid ho2
            clear hp2 ho2
            go_wp2_with fail
            exact ⟨⟨r, swapL a i r, rfl, by omega, Lib.hid (by rw [swapL_len]; exact HL.out), HP2, HS, Lib.hid (fun x => (HCT.out x).trans (HC.out x)), Lib.hid (fun q hq => (HKT.out q hq).trans (HK.out q hq)), Lib.hid (HO.out.trans HO2.out)⟩, by simp [intOf]; omega⟩
          · have LK := fun d => LC r i d (by omega) (by omega)
            rw [decide_eq_false hlt] at LK
            have HLK := Lib.hid LK
            have HE := Lib.hid (down_end HDa.out (.inr (by rw [hch]; exact hlt)))
            clear LK hlt hch hmm hrr LC SC hcell
            go_wp2_with fail
            refine HLF.out.mono ?_
            rintro e w1 ⟨rfl, d, rfl⟩
            have mld := MLH.out d
            go_wp2_with fail
            refine (HLK.out d).mono ?_
            rintro e w2 ⟨rfl, d2, rfl⟩
            go_wp2_with fail
            go_ret
            exact ⟨_, a, rfl, HP.out.drewN, HE.out, HL.out, HC.out, HK.out, HO.out.drewN⟩
        · have hch : child a n i = m := by rw [child_eq hmm, ← hrr, if_neg (fun e => hl2 e.2)]
          have LF := LC r m 0 (by omega) (by omega)
          rw [decide_eq_false hl2] at LF
          have HLF := Lib.hid LF
          clear LF hl2
          by_cases hlt : a.getD m 0 < a.getD i 0
          · have LK := fun d => LC m i d (by omega) (by omega)
            rw [decide_eq_true hlt] at LK
            have HLK := Lib.hid LK
            have HSC := Lib.hid (SC m (by omega))
            have HS := Lib.hid (by have := down_step (by rw [HL.out]; omega) HDa.out (by omega) (by rw [hch]; exact hlt); rw [hch] at this; exact this : HeapD (swapL a i m) n m)
            have HCT := Lib.hid (fun x => swapL_count (a := a) (i := i) (j := m) (by rw [HL.out]; omega) (by rw [HL.out]; omega) x)
            have HKT := Lib.hid (fun q (hq : n ≤ q) => by rw [swapL_get (by rw [HL.out]; omega) (by rw [HL.out]; omega), if_neg (by omega), if_neg (by omega)] : ∀ q, n ≤ q → (swapL a i m).getD q 0 = a.getD q 0)
            clear LK hlt hch hmm hrr LC SC hcell
            go_wp2_with fail
            refine HLF.out.mono ?_
            rintro e w1 ⟨rfl, d, rfl⟩
            have mld := MLH.out d
            go_wp2_with fail
            refine (HLK.out d).mono ?_
            rintro e w2 ⟨rfl, d2, rfl⟩
            have msd := MSH.out d2
            go_wp2_with fail
            refine (HSC.out d2).mono ?_
            rintro e w3 ⟨rfl, hp2, ho2⟩
            have HP2 := Lib.hid hp2
            have HO2 := Lib.hid ho2
            clear hp2 ho2
            go_wp2_with fail
            exact ⟨⟨m, swapL a i m, rfl, by omega, Lib.hid (by rw [swapL_len]; exact HL.out), HP2, HS, Lib.hid (fun x => (HCT.out x).trans (HC.out x)), Lib.hid (fun q hq => (HKT.out q hq).trans (HK.out q hq)), Lib.hid (HO.out.trans HO2.out)⟩, by simp [intOf]; omega⟩
          · have LK := fun d => LC m i d (by omega) (by omega)
            rw [decide_eq_false hlt] at LK
            have HLK := Lib.hid LK
            have HE := Lib.hid (down_end HDa.out (.inr (by rw [hch]; exact hlt)))
            clear LK hlt hch hmm hrr LC SC hcell
            go_wp2_with fail
            refine HLF.out.mono ?_
            rintro e w1 ⟨rfl, d, rfl⟩
            have mld := MLH.out d
            go_wp2_with fail
            refine (HLK.out d).mono ?_
            rintro e w2 ⟨rfl, d2, rfl⟩
            go_wp2_with fail
            go_ret
            exact ⟨_, a, rfl, HP.out.drewN, HE.out, HL.out, HC.out, HK.out, HO.out.drewN⟩
      · have hch : child a n i = m := by rw [child_eq hmm, ← hrr, if_neg (fun e => h2 e.1)]
        by_cases hlt : a.getD m 0 < a.getD i 0
        · have LK := fun d => LC m i d (by omega) (by omega)
          rw [decide_eq_true hlt] at LK
          have HLK := Lib.hid LK
          have HSC := Lib.hid (SC m (by omega))
          have HS := Lib.hid (by have := down_step (by rw [HL.out]; omega) HDa.out (by omega) (by rw [hch]; exact hlt); rw [hch] at this; exact this : HeapD (swapL a i m) n m)
          have HCT := Lib.hid (fun x => swapL_count (a := a) (i := i) (j := m) (by rw [HL.out]; omega) (by rw [HL.out]; omega) x)
          have HKT := Lib.hid (fun q (hq : n ≤ q) => by rw [swapL_get (by rw [HL.out]; omega) (by rw [HL.out]; omega), if_neg (by omega), if_neg (by omega)] : ∀ q, n ≤ q → (swapL a i m).getD q 0 = a.getD q 0)
          clear LK hlt hch hmm hrr LC SC hcell
          go_wp2_with fail
          refine (HLK.out 0).mono ?_
          rintro e w2 ⟨rfl, d2, rfl⟩
          have msd := MSH.out d2
          go_wp2_with fail
          refine (HSC.out d2).mono ?_
          rintro e w3 ⟨rfl, hp2, ho2⟩
          have HP2 := Lib.hid hp2
          have HO2 := Lib.hid ho2
          clear hp2 ho2
          go_wp2_with fail
          exact ⟨⟨m, swapL a i m, rfl, by omega, Lib.hid (by rw [swapL_len]; exact HL.out), HP2, HS, Lib.hid (fun x => (HCT.out x).trans (HC.out x)), Lib.hid (fun q hq => (HKT.out q hq).trans (HK.out q hq)), Lib.hid (HO.out.trans HO2.out)⟩, by simp [intOf]; omega⟩
        · have LK := fun d => LC m i d (by omega) (by omega)
          rw [decide_eq_false hlt] at LK
          have HLK := Lib.hid LK
          have HE := Lib.hid (down_end HDa.out (.inr (by rw [hch]; exact hlt)))
          clear LK hlt hch hmm hrr LC SC hcell
          go_wp2_with fail
          refine (HLK.out 0).mono ?_
          rintro e w2 ⟨rfl, d2, rfl⟩
          go_wp2_with fail
          go_ret
          exact ⟨_, a, rfl, HP.out.drewN, HE.out, HL.out, HC.out, HK.out, HO.out.drewN⟩
end Go.Proofs.YtojnagonhihknaaGreatDoor
set_option linter.unusedVariables false
namespace Go.Proofs.YtojnagonhihknaaGreatDoor
open Go.ChangeShapes Go.WideShapes Go.ChangeAt Go.RowKit

def PushP (p B : Nat) (v : Value) (a : List Int) (x : Int) (w : World) (e : Ending) (w' : World) : Prop :=
  e = .returned (.tuple #[]) ∧ ∃ v' a', Hp p B w' v' a' ∧ Heap a' a'.length ∧ a'.length = a.length + 1 ∧ (∀ y, a'.count y = a.count y + if x = y then 1 else 0) ∧ Off (fun i => i = p ∨ v.ownBlock = some i) w w' ∧ (v'.ownBlock = v.ownBlock ∨ ∃ k, v'.ownBlock = some k ∧ w.heap.size ≤ k)
def PopP (p B : Nat) (v : Value) (a : List Int) (w : World) (e : Ending) (w' : World) : Prop :=
  e = .returned (.iface 3 (.int .i64 (a.getD 0 0))) ∧ ∃ v' a', Hp p B w' v' a' ∧ Heap a' a'.length ∧ a'.length + 1 = a.length ∧ (∀ y, a'.count y + (if a.getD 0 0 = y then 1 else 0) = a.count y) ∧ Off (fun i => i = p ∨ v.ownBlock = some i) w w' ∧ v'.ownBlock = v.ownBlock

set_option maxHeartbeats 400000 in
set_option maxRecDepth 100000 in
theorem hpush_any (a : List Int) (p B : Nat) (x : Int) (v : Value) (w : World) (h : Hp p B w v a) (hh : Heap a a.length) (hB : B ≤ w.heap.size) (hl : a.length < 1000000000) :
    Calls Tryz.prog 110 #[hpI p, .iface 3 (.int .i64 x)] w (PushP p B v a x w) := by
  obtain ⟨ad, c, rfl⟩ := h.row.form
  obtain ⟨n, hn⟩ : ∃ n, n = a.length := ⟨_, rfl⟩
  have hrow := h.row
  have hcell := h.cell
  rw [← hn] at hrow hcell hl ⊢
  have HB := Lib.hid (push_begin (x := x) hh)
  have HN := Lib.hid hn
  have mp := methPush ⟨p, 0, none⟩ w
  have RC := Lib.hid (rpush_any a p B n c ad x w (by omega) hcell h.fro hrow h.lt hB)
  have HLT := Lib.hid h.lt
  have hcell1 := Lib.hid hcell
  have hpl := h.box
  have hfz := Lib.hid h.fro
  have hnz : Hid (¬ (Value.slice ad n c).ownBlock = some p) := Lib.hid fun e => by have := (hrow.lt p e).1; have := h.lt; omega
  clear h hh hrow hcell hn
  go_enter Tryz.func110, Tryz.ntmps110
  go_wp2_with fail
  refine RC.out.mono ?_
  rintro e w' ⟨rfl, v', w1, d, rfl, hr1, ho1, hw1⟩
  obtain ⟨a1, c1, rfl⟩ := hr1.form
  have k1 : w1.cell? ⟨p, 0, none⟩ = some (.slice ad n c) := (ho1.cell (p := ⟨p, 0, none⟩) hpl hnz.out).trans hcell1.out
  have k2 : w1.frozen? ⟨p, 0, none⟩ = false := (ho1.frozen (p := ⟨p, 0, none⟩) hpl hnz.out).trans hfz.out
  have hp2 : Hp p B ((w1.setCell ⟨p, 0, none⟩ (.slice a1 (n + 1) c1)).drewN d) (.slice a1 (n + 1) c1) (a ++ [x]) := by
    refine (Hp.store k1 k2 HLT.out ?_).drewN
    rw [List.length_append, ← HN.out]
    have : iv (a ++ [x]) = iv a ++ [.int .i64 x] := by simp [iv]
    rw [this]
    exact hr1
  have ho2 : Off (fun i => i = p ∨ (Value.slice ad n c).ownBlock = some i) w ((w1.setCell ⟨p, 0, none⟩ (.slice a1 (n + 1) c1)).drewN d) := ((ho1.mono fun i hi => .inr hi).setCell (p := ⟨p, 0, none⟩) (.inr (.inl rfl)) _).drewN
  obtain ⟨wx, hwx⟩ : ∃ wx, wx = (w1.setCell ⟨p, 0, none⟩ (.slice a1 (n + 1) c1)).drewN d := ⟨_, rfl⟩
  rw [← hwx] at hp2 ho2 ⊢
  have ml := methLen hp2.cell
  have LE := Lib.hid (len_any a1 (n + 1) c1 wx)
  have hle : (a ++ [x]).length = n + 1 := by rw [List.length_append, List.length_singleton, ← HN.out]
  have UP := up_any (a ++ [x]) p B n wx _ hp2 (by rw [hle, HN.out]; exact HB.out) (by rw [hle]; omega) (by rw [hle]; omega)
  rw [hle] at UP
  clear hle
  have HUP := Lib.hid UP
  have HO2 := Lib.hid ho2
  have HW1 := Lib.hid hw1
  clear hr1 ho1 hw1 k1 k2 hp2 ho2 hwx UP
  go_wp2_with fail
  refine LE.out.mono ?_
  rintro e w3 ⟨rfl, rfl⟩
  go_wp2_with fail
  refine HUP.out.mono ?_
  rintro e w4 ⟨rfl, a', hp4, hh4, hl4, hc4, ho4⟩
  go_wp2_with fail
  go_end0
  refine ⟨rfl, _, a', hp4, hh4, by rw [hl4, ← HN.out], fun y => ?_, ?_, HW1.out⟩
  · rw [hc4, List.count_append, List.count_singleton]
    by_cases e : x = y <;> simp [e]
  · refine HO2.out.trans' ho4 (fun i hi hi2 => .inr ?_)
    rcases HW1.out with h | ⟨k, h, hk⟩
    · rw [← h]; exact hi2
    · rw [h] at hi2; injection hi2 with hi2; omega

set_option maxHeartbeats 400000 in
set_option maxRecDepth 100000 in
theorem hpop_any (a : List Int) (p B : Nat) (v : Value) (w : World) (h : Hp p B w v a) (hh : Heap a a.length) (h0 : 0 < a.length) (hl : a.length ≤ 1000000000) :
    Calls Tryz.prog 109 #[hpI p] w (PopP p B v a w) := by
  obtain ⟨b, c, rfl, hB, hbl, hnc, hcm, hcell⟩ := h.at h0
  obtain ⟨m, hm⟩ : ∃ m, a.length = m + 1 := ⟨a.length - 1, by omega⟩
  rw [hm] at h hh h0 hl hnc hcell ⊢
  have ml := methLen h.cell
  have LE := Lib.hid (len_any (some ⟨b, 0, none⟩) (m + 1) c w)
  have mS := methSwap h.cell
  have hp' := h
  rw [← hm] at hp'
  have hsw := hp'.swap (i := 0) (j := m) (by omega) (by omega)
  rw [swapL_len, hm] at hsw
  have SW : Calls Tryz.prog 244 #[.slice (some ⟨b, 0, none⟩) (m + 1) c, .int .i64 0, .int .i64 (m : Nat)] w fun e w' => e = .returned (.tuple #[]) ∧ Hp p B w' (.slice (some ⟨b, 0, none⟩) (m + 1) c) (swapL a 0 m) ∧ Off (fun i => i = b) w w' := by
    refine (swap_any a b (m + 1) c 0 m w hm.symm hnc hcm (by omega) (by omega) (hcell 0 (by omega)).1 (hcell m (by omega)).1 (hcell 0 (by omega)).2 (hcell m (by omega)).2).mono ?_
    rintro e w' ⟨rfl, q, rfl⟩
    exact ⟨rfl, hsw.1.drewN, hsw.2.drewN⟩
  have HSW := Lib.hid SW
  have HBG := Lib.hid (pop_begin (a := a) (n := m) (by omega) hh)
  have HLA := Lib.hid (pop_last (a := a) (n := m) (by omega))
  have HM := Lib.hid hm
  have HLS := Lib.hid ((swapL_len a 0 m).trans hm)
  have HCS := Lib.hid (fun x => swapL_count (a := a) (i := 0) (j := m) (by omega) (by omega) x)
  clear hp' hsw SW hcell h hh hm
  go_enter Tryz.func109, Tryz.ntmps109
  go_wp2_with fail
  refine LE.out.mono ?_
  rintro e w1 ⟨rfl, rfl⟩
  go_wp2_with fail
  refine HSW.out.mono ?_
  rintro e w2 ⟨rfl, hp2, ho2⟩
  have DW := Lib.hid (down_any (swapL a 0 m) p B b (m + 1) c m 0 w2 hp2 HBG.out HLS.out (by omega) (by omega) hnc hcm hl)
  have HO2 := Lib.hid ho2
  clear hp2 ho2
  go_wp2_with fail
  refine DW.out.mono ?_
  rintro e w3 ⟨bl, a3, rfl, hp3, hh3, hl3, hc3, hk3, ho3⟩
  have mp := methPop ⟨p, 0, none⟩ w3
  have hlast : a3.getD m 0 = a.getD 0 0 := (hk3 m (Nat.le_refl _)).trans HLA.out
  obtain ⟨he, hcc⟩ := pop_end hl3 hh3 (fun x => (hc3 x).trans (HCS.out x)) hlast
  have RP := rpop_any a3 p b m c w3 hnc hcm hp3.cell hp3.fro (hp3.cells hl3 m (by omega)).1
  rw [hlast] at RP
  have hp4 : ∀ d, Hp p B ((w3.setCell ⟨p, 0, none⟩ (.slice (some ⟨b, 0, none⟩) m c)).drewN d) (.slice (some ⟨b, 0, none⟩) m c) (a3.take m) := fun d => by
    refine (Hp.store hp3.cell hp3.fro hp3.lt ?_).drewN
    rw [List.length_take, hl3, Nat.min_eq_left (by omega), ← iv_take]
    have := hp3.row
    rw [hl3] at this
    exact this.front (by omega)
  have ho4 : ∀ d, Off (fun i => i = p ∨ (Value.slice (some ⟨b, 0, none⟩) (m + 1) c).ownBlock = some i) w1 ((w3.setCell ⟨p, 0, none⟩ (.slice (some ⟨b, 0, none⟩) m c)).drewN d) := fun d =>
    ((((HO2.out.trans ho3).mono fun i hi => .inr (by rw [hi]; rfl))).setCell (p := ⟨p, 0, none⟩) (.inr (.inl rfl)) _).drewN
  have HRP := Lib.hid RP
  have HP4 := Lib.hid hp4
  have HO4 := Lib.hid ho4
  have HE := Lib.hid he
  have HCC := Lib.hid hcc
  have HL3 := Lib.hid hl3
  clear RP hp4 ho4 he hcc hp3 hh3 hc3 hk3 ho3 hlast hl3
  go_wp2_with fail
  refine HRP.out.mono ?_
  rintro e w5 ⟨rfl, d, rfl⟩
  go_wp2_with fail
  go_ret
  exact ⟨rfl, _, _, HP4.out d, HE.out, by rw [List.length_take, HL3.out]; have := HM.out; omega, HCC.out, HO4.out d, rfl⟩
end Go.Proofs.YtojnagonhihknaaGreatDoor
