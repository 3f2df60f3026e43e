/- The contract of container/heap's down over ready. -/
import Derived.Test.YtfpepoebammeoaaGreatU12
set_option linter.unusedVariables false
namespace Go.Proofs.YtfpepoebammeoaaGreat
open Go.ChangeShapes Go.WideShapes Go.ChangeAt Go.RowKit

def DownP (p B b N c n : Nat) (a0 : List Int) (w : World) (e : Ending) (w' : World) : Prop :=
  ∃ bl a', e = .returned (.bool bl) ∧ Hp p B w' (.slice (some ⟨b, 0, none⟩) N c) a' ∧ Heap a' n ∧ a'.length = N ∧ (∀ x, a'.count x = a0.count x) ∧ (∀ k, n ≤ k → a'.getD k 0 = a0.getD k 0) ∧ Off (fun i => i = b) w w'
theorem child_eq {a : List Int} {n i m : Nat} (hm : m = 2 * i + 1) : child a n i = if m + 1 < n ∧ a.getD (m + 1) 0 < a.getD m 0 then m + 1 else m := by
  subst hm
  unfold child
  rw [show 2 * i + 1 + 1 = 2 * i + 2 by omega]

set_option maxHeartbeats 1000000 in
set_option maxRecDepth 100000 in
theorem down_any (a0 : List Int) (p B b N c n i0 : Nat) (w : World) (h : Hp p B w (.slice (some ⟨b, 0, none⟩) N c) a0) (hD : HeapD a0 n i0) (hL : a0.length = N) (hnN : n ≤ N) (hi0 : i0 ≤ n) (hNc : N ≤ c) (hcm : c ≤ maxLen) (hl : N ≤ 1000000000) :
    Calls Tryz.prog 103 #[hpI p, .int .i64 (i0 : Nat), .int .i64 (n : Nat)] w (DownP p B b N c n a0 w) := by
  have HH := Lib.hid h
  have HD := Lib.hid hD
  have HL0 := Lib.hid hL
  clear h hD hL
  go_enter Tryz.func103, Tryz.ntmps103
  go_wp2_with fail
  go_loopw [7] (fun jv wr => ∃ (i : Nat) (a : List Int), jv = .int .i64 (i : Nat) ∧ i ≤ n ∧ Hid (a.length = N) ∧ Hid (Hp p B wr (.slice (some ⟨b, 0, none⟩) N c) a) ∧ Hid (HeapD a n i) ∧ Hid (∀ x, a.count x = a0.count x) ∧ Hid (∀ k, n ≤ k → a.getD k 0 = a0.getD k 0) ∧ Hid (Off (fun i => i = b) w wr)) (fun jv _ => n - (intOf jv).toNat)
  case atStart => exact ⟨i0, a0, rfl, hi0, HL0, HH, HD, Lib.hid fun x => rfl, Lib.hid fun k _ => rfl, Lib.hid (Off.refl _ _)⟩
  case round =>
    obtain ⟨i, a, rfl, hin, HL, HP, HDa, HC, HK, HO⟩ := hrel
    have cp := HP.out.cell
    have MLH := Lib.hid (show ∀ d, (Go.method 277 103 (.pointer (some ⟨p, 0, none⟩)) "Less").run Tryz.prog (wr.drewN d) = .ok (138, .slice (some ⟨b, 0, none⟩) N c) (wr.drewN d) from fun d => methLess (w := wr.drewN d) cp)
    have ml0 := methLess cp
    have MSH := Lib.hid (show ∀ d, (Go.method 277 103 (.pointer (some ⟨p, 0, none⟩)) "Swap").run Tryz.prog (wr.drewN d) = .ok (140, .slice (some ⟨b, 0, none⟩) N c) (wr.drewN d) from fun d => methSwap (w := wr.drewN d) cp)
    obtain ⟨m, hmm⟩ : ∃ m, m = 2 * i + 1 := ⟨_, rfl⟩
    obtain ⟨r, hrr⟩ : ∃ r, r = m + 1 := ⟨_, rfl⟩
    have hm : 2 * (i : Int) + 1 = (m : Int) := by omega
    have hr : (m : Int) + 1 = (r : Int) := by omega
    have hmi : i < m := by omega
    have hcell := HP.out.cells HL.out
    have HMM := Lib.hid hmm
    have HRR := Lib.hid hrr
    by_cases hnm : n ≤ m
    · have HE := Lib.hid (down_end HDa.out (.inl (by omega)))
      clear hmm hrr hcell ml0
      go_wp2_with fail
      go_ret
      exact ⟨_, a, rfl, HP.out, HE.out, HL.out, HC.out, HK.out, HO.out⟩
    · have LC : ∀ x y d, x < N → y < N → Calls Tryz.prog 138 #[.slice (some ⟨b, 0, none⟩) N c, .int .i64 (x : Nat), .int .i64 (y : Nat)] (wr.drewN d) fun e w' => e = .returned (.bool (decide (a.getD x 0 < a.getD y 0))) ∧ ∃ d, w' = wr.drewN d := fun x y d hx hy => by
        refine (less_any a b N c x y (wr.drewN d) HL.out.symm hNc hcm hx hy (hcell x hx).1 (hcell y hy).1).mono ?_
        rintro e w' ⟨rfl, q, rfl⟩
        exact ⟨rfl, d + q, by simp [World.drewN, Nat.add_assoc]⟩
      have SC : ∀ k, k < n → ∀ d, Calls Tryz.prog 140 #[.slice (some ⟨b, 0, none⟩) N c, .int .i64 (i : Nat), .int .i64 (k : Nat)] (wr.drewN d) fun e w' => e = .returned (.tuple #[]) ∧ Hp p B w' (.slice (some ⟨b, 0, none⟩) N c) (swapL a i k) ∧ Off (fun i => i = b) wr w' := fun k hk d => by
        refine (swap_any a b N c i k (wr.drewN d) HL.out.symm hNc hcm (by omega) (by omega) (hcell i (by omega)).1 (hcell k (by omega)).1 (hcell i (by omega)).2 (hcell k (by omega)).2).mono ?_
        rintro e w' ⟨rfl, q, rfl⟩
        have hp' := HP.out.drewN (d := d)
        rw [← HL.out] at hp'
        have hsw := hp'.swap (i := i) (j := k) (by rw [HL.out]; omega) (by rw [HL.out]; omega)
        rw [swapL_len, HL.out] at hsw
        exact ⟨rfl, hsw.1.drewN, (Off.drewN (Off.refl _ _)).trans hsw.2.drewN⟩
      by_cases h2 : r < n
      · by_cases hl2 : a.getD r 0 < a.getD m 0
        · have hch : child a n i = r := by rw [child_eq hmm, ← hrr, if_pos ⟨h2, hl2⟩]
          have LF := LC r m 0 (by omega) (by omega)
          rw [decide_eq_true hl2] at LF
          have HLF := Lib.hid LF
          clear LF hl2
          by_cases hlt : a.getD r 0 < a.getD i 0
          · have LK := fun d => LC r i d (by omega) (by omega)
            rw [decide_eq_true hlt] at LK
            have HLK := Lib.hid LK
            have HSC := Lib.hid (SC r (by omega))
            have HS := Lib.hid (by have := down_step (by rw [HL.out]; omega) HDa.out (by omega) (by rw [hch]; exact hlt); rw [hch] at this; exact this : HeapD (swapL a i r) n r)
            have HCT := Lib.hid (fun x => swapL_count (a := a) (i := i) (j := r) (by rw [HL.out]; omega) (by rw [HL.out]; omega) x)
            have HKT := Lib.hid (fun q (hq : n ≤ q) => by rw [swapL_get (by rw [HL.out]; omega) (by rw [HL.out]; omega), if_neg (by omega), if_neg (by omega)] : ∀ q, n ≤ q → (swapL a i r).getD q 0 = a.getD q 0)
            clear LK hlt hch hmm hrr LC SC hcell
            go_wp2_with fail
            refine HLF.out.mono ?_
            rintro e w1 ⟨rfl, d, rfl⟩
            have mld := MLH.out d
            go_wp2_with fail
            refine (HLK.out d).mono ?_
            rintro e w2 ⟨rfl, d2, rfl⟩
            have msd := MSH.out d2
            go_wp2_with fail
            refine (HSC.out d2).mono ?_
            rintro e w3 ⟨rfl, hp2, ho2⟩
            have HP2 := Lib.hid hp2
            have HO2 := Lib.hid ho2
            clear hp2 ho2
            go_wp2_with fail
            exact ⟨⟨r, swapL a i r, rfl, by omega, Lib.hid (by rw [swapL_len]; exact HL.out), HP2, HS, Lib.hid (fun x => (HCT.out x).trans (HC.out x)), Lib.hid (fun q hq => (HKT.out q hq).trans (HK.out q hq)), Lib.hid (HO.out.trans HO2.out)⟩, by simp [intOf]; omega⟩
          · have LK := fun d => LC r i d (by omega) (by omega)
            rw [decide_eq_false hlt] at LK
            have HLK := Lib.hid LK
            have HE := Lib.hid (down_end HDa.out (.inr (by rw [hch]; exact hlt)))
            clear LK hlt hch hmm hrr LC SC hcell
            go_wp2_with fail
            refine HLF.out.mono ?_
            rintro e w1 ⟨rfl, d, rfl⟩
            have mld := MLH.out d
            go_wp2_with fail
            refine (HLK.out d).mono ?_
            rintro e w2 ⟨rfl, d2, rfl⟩
            go_wp2_with fail
            go_ret
            exact ⟨_, a, rfl, HP.out.drewN, HE.out, HL.out, HC.out, HK.out, HO.out.drewN⟩
        · have hch : child a n i = m := by rw [child_eq hmm, ← hrr, if_neg (fun e => hl2 e.2)]
          have LF := LC r m 0 (by omega) (by omega)
          rw [decide_eq_false hl2] at LF
          have HLF := Lib.hid LF
          clear LF hl2
          by_cases hlt : a.getD m 0 < a.getD i 0
          · have LK := fun d => LC m i d (by omega) (by omega)
            rw [decide_eq_true hlt] at LK
            have HLK := Lib.hid LK
            have HSC := Lib.hid (SC m (by omega))
            have HS := Lib.hid (by have := down_step (by rw [HL.out]; omega) HDa.out (by omega) (by rw [hch]; exact hlt); rw [hch] at this; exact this : HeapD (swapL a i m) n m)
            have HCT := Lib.hid (fun x => swapL_count (a := a) (i := i) (j := m) (by rw [HL.out]; omega) (by rw [HL.out]; omega) x)
            have HKT := Lib.hid (fun q (hq : n ≤ q) => by rw [swapL_get (by rw [HL.out]; omega) (by rw [HL.out]; omega), if_neg (by omega), if_neg (by omega)] : ∀ q, n ≤ q → (swapL a i m).getD q 0 = a.getD q 0)
            clear LK hlt hch hmm hrr LC SC hcell
            go_wp2_with fail
            refine HLF.out.mono ?_
            rintro e w1 ⟨rfl, d, rfl⟩
            have mld := MLH.out d
            go_wp2_with fail
            refine (HLK.out d).mono ?_
            rintro e w2 ⟨rfl, d2, rfl⟩
            have msd := MSH.out d2
            go_wp2_with fail
            refine (HSC.out d2).mono ?_
            rintro e w3 ⟨rfl, hp2, ho2⟩
            have HP2 := Lib.hid hp2
            have HO2 := Lib.hid ho2
            clear hp2 ho2
            go_wp2_with fail
            exact ⟨⟨m, swapL a i m, rfl, by omega, Lib.hid (by rw [swapL_len]; exact HL.out), HP2, HS, Lib.hid (fun x => (HCT.out x).trans (HC.out x)), Lib.hid (fun q hq => (HKT.out q hq).trans (HK.out q hq)), Lib.hid (HO.out.trans HO2.out)⟩, by simp [intOf]; omega⟩
          · have LK := fun d => LC m i d (by omega) (by omega)
            rw [decide_eq_false hlt] at LK
            have HLK := Lib.hid LK
            have HE := Lib.hid (down_end HDa.out (.inr (by rw [hch]; exact hlt)))
            clear LK hlt hch hmm hrr LC SC hcell
            go_wp2_with fail
            refine HLF.out.mono ?_
            rintro e w1 ⟨rfl, d, rfl⟩
            have mld := MLH.out d
            go_wp2_with fail
            refine (HLK.out d).mono ?_
            rintro e w2 ⟨rfl, d2, rfl⟩
            go_wp2_with fail
            go_ret
            exact ⟨_, a, rfl, HP.out.drewN, HE.out, HL.out, HC.out, HK.out, HO.out.drewN⟩
      · have hch : child a n i = m := by rw [child_eq hmm, ← hrr, if_neg (fun e => h2 e.1)]
        by_cases hlt : a.getD m 0 < a.getD i 0
        · have LK := fun d => LC m i d (by omega) (by omega)
          rw [decide_eq_true hlt] at LK
          have HLK := Lib.hid LK
          have HSC := Lib.hid (SC m (by omega))
          have HS := Lib.hid (by have := down_step (by rw [HL.out]; omega) HDa.out (by omega) (by rw [hch]; exact hlt); rw [hch] at this; exact this : HeapD (swapL a i m) n m)
          have HCT := Lib.hid (fun x => swapL_count (a := a) (i := i) (j := m) (by rw [HL.out]; omega) (by rw [HL.out]; omega) x)
          have HKT := Lib.hid (fun q (hq : n ≤ q) => by rw [swapL_get (by rw [HL.out]; omega) (by rw [HL.out]; omega), if_neg (by omega), if_neg (by omega)] : ∀ q, n ≤ q → (swapL a i m).getD q 0 = a.getD q 0)
          clear LK hlt hch hmm hrr LC SC hcell
          go_wp2_with fail
          refine (HLK.out 0).mono ?_
          rintro e w2 ⟨rfl, d2, rfl⟩
          have msd := MSH.out d2
          go_wp2_with fail
          refine (HSC.out d2).mono ?_
          rintro e w3 ⟨rfl, hp2, ho2⟩
          have HP2 := Lib.hid hp2
          have HO2 := Lib.hid ho2
          clear hp2 ho2
          go_wp2_with fail
          exact ⟨⟨m, swapL a i m, rfl, by omega, Lib.hid (by rw [swapL_len]; exact HL.out), HP2, HS, Lib.hid (fun x => (HCT.out x).trans (HC.out x)), Lib.hid (fun q hq => (HKT.out q hq).trans (HK.out q hq)), Lib.hid (HO.out.trans HO2.out)⟩, by simp [intOf]; omega⟩
        · have LK := fun d => LC m i d (by omega) (by omega)
          rw [decide_eq_false hlt] at LK
          have HLK := Lib.hid LK
          have HE := Lib.hid (down_end HDa.out (.inr (by rw [hch]; exact hlt)))
          clear LK hlt hch hmm hrr LC SC hcell
          go_wp2_with fail
          refine (HLK.out 0).mono ?_
          rintro e w2 ⟨rfl, d2, rfl⟩
          go_wp2_with fail
          go_ret
          exact ⟨_, a, rfl, HP.out.drewN, HE.out, HL.out, HC.out, HK.out, HO.out.drewN⟩
end Go.Proofs.YtfpepoebammeoaaGreat
