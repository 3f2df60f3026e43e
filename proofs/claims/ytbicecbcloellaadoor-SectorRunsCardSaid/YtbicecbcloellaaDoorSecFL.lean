/- SectorFuel: its walk. -/
import Derived.Test.YtbicecbcloellaaDoorSecA
import Derived.Test.YtbicecbcloellaaDoorCode
set_option linter.unusedVariables false
set_option linter.unusedSimpArgs false
namespace Go.Proofs.YtbicecbcloellaaDoor
open Go.ChangeShapes Go.WideShapes Go.ChangeAt Go.RowKit

theorem wf12 {n : Int} (h : (Lit.int .i64 n).wf = true) : -9223372036854775808 ≤ n ∧ n ≤ 9223372036854775807 := by
  simp only [Lit.wf, Bool.and_eq_true, decide_eq_true_eq] at h
  exact h
abbrev bX : ByteArray := ⟨#[120]⟩
abbrev bY : ByteArray := ⟨#[121]⟩
/-- What a step does: it is done, or the disk is off. -/
def StepP (D : Dk) (R : Dk × Int) : Prop := (R.2 = 0 ∧ D.off = false ∧ R.1.off = false ∧ R.1.fuel = D.fuel - 1) ∨ (R.2 = 20 ∧ R.1.off = true ∧ (D.off = true ∨ D.fuel = 0))
/-- What holds of the disk all along. -/
def FourP (D : Dk) (j : Nat) : Prop := D.sure.length = 4 ∧ 0 ≤ D.fuel ∧ D.pend.length ≤ j
theorem write_step {D : Dk} {j r : Nat} (h : FourP D j) (hr : r < 4) : StepP D (writeD D (r : Int) bX) ∧ FourP (writeD D (r : Int) bX).1 (j + 1) := by
  obtain ⟨h1, h2, h3⟩ := h
  unfold writeD
  by_cases ho : D.off = true
  · rw [if_pos ho]
    exact ⟨.inr ⟨rfl, ho, .inl ho⟩, h1, h2, Nat.le_succ_of_le h3⟩
  · rw [if_neg ho, if_neg (by rw [h1]; show ¬ ((r : Int) < 0 ∨ ((4 : Nat) : Int) ≤ r ∨ 512 < 1); omega)]
    by_cases hf : D.fuel = 0
    · rw [if_pos hf]
      exact ⟨.inr ⟨rfl, rfl, .inr hf⟩, h1, h2, by show D.pend.length ≤ _; omega⟩
    · rw [if_neg hf]
      have hs : stepF D.fuel = D.fuel - 1 := by unfold stepF; rw [if_pos (by omega)]
      refine ⟨.inl ⟨rfl, by simpa using ho, by simpa using ho, hs⟩, h1, ?_, ?_⟩
      · show 0 ≤ stepF D.fuel; omega
      · show (D.pend ++ _).length ≤ _; simp; omega
theorem flush_step {D : Dk} {j : Nat} (h : FourP D j) : StepP D (flushD D) ∧ FourP (flushD D).1 j := by
  obtain ⟨h1, h2, h3⟩ := h
  unfold flushD
  by_cases ho : D.off = true
  · rw [if_pos ho]
    exact ⟨.inr ⟨rfl, ho, .inl ho⟩, h1, h2, h3⟩
  · rw [if_neg ho]
    by_cases hf : D.fuel = 0
    · rw [if_pos hf]
      exact ⟨.inr ⟨rfl, rfl, .inr hf⟩, h1, h2, by show D.pend.length ≤ _; omega⟩
    · rw [if_neg hf]
      have hs : stepF D.fuel = D.fuel - 1 := by unfold stepF; rw [if_pos (by omega)]
      refine ⟨.inl ⟨rfl, by simpa using ho, by simpa using ho, hs⟩, ?_, ?_, ?_⟩
      · show D.shown.length = 4; rw [D.shown_len]; exact h1
      · show 0 ≤ stepF D.fuel; omega
      · show ([] : Pnd).length ≤ _; simp
/-- How it stands after i tries. -/
def TriesP (n i done : Nat) (D : Dk) : Prop := FourP D i ∧ done ≤ n ∧ ((D.off = false ∧ D.fuel + i + (i / 3 : Nat) = n ∧ done ≤ i) ∨ (D.off = true ∧ n < i + i / 3))
/-- A try of one step. -/
theorem tries_one {n i done : Nat} {D : Dk} {R : Dk × Int} (h : TriesP n i done D) (hs : StepP D R) (hf : FourP R.1 (i + 1)) (h3 : i % 3 ≠ 2) : (R.2 = 0 ∧ TriesP n (i + 1) (done + 1) R.1) ∨ (R.2 = 20 ∧ R.1.off = true ∧ TriesP n (i + 1) done R.1) := by
  obtain ⟨a, b, c⟩ := h
  have hd : (i + 1) / 3 = i / 3 := by omega
  rcases hs with ⟨h1, h2, h4, h5⟩ | ⟨h1, h2, h4⟩
  · left
    rcases c with ⟨c1, c2, c3⟩ | ⟨c1, _⟩
    · have := hf.2.1
      refine ⟨h1, hf, by omega, .inl ⟨h4, by rw [hd]; omega, by omega⟩⟩
    · rw [h2] at c1; cases c1
  · right
    refine ⟨h1, h2, hf, b, .inr ⟨h2, ?_⟩⟩
    rw [hd]
    rcases c with ⟨c1, c2, c3⟩ | ⟨_, c2⟩
    · rcases h4 with h4 | h4
      · rw [c1] at h4; cases h4
      · omega
    · omega
/-- A try of two steps. -/
theorem tries_two {n i done : Nat} {D : Dk} {R R2 : Dk × Int} (h : TriesP n i done D) (hs : StepP D R) (hf : FourP R.1 (i + 1)) (hs2 : StepP R.1 R2) (hf2 : FourP R2.1 (i + 1)) (h3 : i % 3 = 2) : (R2.2 = 0 ∧ TriesP n (i + 1) (done + 1) R2.1) ∨ (R2.2 = 20 ∧ R2.1.off = true ∧ TriesP n (i + 1) done R2.1) := by
  obtain ⟨a, b, c⟩ := h
  have hd : (i + 1) / 3 = i / 3 + 1 := by omega
  have f1 := hf.2.1
  have f2 := hf2.2.1
  rcases hs2 with ⟨h1, h2, h4, h5⟩ | ⟨h1, h2, h4⟩
  · left
    rcases hs with ⟨g1, g2, g4, g5⟩ | ⟨g1, g2, g4⟩
    · rcases c with ⟨c1, c2, c3⟩ | ⟨c1, _⟩
      · refine ⟨h1, hf2, by omega, .inl ⟨h4, by rw [hd]; omega, by omega⟩⟩
      · rw [g2] at c1; cases c1
    · rw [h2] at g2; cases g2
  · right
    refine ⟨h1, h2, hf2, b, .inr ⟨h2, ?_⟩⟩
    rw [hd]
    rcases c with ⟨c1, c2, c3⟩ | ⟨_, c2⟩
    · rcases hs with ⟨g1, g2, g4, g5⟩ | ⟨g1, g2, g4⟩
      · rcases h4 with h4 | h4
        · rw [g4] at h4; cases h4
        · omega
      · rcases g4 with g4 | g4
        · rw [c1] at g4; cases g4
        · omega
    · omega
theorem errS_20 : errS 20 = .iface 53 (.int .i64 20) := rfl
set_option maxHeartbeats 2000000 in
set_option maxRecDepth 100000 in
theorem sfuel_law (n t : Int) (w : World) (hE : HasErr w) (hn1 : -9223372036854775808 ≤ n) (hn2 : n ≤ 9223372036854775807) (ht1 : -9223372036854775808 ≤ t) (ht2 : t ≤ 9223372036854775807) :
    Calls Tryd.prog 4 #[.int .i64 n, .int .i64 t] w fun e w' => e = .returned (.bool true) ∧ Below w.heap.size w w' := by
  have AW := Lib.hid (sawake_any w)
  have HE := Lib.hid hE
  clear hE
  go_enter Tryd.func4, Tryd.ntmps4
  go_wp2_with fail
  refine AW.out.mono ?_
  rintro e w2 ⟨rfl, hb2⟩
  have HB2 := Lib.hid hb2
  clear hb2 AW
  by_cases g : n < 0 ∨ 50 < n ∨ t < 0 ∨ 100 < t
  · by_cases g1 : n < 0
    · go_wp2_with fail
      go_ret
      exact ⟨rfl, HB2.out⟩
    · by_cases g2 : 50 < n
      · go_wp2_with fail
        go_ret
        exact ⟨rfl, HB2.out⟩
      · by_cases g3 : t < 0
        · go_wp2_with fail
          go_ret
          exact ⟨rfl, HB2.out⟩
        · have g4 : 100 < t := by omega
          go_wp2_with fail
          go_ret
          exact ⟨rfl, HB2.out⟩
  obtain ⟨N, rfl⟩ : ∃ N : Nat, n = (N : Int) := ⟨n.toNat, by omega⟩
  obtain ⟨T, rfl⟩ : ∃ T : Nat, t = (T : Int) := ⟨t.toNat, by omega⟩
  have hN : N ≤ 50 := by omega
  have hT : T ≤ 100 := by omega
  have g1 : ¬ (N : Int) < 0 := by omega
  have g2 : ¬ 50 < (N : Int) := by omega
  have g3 : ¬ (T : Int) < 0 := by omega
  have g4 : ¬ 100 < (T : Int) := by omega
  have NW := Lib.hid (knew 4 w2 (by omega) (by omega))
  clear g hn1 hn2 ht1 ht2
  go_wp2_with fail
  refine NW.out.mono ?_
  rintro e w3 ⟨p, rfl, hk⟩
  have FU := Lib.hid (kfuel hk N (by omega))
  clear hk NW g1 g2 g3 g4
  go_wp2_with fail
  refine FU.out.mono ?_
  rintro e w4 ⟨rfl, hk⟩
  have hT0 : TriesP N 0 0 (fuelD (newD 4) N) := ⟨⟨rfl, by show 0 ≤ max (N : Int) (-1); omega, by show ([] : Pnd).length ≤ 0; simp⟩, Nat.zero_le _, .inl ⟨rfl, by show max (N : Int) (-1) + ((0 : Nat) : Int) + ((0 / 3 : Nat) : Int) = N; omega, Nat.le_refl _⟩⟩
  have HT0 := Lib.hid hT0
  have HK0 := Lib.hid hk
  clear hT0 hk FU
  go_wp2_with fail
  go_loopw [7, 37] (fun dv iv wr => ∃ (i done : Nat) (D : Dk), dv = .int .i64 (done : Nat) ∧ iv = .int .i64 (i : Nat) ∧ i ≤ T ∧ done ≤ 50 ∧ Hid (TriesP N i done D) ∧ Hid (DK w2 wr p D)) (fun _ iv _ => T - (intOf iv).toNat)
  case atStart => exact ⟨0, 0, _, rfl, rfl, Nat.zero_le _, Nat.zero_le _, HT0, HK0⟩
  case round =>
    obtain ⟨i, done, D, rfl, rfl, hiT, hd50, HT, HK⟩ := hrel
    by_cases hlt : i < T
    · obtain ⟨r4, hr4⟩ : ∃ r4, r4 = i % 4 := ⟨_, rfl⟩
      obtain ⟨r3, hr3⟩ : ∃ r3, r3 = i % 3 := ⟨_, rfl⟩
      have hr4l : r4 < 4 := by omega
      have hr3l : r3 < 3 := by omega
      have hm4 : ((i : Nat) : Int).tmod 4 = (r4 : Int) := by rw [Int.tmod_eq_emod_of_nonneg (by omega), hr4]; omega
      have hm3 : ((i : Nat) : Int).tmod 3 = (r3 : Int) := by rw [Int.tmod_eq_emod_of_nonneg (by omega), hr3]; omega
      have hpl : D.pend.length ≤ 1000 := by have := HT.out.1.2.2; omega
      have WR := Lib.hid (kwrite HK.out (r4 : Int) bX (by omega) (by show 1 ≤ _; omega))
      obtain ⟨ws, wf⟩ := write_step HT.out.1 hr4l
      obtain ⟨R, hR⟩ : ∃ R, R = writeD D (r4 : Int) bX := ⟨_, rfl⟩
      rw [← hR] at WR ws wf
      have HWS := Lib.hid ws
      have HWF := Lib.hid wf
      have HR3 := Lib.hid hr3
      have hRp : R.1.pend.length ≤ 1000 := by have := wf.2.2; omega
      clear hr4 hR hpl ws wf hr3
      by_cases h2 : r3 = 2
      · subst h2
        obtain ⟨fs, ff⟩ := flush_step HWF.out
        obtain ⟨R2, hR2⟩ : ∃ R2, R2 = flushD R.1 := ⟨_, rfl⟩
        rw [← hR2] at fs ff
        have HR2 := Lib.hid hR2
        have HTW := Lib.hid (tries_two HT.out HWS.out HWF.out fs ff HR3.out.symm)
        clear fs ff hR2
        have HEV : Hid (∃ ev, ev = errS R.2 ∧ Calls Tryd.prog 10 #[.pointer (some ⟨p, 0, none⟩), .int .i64 (r4 : Int), .string bX] wr fun e w' => e = .returned ev ∧ DK w2 w' p R.1) := Lib.hid ⟨_, rfl, WR.out⟩
        obtain ⟨ev, _, WR2⟩ := HEV.out
        have WRH := Lib.hid WR2
        clear WR2 WR HEV
        go_wp2_with fail
        refine WRH.out.mono ?_
        rintro e w5 ⟨rfl, hk⟩
        have FL := Lib.hid (kflush hk (by omega))
        rw [← HR2.out] at FL
        clear hk
        rcases HTW.out with ⟨e0, tp⟩ | ⟨e20, eo, tp⟩
        · rw [e0] at FL
          have E0 : errS 0 = .nilIface := rfl
          rw [E0] at FL
          have HTP := Lib.hid tp
          have hd9 : done + 1 ≤ 50 := by have := tp.2.1; omega
          clear e0 tp
          go_wp2_with fail
          refine FL.out.mono ?_
          rintro e w6 ⟨rfl, hk⟩
          have HK5 := Lib.hid hk
          clear hk
          go_wp2_with fail
          exact ⟨⟨i + 1, done + 1, R2.1, by go_num, by go_num, by omega, hd9, HTP, HK5⟩, by simp [intOf]; omega⟩
        · rw [e20, errS_20] at FL
          have HTP := Lib.hid tp
          clear e20 tp
          go_wp2_with fail
          refine FL.out.mono ?_
          rintro e w6 ⟨rfl, hk⟩
          have HK5 := Lib.hid hk
          have OF := Lib.hid (koff hk)
          rw [eo] at OF
          have CO := Lib.hid (code_errno 20 w6 (HE.out.below (HB2.out.trans (hk.2.mono HB2.out.size))))
          clear hk eo
          go_wp2_with fail
          refine OF.out.mono ?_
          rintro e w7 ⟨rfl, rfl⟩
          go_wp2_with fail
          refine CO.out.mono ?_
          rintro e w8 ⟨rfl, hb8⟩
          have HK7 := Lib.hid (HK5.out.below hb8)
          clear hb8
          go_wp2_with fail
          exact ⟨⟨i + 1, done, R2.1, by go_num, by go_num, by omega, hd50, HTP, HK7⟩, by simp [intOf]; omega⟩
      · have h2b : ((r3 : Int) == (2 : Int)) = false := by rw [beq_eq_false_iff_ne]; omega
        rcases tries_one HT.out HWS.out HWF.out (by rw [← HR3.out]; exact h2) with ⟨e0, tp⟩ | ⟨e20, eo, tp⟩
        · rw [e0] at WR
          have E0 : errS 0 = .nilIface := rfl
          rw [E0] at WR
          have HTP := Lib.hid tp
          have hd9 : done + 1 ≤ 50 := by have := tp.2.1; omega
          clear e0 tp
          go_wp2_with fail
          refine WR.out.mono ?_
          rintro e w5 ⟨rfl, hk⟩
          have HK5 := Lib.hid hk
          clear hk
          go_wp2_with fail
          exact ⟨⟨i + 1, done + 1, R.1, by go_num, by go_num, by omega, hd9, HTP, HK5⟩, by simp [intOf]; omega⟩
        · rw [e20, errS_20] at WR
          have HTP := Lib.hid tp
          clear e20 tp
          go_wp2_with fail
          refine WR.out.mono ?_
          rintro e w5 ⟨rfl, hk⟩
          have HK5 := Lib.hid hk
          have OF := Lib.hid (koff hk)
          rw [eo] at OF
          have CO := Lib.hid (code_errno 20 w5 (HE.out.below (HB2.out.trans (hk.2.mono HB2.out.size))))
          clear hk eo
          go_wp2_with fail
          refine OF.out.mono ?_
          rintro e w6 ⟨rfl, rfl⟩
          go_wp2_with fail
          refine CO.out.mono ?_
          rintro e w7 ⟨rfl, hb7⟩
          have HK7 := Lib.hid (HK5.out.below hb7)
          clear hb7
          go_wp2_with fail
          exact ⟨⟨i + 1, done, R.1, by go_num, by go_num, by omega, hd50, HTP, HK7⟩, by simp [intOf]; omega⟩
    · have hie : T = i := by omega
      subst hie
      have htq : ((T : Nat) : Int).tdiv 3 = ((T / 3 : Nat) : Int) := by rw [Int.tdiv_eq_ediv_of_nonneg (by omega)]; omega
      obtain ⟨q, hq⟩ : ∃ q, q = T / 3 := ⟨_, rfl⟩
      rw [← hq] at htq
      have hq9 : q ≤ 33 := by omega
      have hofe : D.off = decide ((N : Int) < (T : Int) + (q : Int)) := by
        rcases HT.out.2.2 with ⟨a, b, c⟩ | ⟨a, b⟩
        · have := HT.out.1.2.1
          rw [a, eq_comm, decide_eq_false_iff_not]
          omega
        · rw [a, eq_comm, decide_eq_true_iff]
          omega
      have OF := Lib.hid (koff HK.out)
      rw [hofe] at OF
      have hdN : (done : Int) ≤ (N : Int) := by have := HT.out.2.1; omega
      have hdd : decide ((done : Int) ≤ (N : Int)) = true := decide_eq_true hdN
      have HPL : Hid (D.pend.length ≤ 1000000) := Lib.hid (by have := HT.out.1.2.2; omega)
      have HSL := Lib.hid HT.out.1.1
      have FA := Lib.hid (kfall HK.out (Below.refl _ _) [] (.slice none 0 0) HPL.out (RB.nil _) (fun _ b o n c e => by simp at e))
      have HFL : Hid ((writeD (fallD (fun j => ([] : List Bool).getD j false) D) ((0 : Nat) : Int) bY).2 = 0 ∧ (writeD (fallD (fun j => ([] : List Bool).getD j false) D) ((0 : Nat) : Int) bY).1.off = false) := Lib.hid (by
        have hl : (fallD (fun j => ([] : List Bool).getD j false) D).sure.length = 4 := by show (sk _ _ _ _).length = 4; rw [sk_len]; exact HSL.out
        unfold writeD
        rw [if_neg (by show ¬ false = true; simp), if_neg (by rw [hl]; show ¬ (((0 : Nat) : Int) < 0 ∨ ((4 : Nat) : Int) ≤ _ ∨ 512 < 1); omega), if_neg (by show ¬ (-1 : Int) = 0; omega)]
        exact ⟨rfl, rfl⟩)
      have HB4 : Hid (∀ w', DK w2 w' p (writeD (fallD (fun j => ([] : List Bool).getD j false) D) ((0 : Nat) : Int) bY).1 → Below w.heap.size w w') := Lib.hid (fun w' h => HB2.out.trans (h.2.mono HB2.out.size))
      obtain ⟨bv, hbv⟩ : ∃ bv, bv = decide ((N : Int) < (T : Int) + (q : Int)) := ⟨_, rfl⟩
      rw [← hbv] at OF
      have hxx : (bv != bv) = false := by simp
      have hwq : IntKind.i64.wrap ((T : Int) + (q : Int)) = (T : Int) + (q : Int) := by rw [IntKind.wrap_i64]; omega
      have hgt : decide ((N : Int) < (T : Int) + (q : Int)) = bv := hbv.symm
      clear hofe hq hbv
      have E0 : errS 0 = .nilIface := rfl
      go_wp2_with fail
      refine OF.out.mono ?_
      rintro e w5 ⟨rfl, rfl⟩
      go_wp2_with fail
      refine FA.out.mono ?_
      rintro e w6 ⟨rfl, hk⟩
      have WR := Lib.hid (kwrite hk ((0 : Nat) : Int) bY (by show 0 ≤ _; omega) (by show 1 ≤ _; omega))
      rw [HFL.out.1, E0] at WR
      clear hk
      go_wp2_with fail
      refine WR.out.mono ?_
      rintro e w7 ⟨rfl, hk⟩
      have OF2 := Lib.hid (koff hk)
      rw [HFL.out.2] at OF2
      have HBE := Lib.hid (HB4.out _ hk)
      clear hk
      go_wp2_with fail
      refine OF2.out.mono ?_
      rintro e w8 ⟨rfl, rfl⟩
      go_wp2_with fail
      go_ret
      exact ⟨rfl, HBE.out⟩
end Go.Proofs.YtbicecbcloellaaDoor
