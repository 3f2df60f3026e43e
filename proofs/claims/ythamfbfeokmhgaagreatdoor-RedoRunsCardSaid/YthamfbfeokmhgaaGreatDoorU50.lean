/- RedoRuns: its walk. -/
import Derived.Deep.Cut
import Derived.Deep.CutRange
import Derived.Deep.CutBlock
import Derived.Deep.RegionHeld3
import Derived.Test.YthamfbfeokmhgaaGreatDoorU49
set_option linter.unusedVariables false
set_option linter.unusedSimpArgs false
namespace Go.Proofs.YthamfbfeokmhgaaGreatDoor
open Go.ChangeShapes Go.WideShapes Go.ChangeAt Go.RowKit

theorem eqP_new (n : Nat) : EqP P0 (List.replicate n ByteArray.empty) n := fun i hi => by
  rw [List.getD_eq_getElem?_getD, List.getElem?_replicate, if_pos hi]; rfl
theorem infoPp : (Tryz.prog.info? 34).map (fun i => (i.zero, i.size, i.bytes)) = some (some (.pointer none), 1, 8) := by kernel_rfl
theorem Env13.below {w w' : World} (h : Env13 w) (hb : Below w.heap.size w w') : Env13 w' := ⟨h.sents.below hb, h.tab.below hb, h.cubes.below hb⟩
set_option maxHeartbeats 8000000 in
set_option maxRecDepth 100000 in
theorem rruns_law (sec : Int) (xs : List Rc) (v : Value) (w : World) (he : Env13 w) (hg : HasErr w) (hr : CReads w v xs) (hl : xs.length ≤ 140737488355328) (hf : ∀ x ∈ xs, x.fine) :
    Calls Tryz.prog 3 #[.int .i64 sec, v] w fun e w' => e = .returned (.bool true) ∧ Below w.heap.size w w' := by
  have AW := Lib.hid (rawake_any w he)
  obtain ⟨va, vc, rfl⟩ := hr.form
  have HSM := Lib.hid (fun W (hW : Below w.heap.size w W) => rsmall_any xs (.slice va xs.length vc) W (hr.below hW) hf hl)
  obtain ⟨m, hm⟩ : ∃ m, m = xs.length := ⟨_, rfl⟩
  rw [← hm] at hr hl HSM ⊢
  have HM := Lib.hid hm
  have HR := Lib.hid hr
  have HF := Lib.hid hf
  have HE := Lib.hid he
  have HG := Lib.hid hg
  clear hr hm hf he hg
  by_cases hs : 104 < sec
  · go_enter Tryz.func3, Tryz.ntmps3
    go_wp2_with fail
    refine AW.out.mono ?_
    rintro e w1 ⟨rfl, hb⟩
    have HB := Lib.hid hb
    clear hb
    go_wp2_with fail
    go_ret
    exact ⟨rfl, HB.out⟩
  have HCO : Hid (∀ W, Below w.heap.size w W → ∀ k, Calls Tryz.prog 9 #[errS k] W fun e w' => e = .returned (.int .i64 k) ∧ Below W.heap.size W w') := Lib.hid (fun W hW k => code_s k W (HG.out.below hW))
  go_enter Tryz.func3, Tryz.ntmps3
  go_wp2_with fail
  refine AW.out.mono ?_
  rintro e w1 ⟨rfl, hb1⟩
  have HB1 := Lib.hid hb1
  clear hb1 AW
  go_wp2_with fail
  refine (HSM.out _ HB1.out).mono ?_
  rintro e w2 ⟨r2, rfl, hsm, hb2⟩
  have HB2 := Lib.hid (HB1.out.trans (hb2.mono HB1.out.size))
  have HSX := Lib.hid hsm
  clear hb2 HSM HB1 hsm
  cases r2 with
  | false =>
    go_wp2_with fail
    go_ret
    exact ⟨rfl, HB2.out⟩
  | true =>
    by_cases hs1 : sec < 1
    · have HN := Lib.hid (snew_bad sec w2 (.inl hs1))
      simp only [errS_ne (show ¬ (1 : Int) = 0 by decide)] at HN
      go_wp2_with fail
      refine HN.out.mono ?_
      rintro e w3 ⟨rfl, rfl⟩
      go_wp2_with fail
      go_ret
      exact ⟨rfl, HB2.out⟩
    obtain ⟨sn, rfl⟩ : ∃ sn : Nat, sec = (sn : Int) := ⟨sec.toNat, by omega⟩
    have HN := Lib.hid (snew_ok sn w2 (by omega) (by omega))
    go_wp2_with fail
    refine HN.out.mono ?_
    rintro e w3 ⟨p, rfl, ⟨Z, hdx, hz⟩, hb3⟩
    have hnl : (newD sn).sure.length = sn := by show (List.replicate _ _).length = sn; simp
    have HB3 := Lib.hid (HB2.out.trans (hb3.mono HB2.out.size))
    by_cases h65 : sn < 65
    · have h65I : (sn : Int) < 65 := by omega
      have HO := Lib.hid (open_no 22 w3 hdx (.inr ⟨rfl, by rw [hnl]; omega, rfl⟩))
      have hC := fun W hW => HCO.out W hW 22
      simp only [errS_ne (show ¬ (22 : Int) = 0 by decide)] at HO hC
      have HC := Lib.hid hC
      clear hdx hz hb3 hnl hC
      go_wp2_with fail
      refine HO.out.mono ?_
      rintro e w4 ⟨rfl, hb4⟩
      have HB4 := Lib.hid (HB3.out.trans (hb4.mono HB3.out.size))
      clear hb4
      go_wp2_with fail
      refine (HC.out _ HB4.out).mono ?_
      rintro e w5 ⟨rfl, hb5⟩
      have HB5 := Lib.hid (HB4.out.trans (hb5.mono HB4.out.size))
      clear hb5
      go_wp2_with fail
      go_ret
      exact ⟨rfl, HB5.out⟩
    have h65I : ¬ (sn : Int) < 65 := by omega
    obtain ⟨n, hn⟩ : ∃ n, sn = n + 64 := ⟨sn - 64, by omega⟩
    have hn40 : n ≤ 40 := by omega
    have hn1 : 1 ≤ n := by omega
    have HO := Lib.hid (openZ_any (P := P0) hdx rfl rfl (by rw [hnl]; omega) (.inl (new_clean sn)) (Env13.below HE.out HB3.out))
    have HZ2 : Hid (∀ i, Z i → w.heap.size ≤ i) := Lib.hid (fun i hi => Nat.le_trans HB2.out.size (hz i hi))
    have HRN := Lib.hid (fun W => r13new_any n W (by omega))
    rw [← hn] at HRN
    have HNE := Lib.hid hn
    clear hdx hz hb3 HN hn
    go_wp2_with fail
    refine HO.out.mono ?_
    rintro e w4 ⟨D4, hl4, hp4, hc4⟩
    rcases hc4 with ⟨q4, rfl, hop4, ho4, hpe4, hcl4⟩ | ⟨hf4, _⟩
    rotate_left
    · exfalso
      have : (0 : Int) ≤ -1 := hf4
      omega
    rw [hnl] at hl4
    clear hnl HO
    go_wp2_with fail
    refine (HRN.out _).mono ?_
    rintro e w5 ⟨a5, mb5, rfl, hpr5, ha5, hm5, hb5, _⟩
    obtain ⟨wa, hwa⟩ : ∃ wa, wa = w5.alloc (.cells #[.pointer (some ⟨a5, 0, none⟩)] 34) := ⟨_, rfl⟩
    have hba : Below w5.heap.size w5 wa := by rw [hwa]; exact (Below.refl _ _).alloc (Nat.le_refl _) _
    have HWA := Lib.hid hwa
    have HLS0 : Hid (∃ (Z : Nat → Prop) (D : Dk) (Ss : List (List ByteArray)), LS w p n 0 wa (.pointer (some ⟨q4, 0, none⟩)) (.slice (some ⟨w5.heap.size, 0, none⟩) 1 1) Z D Ss ∧ ST n D Ss (.pointer (some ⟨q4, 0, none⟩))) := Lib.hid (by
      obtain ⟨Z4, k1, k2, k3, k4, k5, k6⟩ := hop4
      have hz4 : ∀ i, Z4 i → w.heap.size ≤ i := fun i hi => (k3 i hi).elim (HZ2.out i) (fun e => Nat.le_trans HB3.out.size e)
      have hbe4 : Below w.heap.size w w4 := HB3.out.trans (k2.below HZ2.out HB3.out.size)
      have hb4a := hb5.trans (hba.mono hb5.size)
      have hsz : ∀ i, w4.heap.size ≤ i → ¬ Z4 i := fun i hi e => by have := k1.zlt i e; omega
      refine ⟨Z4, D4, [List.replicate n ByteArray.empty], ⟨k1.below hb4a, hz4, hbe4.trans (hb4a.mono hbe4.size), by rw [hl4, HNE.out], hp4, ⟨[a5], rfl, ?_, fun b hb => ?_, fun j a S ha hS => ?_⟩, .inr ⟨q4, rfl, k4.below hb4a, k5⟩⟩, .inl ⟨ho4, hpe4, ⟨q4, rfl⟩, _, P0, rfl, hcl4, eqP_new n⟩⟩
      · rw [hwa]
        exact row_new (Nat.le_trans hbe4.size (by have := hb5.size; omega)) (by simp) (Nat.le_refl _) (by unfold maxLen; omega) (by simp) (.inl rfl) (fun j u hu => by simpa using hu)
      · have : w5.heap.size = b := Option.some.inj hb
        subst this
        exact hsz _ hb5.size
      · match j, ha, hS with
        | 0, ha, hS =>
          injection ha with ha
          injection hS with hS
          subst ha; subst hS
          exact ⟨mb5, hpr5.below hba, hsz _ ha5, hsz _ hm5, Nat.le_trans hbe4.size ha5, Nat.le_trans hbe4.size hm5⟩)
    clear hop4 ho4 hpe4 hcl4 hpr5 ha5 hm5 hb5 hba hwa hl4 hp4 HRN HZ2
    go_wp2_with fail
    rw [← HWA.out]
    go_loopw [7, 8, 57] (fun rv mv jv W => ∃ (j : Nat) (Z : Nat → Prop) (D : Dk) (Ss : List (List ByteArray)), jv = .int .i64 (j : Nat) ∧ j ≤ m ∧ j ≤ 40 ∧ Hid (LS w p n (63 * j) W rv mv Z D Ss) ∧ Hid (ST n D Ss rv)) (fun _ _ jv _ => m - (intOf jv).toNat)
    case atStart =>
      obtain ⟨Z0, D0, S0, h1, h2⟩ := HLS0.out
      exact ⟨0, Z0, D0, S0, rfl, Nat.zero_le _, Nat.zero_le _, Lib.hid h1, Lib.hid h2⟩
    case round =>
      clear HLS0
      obtain ⟨j, Z, D, Ss, rfl, hjm, hj40, HLS, HST⟩ := hrel
      obtain ⟨mva, mvc, rfl⟩ : ∃ a c, u8 = .slice a Ss.length c := by
        obtain ⟨ps, _, h2, _⟩ := HLS.out.may
        exact h2.form
      by_cases hlt : j < m
      · obtain ⟨x, hx⟩ : ∃ x, xs[j]? = some x := ⟨xs[j]'(by rw [← HM.out]; exact hlt), by simp⟩
        obtain ⟨b, o, pg, kv, rfl, hbl0, hmc, hcm, d0, d1, d2, d3, hpg, hkv⟩ := HR.out.at hx
        have hbl := Nat.lt_of_lt_of_le hbl0 HLS.out.bel.size
        replace d0 := (HLS.out.bel.cell (p := ⟨b, _, none⟩) hbl0).trans d0
        replace d1 := (HLS.out.bel.cell (p := ⟨b, _, none⟩) hbl0).trans d1
        replace d2 := (HLS.out.bel.cell (p := ⟨b, _, none⟩) hbl0).trans d2
        replace d3 := (HLS.out.bel.cell (p := ⟨b, _, none⟩) hbl0).trans d3
        obtain ⟨pa, pc, rfl⟩ := hpg.form
        obtain ⟨ka, kc, rfl⟩ := hkv.form
        unfold maxLen at hcm
        have hxf := HF.out x (List.mem_of_getElem? hx)
        have hx6 := HSX.out (by first | rfl | trivial | decide) x (List.mem_of_getElem? hx)
        obtain ⟨what, num, pgs, keep⟩ := x
        obtain ⟨hnum1, hnum2, hpl9, hkl9⟩ := hxf
        simp only at hx6 hnum1 hnum2 hpl9 hkl9 d0 d1 d2 d3 hpg hkv
        obtain ⟨pl, hpl⟩ : ∃ pl, pl = pgs.length := ⟨_, rfl⟩
        obtain ⟨kl, hkl⟩ : ∃ kl, kl = keep.length := ⟨_, rfl⟩
        rw [← hpl] at hx6 hpl9 d2 hpg
        rw [← hkl] at hkl9 d3 hkv
        have HPG := Lib.hid hpg
        have HKV := Lib.hid hkv
        have HPL := Lib.hid hpl
        have HKL := Lib.hid hkl
        obtain ⟨wz, hwz⟩ : ∃ wz, wz = wr.alloc (.cells #[.int .i64 what, .int .i64 num, .slice pa pl pc, .slice ka kl kc] 40) := ⟨_, rfl⟩
        obtain ⟨ob, hob⟩ : ∃ ob, ob = wr.heap.size := ⟨_, rfl⟩
        have hbz : Below wr.heap.size wr wz := by rw [hwz]; exact (Below.refl _ _).alloc (Nat.le_refl _) _
        have hoc : ∀ i, wz.cell? ⟨ob, i, none⟩ = (#[.int .i64 what, .int .i64 num, .slice pa pl pc, .slice ka kl kc] : Array Value)[i]? := fun i => by rw [hwz, hob]; exact World.cell?_alloc_at _ _ _ _ rfl
        have HOC := Lib.hid hoc
        have HOL : Hid (ob < wz.heap.size ∧ ¬ Z ob) := Lib.hid ⟨by rw [hwz, hob]; simp, fun e => by have h := HLS.out.dx; obtain ⟨_, _, _, h⟩ := h; have := h.zlt ob e; omega⟩
        have HL := Lib.hid (HLS.out.below hbz)
        have HT := HST
        have HWZ := Lib.hid hwz
        have hjI : (j : Int) < (m : Int) := by omega
        clear hx hpg hkv hpl hkl hwz hbz hoc HLS HST hbl0
        by_cases h40 : j = 40
        · have hjb : ((j : Int) == (40 : Int)) = true := by rw [beq_iff_eq]; omega
          clear h40
          go_wp2_with fail
          rw [← HWZ.out]
          obtain ⟨_, _, Pe, hste, Se, hSe, heqe⟩ := HT.out.fall (fun j => ([] : List Bool).getD j false)
          have HFA := Lib.hid (sfall_any [] (.slice none 0 0) _ HL.out.dx (by have := HL.out.pl; omega) (RB.nil _) (fun h => absurd rfl h))
          have HSE := Lib.hid hSe
          have HEQ := Lib.hid heqe
          have HST9 := Lib.hid hste
          clear hste hSe heqe
          refine HFA.out.mono ?_
          rintro e w20 ⟨rfl, hd20⟩
          obtain ⟨Z20, hl20⟩ := HL.out.post hd20 (by show (sk _ _ _ _).length = _; rw [sk_len]; exact HL.out.len) (Nat.zero_le _)
          have HL20 := Lib.hid hl20
          have HO20 := Lib.hid (openZ_any (P := Pe) hl20.dx rfl rfl (by rw [hl20.len]; omega) HST9.out (HE.out.below hl20.bel))
          clear hd20 hl20 HFA
          go_wp2_with fail
          refine HO20.out.mono ?_
          rintro e w21 ⟨D21, hl21, hp21, hc21⟩
          rcases hc21 with ⟨q21, rfl, hop21, ho21, hpe21, hcl21⟩ | ⟨hf21, _⟩
          rotate_left
          · exfalso
            have : (0 : Int) ≤ -1 := hf21
            omega
          have hlen21 : D21.sure.length = n + 64 := by rw [hl21]; exact HL20.out.len
          obtain ⟨Z21, hls21⟩ := HL20.out.opened hop21 hlen21 hp21
          have HL21 := Lib.hid hls21
          have HSA : Hid (∀ W, Below w21.heap.size w21 W → ∀ (g a : Nat) (S : List ByteArray), ∀ mb, PR w21 a mb (63 * j) n S → Calls Tryz.prog 17 #[.pointer (some ⟨q21, 0, none⟩), .pointer (some ⟨a, 0, none⟩)] W fun e w' => ∃ r : Bool, e = .returned (.bool r) ∧ (r = true ↔ EqP Pe S n) ∧ Below W.heap.size W w') := Lib.hid (fun W hW g a S mb hp => rsame_any W (HL21.out.below hW).dr ho21 hpe21 hcl21 hlen21 hn40 (hp.below hW) (HG.out.below (HL21.out.below hW).bel))
          clear hop21 ho21 hpe21 hcl21 hl21 hp21 hlen21 hls21 HO20 HL20
          go_wp2_with fail
          go_loopw [216] (fun gv wk => ∃ g : Nat, gv = .int .i64 (g : Nat) ∧ g ≤ Ss.length ∧ Hid (Below w21.heap.size w21 wk) ∧ Hid (∀ i S, i < g → Ss[i]? = some S → ¬ EqP Pe S n)) (fun gv _ => Ss.length - (intOf gv).toNat)
          case atStart => exact ⟨0, rfl, Nat.zero_le _, Lib.hid (Below.refl _ _), Lib.hid (fun i S hi => by omega)⟩
          case round =>
            obtain ⟨g, rfl, hgs, HBK, HNO⟩ := hrel
            by_cases hgl : g < Ss.length
            · obtain ⟨Sg, hSg⟩ : ∃ S, Ss[g]? = some S := ⟨Ss[g]'hgl, by simp⟩
              obtain ⟨ps, hpl, hrow, _, hps⟩ := HL21.out.may
              obtain ⟨ag, hag⟩ : ∃ a, ps[g]? = some a := ⟨ps[g]'(by omega), by simp⟩
              obtain ⟨mbg, hpg, _⟩ := hps g ag Sg hag hSg
              obtain ⟨bm, cm, hbm, _, hbml, hmc1, hmc2, _, hcell⟩ := hrow.pos (by omega)
              injection hbm with hbm1 _ hbm3
              subst hbm1; subst hbm3
              have hcg := (HBK.out.cell (p := ⟨bm, g, none⟩) hbml).trans (hcell g (.pointer (some ⟨ag, 0, none⟩)) (by simp [ptrs, hag]))
              have HSG := Lib.hid (HSA.out _ HBK.out g ag Sg mbg hpg)
              have HSgi := Lib.hid hSg
              have hgI : (g : Int) < (Ss.length : Int) := by omega
              unfold maxLen at hmc2
              clear hag hpg hps hrow hcell hSg
              go_wp2_with fail
              refine HSG.out.mono ?_
              rintro e w22 ⟨rb, rfl, hrb, hb22⟩
              have HRB := Lib.hid hrb
              have HB22 := Lib.hid (HBK.out.trans (hb22.mono HBK.out.size))
              clear hrb hb22
              cases rb with
              | true =>
                go_wp2_with fail
                go_ret
                exact ⟨rfl, HL21.out.bel.trans (HB22.out.mono HL21.out.bel.size)⟩
              | false =>
                have HNX : Hid (∀ i S, i < g + 1 → Ss[i]? = some S → ¬ EqP Pe S n) := Lib.hid (fun i S hi hS => by
                  by_cases e : i < g
                  · exact HNO.out i S e hS
                  · have : i = g := by omega
                    subst this
                    rw [HSgi.out] at hS
                    injection hS with hS
                    subst hS
                    intro h
                    have := HRB.out.2 h
                    cases this)
                go_wp2_with fail
                exact ⟨⟨g + 1, by go_num, by omega, HB22, HNX⟩, by simp [intOf]; omega⟩
            · exfalso
              obtain ⟨i, hi⟩ := List.getElem?_of_mem HSE.out
              have hil := (List.getElem?_eq_some_iff.1 hi).1
              exact HNO.out i Se (by omega) hi HEQ.out
        have hjb : ((j : Int) == (40 : Int)) = false := by rw [beq_eq_false_iff_ne]; omega
        have hj39 : j ≤ 39 := by omega
        clear h40
        go_upto_block 2 with fail
        rw [← hob, ← HWZ.out]
        clear hob d0 d1 d2 d3
        go_cut [7, 8] from 66 to 183 (fun rv mv W => ∃ (Z : Nat → Prop) (D : Dk) (Ss : List (List ByteArray)), Hid (LS w p n (63 * (j + 1)) W rv mv Z D Ss) ∧ Hid (ST n D Ss rv))
        case first =>
          by_cases h0 : what = 0
          · have b0 : (what == (0 : Int)) = true := by rw [beq_iff_eq]; exact h0
            as_aux_lemma =>
            have o2 : wz.cell? ⟨ob, 2, none⟩ = some (.slice pa pl pc) := HOC.out 2
            obtain ⟨hs1, hs2, _⟩ := HT.out.fall (fun _ => false)
            obtain ⟨S0, hS0⟩ : ∃ S, Ss[0]? = some S := ⟨Ss[0]'(by omega), by simp⟩
            obtain ⟨ps, hpsl, hrow, _, hps⟩ := HL.out.may
            obtain ⟨a1, ha1⟩ : ∃ a, ps[0]? = some a := ⟨ps[0]'(by omega), by simp⟩
            obtain ⟨mb1, hp1, _⟩ := hps 0 a1 S0 ha1 hS0
            obtain ⟨bm, cm, hbm, _, hbml, hmc1, hmc2, _, hcell⟩ := hrow.pos (by omega)
            injection hbm with hbm1 _ hbm3
            subst hbm1; subst hbm3
            have hcg := hcell 0 (.pointer (some ⟨a1, 0, none⟩)) (by simp [ptrs, ha1])
            unfold maxLen at hmc2
            have hs1I : (0 : Int) < (Ss.length : Int) := by omega
            obtain ⟨of, hof⟩ : ∃ of, of = D.off := ⟨_, rfl⟩
            have HOF : Hid (Calls Tryz.prog 11 #[.pointer (some ⟨p, 0, none⟩)] wz fun e w' => e = .returned (.bool of) ∧ w' = wz) := Lib.hid (by
              obtain ⟨bs, bh, v, hd⟩ := HL.out.dx
              rw [hof]
              exact soff_any p _ wz hd.c4)
            have HOE := Lib.hid hof
            have HCP := Lib.hid (r13copy_any wz hp1 (by omega) (by omega))
            have HS0 := Lib.hid hS0
            have HRW0 : Hid (Ss.length = 1 → Row 1 w.heap.size wz (.slice (some ⟨bm, 0, none⟩) Ss.length mvc) 1 [.pointer (some ⟨a1, 0, none⟩)]) := Lib.hid (fun e => by
              obtain ⟨y, rfl⟩ : ∃ y, ps = [y] := by
                match ps, (show ps.length = 1 by omega) with
                | [y], _ => exact ⟨y, rfl⟩
              injection ha1 with ha1
              subst ha1
              rw [e] at hrow
              rw [e]
              exact hrow)
            have HNB : Hid (∀ b, (Value.slice (some ⟨bm, 0, none⟩) Ss.length mvc).ownBlock = some b → ¬ Z b) := by
              obtain ⟨ps', _, _, h3, _⟩ := HL.out.may
              exact Lib.hid h3
            clear hof hS0 ha1 hrow hps hcell hp1 hpsl h0
            go_wp2_with fail
            refine HOF.out.mono ?_
            rintro e w4 ⟨rfl, hw4⟩
            rw [hw4]
            clear hw4
            go_wp2_with fail
            refine HCP.out.mono ?_
            rintro e w5 ⟨a5, mb5, rfl, hp5, ha5, hm5, hb5⟩
            obtain ⟨rc, hrc⟩ : ∃ rc, rc = rcode n pgs := ⟨_, rfl⟩
            have hwzw := HL.out.bel.size
            have hcm := r13commit_any (.slice pa pl pc) pgs w5 hp5 (by omega) (by omega) (HPG.out.below (HL.out.bel.trans (hb5.mono HL.out.bel.size))) (fun b o m c e hne hbm => by have := HPG.out.lt hne e; omega) (by rw [← HPL.out]; omega)
            unfold RcP at hcm
            rw [← hrc] at hcm
            have HCM := Lib.hid hcm
            have o25 := (hb5.cell (p := ⟨ob, 2, none⟩) HOL.out.1).trans o2
            have HB5 := Lib.hid hb5
            have HRC := Lib.hid hrc
            have HNW : Hid (¬ Z a5 ∧ ¬ Z mb5 ∧ w.heap.size ≤ a5 ∧ w.heap.size ≤ mb5) := Lib.hid (by
              obtain ⟨_, _, _, hd⟩ := HL.out.dx
              exact ⟨fun e => by have := hd.zlt _ e; omega, fun e => by have := hd.zlt _ e; omega, by omega, by omega⟩)
            have HM5 := Lib.hid hm5
            clear hp5 ha5 hm5 hb5 hrc hcm hcg HOF HCP hwzw hs1I
            go_wp2_with fail
            refine HCM.out.mono ?_
            rintro e w6 ⟨rfl, ho6, hc6⟩
            have HC6 := Lib.hid hc6
            have HB6 := Lib.hid (HB5.out.trans (ho6.below (B := wz.heap.size) (fun i hi => by subst hi; exact HM5.out) HB5.out.size))
            have o26 := (HB6.out.cell (p := ⟨ob, 2, none⟩) HOL.out.1).trans o2
            have HL6 := Lib.hid (HL.out.below HB6.out)
            have HPG6 := Lib.hid (HPG.out.below HL6.out.bel)
            clear ho6 hc6 HCM HB5 o25 HM5
            rcases HL6.out.red with hnil | ⟨q, hq, hrq, hqz⟩
            · subst hnil
              have hcn := commit_nil (.slice pa pl pc) w6
              have hC := fun W hW => HCO.out W hW 20
              simp only [errS_ne (show ¬ (20 : Int) = 0 by decide)] at hC hcn
              have HC := Lib.hid hC
              have HCN := Lib.hid hcn
              clear hC hcn
              go_wp2_with fail
              refine HCN.out.mono ?_
              rintro e w7 ⟨rfl, hw7⟩
              rw [hw7]
              clear hw7
              go_wp2_with fail
              refine (HC.out _ HL6.out.bel).mono ?_
              rintro e w8 ⟨rfl, hb8⟩
              have HL8 := Lib.hid ((HL6.out.below hb8).more (show 63 * j ≤ 63 * (j + 1) by omega))
              clear hb8
              go_wp2_with fail
              go_meet
              exact ⟨Z, D, Ss, HL8, HT⟩
            subst hq
            have HRQ := Lib.hid (And.intro hrq hqz)
            clear hrq hqz
            have hpl6 : pgs.length ≤ 1000000 := by rw [← HPL.out]; omega
            by_cases hr0 : rc = 0
            rotate_left
            · have hcn := commit_no (.slice pa pl pc) pgs rc w6 HRQ.out.1 HL6.out.dx HPG6.out hpl6 (by
                rw [HL6.out.len, Nat.add_sub_cancel, HRC.out]
                rcases rcode_ne (show rcode n pgs ≠ 0 by rw [← HRC.out]; exact hr0) with ⟨h1, h2⟩ | ⟨h1, h2, h3⟩
                · exact .inl ⟨h1, h2⟩
                · exact .inr (.inl ⟨h1, h2, h3⟩))
              have hC := fun W hW => HCO.out W hW rc
              obtain ⟨ev, hev⟩ : ∃ ev, ev = errS rc := ⟨_, rfl⟩
              rw [← hev] at hcn
              simp only [← hev] at hC
              have HC := Lib.hid hC
              have HCN := Lib.hid hcn
              have br0 : (rc != (0 : Int)) = true := by simp [hr0]
              have brr : (rc != rc) = false := by simp
              clear hC hcn hev hr0 hpl6
              go_wp2_with fail
              refine HCN.out.mono ?_
              rintro e w7 ⟨rfl, hb7⟩
              have HL7 := Lib.hid (HL6.out.below hb7)
              have HB7 := Lib.hid hb7
              clear hb7
              go_wp2_with fail
              refine (HC.out _ HL7.out.bel).mono ?_
              rintro e w8 ⟨rfl, hb8⟩
              have HB8 := Lib.hid hb8
              have HL8 := Lib.hid ((HL7.out.below hb8).more (show 63 * j ≤ 63 * (j + 1) by omega))
              clear hb8
              go_wp2_with fail
              go_meet
              exact ⟨Z, D, Ss, HL8, HT⟩
            subst hr0
            obtain ⟨l, hlp, hgl, hp6⟩ : ∃ l, pgs = ofP l ∧ goodP n l ∧ PR w6 a5 mb5 (63 * (j + 1)) n (setP S0 l) := by
              rcases HC6.out with ⟨h, _⟩ | ⟨_, l, h1, h2, h3⟩
              · exact absurd rfl h
              · exact ⟨l, h1, h2, by rw [show 63 * (j + 1) = 63 * j + 63 by omega]; exact h3⟩
            by_cases hl0 : pgs = []
            · have hcn := commit_no (.slice pa pl pc) pgs 0 w6 HRQ.out.1 HL6.out.dx HPG6.out hpl6 (.inr (.inr ⟨hl0, rfl⟩))
              have hC := fun W hW => HCO.out W hW 0
              simp only [errS_zero] at hC hcn
              have HC := Lib.hid hC
              have HCN := Lib.hid hcn
              obtain rfl : pl = 0 := by rw [HPL.out, hl0]; rfl
              clear hC hcn hlp hgl hp6 hl0 hpl6
              go_wp2_with fail
              refine HCN.out.mono ?_
              rintro e w7 ⟨rfl, hb7⟩
              have HL7 := Lib.hid (HL6.out.below hb7)
              have HB7 := Lib.hid hb7
              clear hb7
              go_wp2_with fail
              refine (HC.out _ HL7.out.bel).mono ?_
              rintro e w8 ⟨rfl, hb8⟩
              have HB8 := Lib.hid hb8
              have HL8 := Lib.hid ((HL7.out.below hb8).more (show 63 * j ≤ 63 * (j + 1) by omega))
              have o28 := (HB8.out.cell (p := ⟨ob, 2, none⟩) (Nat.lt_of_lt_of_le HOL.out.1 (Nat.le_trans HB6.out.size HB7.out.size))).trans ((HB7.out.cell (p := ⟨ob, 2, none⟩) (Nat.lt_of_lt_of_le HOL.out.1 HB6.out.size)).trans o26)
              clear hb8
              go_wp2_with fail
              go_meet
              exact ⟨Z, D, Ss, HL8, HT⟩
            have hl63 : l.length ≤ 63 := by have := rcode_zero HRC.out.symm; rw [hlp, ofP_len] at this; exact this
            have hl1 : 1 ≤ l.length := by
              rcases l with _ | ⟨x, r⟩
              · exact absurd hlp hl0
              · simp
            have hplN : ¬ pl = 0 := by
              have h1 := HPL.out
              rw [hlp, ofP_len] at h1
              omega
            have hplI : ((pl : Int) == (0 : Int)) = false := by
              rw [beq_eq_false_iff_ne]
              omega
            have hgd : goodP (D.sure.length - 64) l := by rw [HL6.out.len, Nat.add_sub_cancel]; exact hgl
            have hrun := commit_run (.slice pa pl pc) l w6 HRQ.out.1 HRQ.out.2 HL6.out.dx (by rw [← hlp]; exact HPG6.out) (pgr_zed HPG.out hl0 HL6.out.zb) hl1 hl63 hgd (by have := HL6.out.pl; omega) (HE.out.below HL6.out.bel).tab (HE.out.below HL6.out.bel).cubes
            have HP6 := Lib.hid hp6
            have HLG := Lib.hid hgl
            clear hp6 hgl
            cases of with
            | true =>
              rw [run_off _ D (by simp [commitBs]) HOE.out.symm] at hrun
              have hC := fun W hW => HCO.out W hW 20
              simp only [errS_ne (show ¬ (20 : Int) = 0 by decide)] at hC hrun
              have HC := Lib.hid hC
              have HCN := Lib.hid hrun
              have HLP := Lib.hid (And.intro HL6.out.len HL6.out.pl)
              clear hC hrun hgd hl0 hlp hl63 hl1 hpl6
              go_wp2_with fail
              refine HCN.out.mono ?_
              rintro e w7 ⟨rfl, hd7⟩
              obtain ⟨Z7, hls7, hof7, hz7⟩ := HL6.out.postK hd7 HLP.out.1 HLP.out.2
              have HL7 := Lib.hid hls7
              have HP7 := Lib.hid (HP6.out.off hof7 HNW.out.1 HNW.out.2.1)
              have HNZ := Lib.hid (And.intro (hz7 _ HP6.out.alt HNW.out.1) (hz7 _ HP6.out.mp.lt HNW.out.2.1))
              have o27 := (hof7.cell (p := ⟨ob, 2, none⟩) (Nat.lt_of_lt_of_le HOL.out.1 HB6.out.size) HOL.out.2).trans o26
              clear hd7 hls7 hof7 hz7
              go_wp2_with fail
              refine (HC.out _ HL7.out.bel).mono ?_
              rintro e w8 ⟨rfl, hb8⟩
              have o28 := (hb8.cell (p := ⟨ob, 2, none⟩) (cell_lt o27)).trans o27
              have HL8 := Lib.hid ((HL7.out.below hb8).more (show 63 * j ≤ 63 * (j + 1) by omega))
              have HOF8 : Hid (Calls Tryz.prog 11 #[.pointer (some ⟨p, 0, none⟩)] w8 fun e w' => e = .returned (.bool true) ∧ w' = w8) := Lib.hid (by
                obtain ⟨bs, bh, v, hd⟩ := HL8.out.dx
                have c4 := hd.c4
                rw [← HOE.out] at c4
                exact soff_any p _ w8 c4)
              clear hb8
              go_wp2_with fail
              refine HOF8.out.mono ?_
              rintro e w9 ⟨rfl, hw9⟩
              rw [hw9]
              clear hw9
              go_wp2_with fail
              go_meet
              exact ⟨Z7, D, Ss, HL8, HT⟩
            | false =>
              rcases HT.out with ⟨ho1, hpe1, _, S, P, rfl, hcl1, heq1⟩ | ⟨ho1, _⟩
              rotate_left
              · rw [← HOE.out] at ho1; cases ho1
              obtain rfl : S = S0 := by have := HS0.out; injection this
              have hSn : S.length = n := by have := HP6.out.len; rw [setP_len] at this; exact this
              have heqn := eqP_set heq1 hSn HLG.out
              have hhs : (headB l).size ≤ 512 := headB_size (fun p hp => by have := (HLG.out.1 p hp).1; omega) hl63
              have hleft := commit_left ho1 hpe1 (by rw [HL6.out.len]; omega) hcl1 hgd hl1 hl63 hhs (by obtain ⟨_, _, _, hd⟩ := HL6.out.dx; exact hd.ok.f1)
              unfold Left at hleft
              obtain ⟨D7, hD7⟩ : ∃ D7, D7 = (runD D (commitBs l)).1 := ⟨_, rfl⟩
              obtain ⟨ck, hck⟩ : ∃ ck, ck = (runD D (commitBs l)).2 := ⟨_, rfl⟩
              rw [← hD7, ← hck] at hleft hrun
              obtain ⟨hl7, hpl7, hc7⟩ := hleft
              have HLP := Lib.hid (And.intro (hl7.trans HL6.out.len) hpl7)
              have HEN := Lib.hid heqn
              have HEO := Lib.hid heq1
              clear hD7 hck hl7 hpl7 heqn hhs hl63 hl1 hgd hl0 hlp ho1 hpe1 hcl1 heq1 hSn hpl6
              rcases hc7 with ⟨rfl, ho7, hpe7, hcl7⟩ | ⟨rfl, ho7, hst7⟩
              · have hC := fun W hW => HCO.out W hW 0
                simp only [errS_zero] at hC hrun
                have HC := Lib.hid hC
                have HCN := Lib.hid hrun
                have HTS : Hid (ST n D7 [setP S l] (.pointer (some ⟨q, 0, none⟩))) := Lib.hid (.inl ⟨ho7, hpe7, ⟨q, rfl⟩, _, updP P l, rfl, hcl7, HEN.out⟩)
                clear hC hrun ho7 hpe7 hcl7
                go_wp2_with fail
                refine HCN.out.mono ?_
                rintro e w7 ⟨rfl, hd7⟩
                obtain ⟨Z7, hls7, hof7, hz7⟩ := HL6.out.postK hd7 HLP.out.1 HLP.out.2
                have HL7 := Lib.hid hls7
                have HP7 := Lib.hid (HP6.out.off hof7 HNW.out.1 HNW.out.2.1)
                have HNZ := Lib.hid (And.intro (hz7 _ HP6.out.alt HNW.out.1) (hz7 _ HP6.out.mp.lt HNW.out.2.1))
                have o27 := (hof7.cell (p := ⟨ob, 2, none⟩) (Nat.lt_of_lt_of_le HOL.out.1 HB6.out.size) HOL.out.2).trans o26
                clear hd7 hls7 hof7 hz7
                go_wp2_with fail
                refine (HC.out _ HL7.out.bel).mono ?_
                rintro e w8 ⟨rfl, hb8⟩
                have o28 := (hb8.cell (p := ⟨ob, 2, none⟩) (cell_lt o27)).trans o27
                have HLS := Lib.hid (((HL7.out.below hb8).more (show 63 * j ≤ 63 * (j + 1) by omega)).single (HP7.out.below hb8) HNZ.out.1 HNZ.out.2 HNW.out.2.2.1 HNW.out.2.2.2)
                clear hb8
                go_wp2_with fail
                go_meet
                exact ⟨Z7, D7, _, HLS, HTS⟩
              · have hC := fun W hW => HCO.out W hW 20
                simp only [errS_ne (show ¬ (20 : Int) = 0 by decide)] at hC hrun
                have HC := Lib.hid hC
                have HCN := Lib.hid hrun
                have HTS : Hid (ST n D7 [S, setP S l] (.pointer (some ⟨q, 0, none⟩))) := Lib.hid (.inr ⟨ho7, by simp, by simp, fun kp => by
                  obtain ⟨R, hR, hst⟩ := hst7 kp
                  rcases hR with rfl | rfl
                  · exact ⟨_, hst, S, by simp, HEO.out⟩
                  · exact ⟨_, hst, setP S l, by simp, HEN.out⟩⟩)
                have HO7 := Lib.hid ho7
                clear hC hrun ho7 hst7
                go_wp2_with fail
                refine HCN.out.mono ?_
                rintro e w7 ⟨rfl, hd7⟩
                obtain ⟨Z7, hls7, hof7, hz7⟩ := HL6.out.postK hd7 HLP.out.1 HLP.out.2
                have HL7 := Lib.hid hls7
                have HP7 := Lib.hid (HP6.out.off hof7 HNW.out.1 HNW.out.2.1)
                have HNZ := Lib.hid (And.intro (hz7 _ HP6.out.alt HNW.out.1) (hz7 _ HP6.out.mp.lt HNW.out.2.1))
                have o27 := (hof7.cell (p := ⟨ob, 2, none⟩) (Nat.lt_of_lt_of_le HOL.out.1 HB6.out.size) HOL.out.2).trans o26
                have HR7 := Lib.hid (((HRW0.out rfl).off (Off.of_below HB6.out) (Z := fun _ => False) (fun _ _ h => h)).off hof7 HNB.out)
                clear hd7 hls7 hof7 hz7
                go_wp2_with fail
                refine (HC.out _ HL7.out.bel).mono ?_
                rintro e w8 ⟨rfl, hb8⟩
                have o28 := (hb8.cell (p := ⟨ob, 2, none⟩) (cell_lt o27)).trans o27
                have HL8 := Lib.hid ((HL7.out.below hb8).more (show 63 * j ≤ 63 * (j + 1) by omega))
                have HP8 := Lib.hid (HP7.out.below hb8)
                have HR8 := Lib.hid (HR7.out.off (Off.of_below hb8) (Z := fun _ => False) (fun _ _ h => h))
                have HOF8 : Hid (Calls Tryz.prog 11 #[.pointer (some ⟨p, 0, none⟩)] w8 fun e w' => e = .returned (.bool true) ∧ w' = w8) := Lib.hid (by
                  obtain ⟨bs, bh, v, hd⟩ := HL8.out.dx
                  have c4 := hd.c4
                  rw [HO7.out] at c4
                  exact soff_any p _ w8 c4)
                clear hb8
                go_wp2_with fail
                refine HOF8.out.mono ?_
                rintro e w9 ⟨rfl, hw9⟩
                rw [hw9]
                clear hw9
                have hba : Below w8.heap.size w8 (w8.alloc (.cells #[.pointer (some ⟨a5, 0, none⟩)] 34)) := (Below.refl _ _).alloc (Nat.le_refl _) _
                have HBA := Lib.hid hba
                have hszw : w.heap.size ≤ (w8.alloc (.cells #[.pointer (some ⟨a5, 0, none⟩)] 34)).heap.size := Nat.le_trans HL8.out.bel.size hba.size
                have HRW := Lib.hid (HR8.out.off (Off.of_below hba) (Z := fun _ => False) (fun _ _ h => h))
                have HSRC := Lib.hid (src_new (P := Tryz.prog) (w := w8) (k := 1) Tryz.underlying36 [.pointer (some ⟨a5, 0, none⟩)] 1 34 1 rfl (fun u hu => by rw [List.mem_singleton] at hu; subst hu; rfl))
                clear hba
                go_wp2_with (at_builtin; refine wpList_append_row rfl (.tmp 118) (.tmp 120) 36 36 rfl 1 34 (.pointer none) 8 Tryz.underlying36 infoPp rfl w.heap.size (.slice (some ⟨bm, 0, none⟩) 1 mvc) 1 [.pointer (some ⟨a1, 0, none⟩)] (by simp [Act.eval]) HRW.out (.slice (some ⟨w8.heap.size, 0, none⟩) 1 1) (by simp [Act.eval]) 1 [.pointer (some ⟨a5, 0, none⟩)] HSRC.out hszw (by omega) (by decide) ?_; intro v10 w10 hr10 ho10 hob10; have HR10 := Lib.hid hr10; have HO10 := Lib.hid ho10; have HB10 := Lib.hid hob10; clear hr10 ho10 hob10)
                have HLS := Lib.hid (LS.grow (HL8.out.below HBA.out) HRW.out (HP8.out.below HBA.out) HNZ.out.1 HNZ.out.2 HNW.out.2.2.1 HNW.out.2.2.2 HR10.out HO10.out HB10.out)
                go_meet
                exact ⟨Z7, D7, _, HLS, HTS⟩
          have b0 : (what == (0 : Int)) = false := by rw [beq_eq_false_iff_ne]; exact h0
          by_cases h1 : what = 1
          · have b1 : (what == (1 : Int)) = true := by rw [beq_iff_eq]; exact h1
            have o1 : wz.cell? ⟨ob, 1, none⟩ = some (.int .i64 num) := HOC.out 1
            have HFU := Lib.hid (sfuelP wz num HL.out.dx (by omega))
            clear h0 h1
            go_wp2_with fail
            refine HFU.out.mono ?_
            rintro e w7 ⟨rfl, hd7⟩
            obtain ⟨Z7, hl7⟩ := HL.out.post hd7 HL.out.len HL.out.pl
            have HL7 := Lib.hid (hl7.more (show 63 * j ≤ 63 * (j + 1) by omega))
            have HT7 : Hid (ST n (fuelD D num) Ss u7) := Lib.hid HT.out
            clear hd7 hl7
            go_wp2_with fail
            go_meet
            exact ⟨Z7, _, Ss, HL7, HT7⟩
          have b1 : (what == (1 : Int)) = false := by rw [beq_eq_false_iff_ne]; exact h1
          by_cases h2 : what = 2
          · have b2 : (what == (2 : Int)) = true := by rw [beq_iff_eq]; exact h2
            as_aux_lemma =>
            have o1 : wz.cell? ⟨ob, 1, none⟩ = some (.int .i64 num) := HOC.out 1
            have o3 : wz.cell? ⟨ob, 3, none⟩ = some (.slice ka kl kc) := HOC.out 3
            obtain ⟨hs1, hs2, Pe, hste, Se, hSe, heqe⟩ := HT.out.fall (fun j => keep.getD j false)
            have HFA := Lib.hid (sfall_any keep (.slice ka kl kc) wz HL.out.dx (by have := HL.out.pl; omega) (HKV.out.below HL.out.bel) (rb_zed HKV.out HL.out.zb))
            have HSL := Lib.hid (And.intro hs1 hs2)
            have HSE := Lib.hid hSe
            have HEQ := Lib.hid heqe
            have HST9 := Lib.hid hste
            clear hste hSe heqe h0 h1 h2 hs1 hs2
            go_wp2_with fail
            refine HFA.out.mono ?_
            rintro e w7 ⟨rfl, hd7⟩
            obtain ⟨Z7, hl7, ho7, _⟩ := HL.out.postK hd7 (by show (sk _ _ _ _).length = _; rw [sk_len]; exact HL.out.len) (Nat.zero_le _)
            have o17 := (ho7.cell (p := ⟨ob, 1, none⟩) HOL.out.1 HOL.out.2).trans o1
            obtain ⟨D7, hD7⟩ : ∃ D7, D7 = fallD (fun j => keep.getD j false) D := ⟨_, rfl⟩
            rw [← hD7] at hl7
            have HD7 : Hid (D7.off = false ∧ D7.pend = [] ∧ StR D7.sure Pe) := Lib.hid (by rw [hD7]; exact ⟨rfl, rfl, HST9.out⟩)
            have HL7 := Lib.hid hl7
            clear hD7 hd7 ho7 hl7 o1 o3 HFA HST9
            by_cases hn0 : 0 ≤ num
            · by_cases hn2 : num ≤ 20
              · have HFU := Lib.hid (sfuelP w7 num HL7.out.dx (by omega))
                go_wp2_with fail
                refine HFU.out.mono ?_
                rintro e w8 ⟨rfl, hd8⟩
                obtain ⟨Z8, hl8⟩ := HL7.out.post hd8 HL7.out.len HL7.out.pl
                have HLQ := Lib.hid hl8
                have HDQ : Hid ((fuelD D7 num).off = false ∧ (fuelD D7 num).pend = [] ∧ StR (fuelD D7 num).sure Pe) := Lib.hid HD7.out
                clear hd8 hl8 HFU o17
                have HO := Lib.hid (openZ_any (P := Pe) HLQ.out.dx HDQ.out.1 HDQ.out.2.1 (by rw [HLQ.out.len]; omega) HDQ.out.2.2 (HE.out.below HLQ.out.bel))
                go_wp2_with fail
                refine HO.out.mono ?_
                rintro e w9 ⟨D9, hl9, hp9, hc9⟩
                have hlen9 : D9.sure.length = n + 64 := by rw [hl9]; exact HLQ.out.len
                rcases hc9 with ⟨q9, rfl, hop9, ho9, hpe9, hcl9⟩ | ⟨hf9, rfl, hpo9, ho9, hst9⟩
                rotate_left
                · obtain ⟨Z9, hls9⟩ := HLQ.out.post hpo9 hlen9 hp9
                  have HL9 := Lib.hid (hls9.bare.more (show 63 * j ≤ 63 * (j + 1) by omega))
                  have HT9 : Hid (ST n D9 Ss (.pointer none)) := Lib.hid (.inr ⟨ho9, HSL.out.1, HSL.out.2, fun kp => ⟨Pe, hst9 kp, Se, HSE.out, HEQ.out⟩⟩)
                  have hC := fun W hW => HCO.out W hW 20
                  simp only [errS_ne (show ¬ (20 : Int) = 0 by decide)] at hC ⊢
                  have HC := Lib.hid hC
                  have HOF9 : Hid (∀ W, Below w9.heap.size w9 W → Calls Tryz.prog 11 #[.pointer (some ⟨p, 0, none⟩)] W fun e w' => e = .returned (.bool true) ∧ w' = W) := Lib.hid (fun W hW => by
                    obtain ⟨bs, bh, dv, hdm⟩ := HL9.out.dx
                    have c4 := hdm.c4
                    rw [ho9] at c4
                    exact soff_any p true W ((hW.cell (p := ⟨p, 4, none⟩) hdm.lt).trans c4))
                  clear hls9 hC hl9 hp9 hlen9 hf9 hpo9 ho9 hst9
                  go_wp2_with fail
                  refine (HC.out _ HL9.out.bel).mono ?_
                  rintro e w10 ⟨rfl, hb10⟩
                  have HB10 := Lib.hid hb10
                  clear hb10
                  go_wp2_with fail
                  refine (HOF9.out _ HB10.out).mono ?_
                  rintro e w11 ⟨rfl, rfl⟩
                  go_wp2_with fail
                  exact ⟨⟨j + 1, Z9, D9, Ss, by go_num, by omega, by omega, Lib.hid (HL9.out.below HB10.out), HT9⟩, by simp [intOf]; omega⟩
                obtain ⟨Z9, hls9⟩ := HLQ.out.opened hop9 hlen9 hp9
                have HL9 := Lib.hid hls9
                have HSA : Hid (∀ W, Below w9.heap.size w9 W → ∀ (g a : Nat) (S : List ByteArray), ∀ mb, PR w9 a mb (63 * j) n S → Calls Tryz.prog 17 #[.pointer (some ⟨q9, 0, none⟩), .pointer (some ⟨a, 0, none⟩)] W fun e w' => ∃ r : Bool, e = .returned (.bool r) ∧ (r = true ↔ EqP Pe S n) ∧ Below W.heap.size W w') := Lib.hid (fun W hW g a S mb hp => rsame_any W (HL9.out.below hW).dr ho9 hpe9 hcl9 hlen9 hn40 (hp.below hW) (HG.out.below (HL9.out.below hW).bel))
                have HD9 := Lib.hid (And.intro ho9 (And.intro hpe9 hcl9))
                clear hop9 ho9 hpe9 hcl9 hl9 hp9 hlen9 hls9 HO
                go_wp2_with fail
                go_loopw [15, 167] (fun fv gv wk => ∃ (g : Nat) (f : Int), gv = .int .i64 (g : Nat) ∧ fv = .int .i64 f ∧ -1 ≤ f ∧ f < g ∧ g ≤ Ss.length ∧ Hid (Below w9.heap.size w9 wk) ∧ Hid (FoundP Pe Ss n g f)) (fun _ gv _ => Ss.length - (intOf gv).toNat)
                case atStart => exact ⟨0, -1, rfl, rfl, by omega, by omega, Nat.zero_le _, Lib.hid (Below.refl _ _), Lib.hid (.inl ⟨by omega, fun i S hi => by omega⟩)⟩
                case round =>
                  obtain ⟨g, f, rfl, rfl, hf1, hfg, hgs, HBK, HFP⟩ := hrel
                  obtain ⟨ps, hpl, hrow, _, hps⟩ := HL9.out.may
                  obtain ⟨bm, cm, hbm, _, hbml, hmc1, hmc2, _, hcell⟩ := hrow.pos (by have := HSL.out.1; omega)
                  injection hbm with hbm1 _ hbm3
                  subst hbm1; subst hbm3
                  unfold maxLen at hmc2
                  by_cases hgl : g < Ss.length
                  · obtain ⟨Sg, hSg⟩ : ∃ S, Ss[g]? = some S := ⟨Ss[g]'hgl, by simp⟩
                    obtain ⟨ag, hag⟩ : ∃ a, ps[g]? = some a := ⟨ps[g]'(by omega), by simp⟩
                    obtain ⟨mbg, hpg, _⟩ := hps g ag Sg hag hSg
                    have hcg := (HBK.out.cell (p := ⟨bm, g, none⟩) hbml).trans (hcell g (.pointer (some ⟨ag, 0, none⟩)) (by simp [ptrs, hag]))
                    have HSG := Lib.hid (HSA.out _ HBK.out g ag Sg mbg hpg)
                    have HSgi := Lib.hid hSg
                    have hgI : (g : Int) < (Ss.length : Int) := by omega
                    clear hag hpg hps hrow hcell hSg hpl
                    go_wp2_with fail
                    refine HSG.out.mono ?_
                    rintro e w12 ⟨rb, rfl, hrb, hb12⟩
                    have HRB := Lib.hid hrb
                    have HB12 := Lib.hid (HBK.out.trans (hb12.mono HBK.out.size))
                    clear hrb hb12
                    cases rb with
                    | true =>
                      have HFN := Lib.hid (found_hit HSgi.out (HRB.out.1 rfl))
                      go_wp2_with fail
                      exact ⟨⟨g + 1, (g : Int), by go_num, rfl, by omega, by omega, by omega, HB12, HFN⟩, by simp [intOf]; omega⟩
                    | false =>
                      have HFN := Lib.hid (found_miss HFP.out HSgi.out (fun h => by have := HRB.out.2 h; cases this))
                      go_wp2_with fail
                      exact ⟨⟨g + 1, f, by go_num, rfl, by omega, by omega, by omega, HB12, HFN⟩, by simp [intOf]; omega⟩
                  · have hgI : ¬ (g : Int) < (Ss.length : Int) := by omega
                    rcases HFP.out with ⟨hf, hno⟩ | ⟨fn, rfl, Sf, hSf, hEf⟩
                    · exfalso
                      obtain ⟨i, hi⟩ := List.getElem?_of_mem HSE.out
                      have hil := (List.getElem?_eq_some_iff.1 hi).1
                      exact hno i Se (by omega) hi HEQ.out
                    have hfl := (List.getElem?_eq_some_iff.1 hSf).1
                    obtain ⟨af, haf⟩ : ∃ a, ps[fn]? = some a := ⟨ps[fn]'(by omega), by simp⟩
                    obtain ⟨mbf, hpf, hza, hzm, hB1, hB2⟩ := hps fn af Sf haf hSf
                    have hcf := (HBK.out.cell (p := ⟨bm, fn, none⟩) hbml).trans (hcell fn (.pointer (some ⟨af, 0, none⟩)) (by simp [ptrs, haf]))
                    have HLS := Lib.hid (((HL9.out.below HBK.out).single (hpf.below HBK.out) hza hzm hB1 hB2).more (show 63 * j ≤ 63 * (j + 1) by omega))
                    have HTS : Hid (ST n D9 [Sf] (.pointer (some ⟨q9, 0, none⟩))) := Lib.hid (.inl ⟨HD9.out.1, HD9.out.2.1, ⟨q9, rfl⟩, Sf, Pe, rfl, HD9.out.2.2, hEf⟩)
                    have hfI : (fn : Int) < (Ss.length : Int) := by omega
                    clear hSf hEf haf hpf hza hzm hB1 hB2 hps hrow hcell hpl
                    go_wp2_with fail
                    go_meet
                    exact ⟨Z9, D9, [Sf], HLS, HTS⟩
              · have HLQ := HL7
                have HDQ := HD7
                have HO := Lib.hid (openZ_any (P := Pe) HLQ.out.dx HDQ.out.1 HDQ.out.2.1 (by rw [HLQ.out.len]; omega) HDQ.out.2.2 (HE.out.below HLQ.out.bel))
                go_wp2_with fail
                refine HO.out.mono ?_
                rintro e w9 ⟨D9, hl9, hp9, hc9⟩
                have hlen9 : D9.sure.length = n + 64 := by rw [hl9]; exact HLQ.out.len
                rcases hc9 with ⟨q9, rfl, hop9, ho9, hpe9, hcl9⟩ | ⟨hf9, rfl, hpo9, ho9, hst9⟩
                rotate_left
                · obtain ⟨Z9, hls9⟩ := HLQ.out.post hpo9 hlen9 hp9
                  have HL9 := Lib.hid (hls9.bare.more (show 63 * j ≤ 63 * (j + 1) by omega))
                  have HT9 : Hid (ST n D9 Ss (.pointer none)) := Lib.hid (.inr ⟨ho9, HSL.out.1, HSL.out.2, fun kp => ⟨Pe, hst9 kp, Se, HSE.out, HEQ.out⟩⟩)
                  have hC := fun W hW => HCO.out W hW 20
                  simp only [errS_ne (show ¬ (20 : Int) = 0 by decide)] at hC ⊢
                  have HC := Lib.hid hC
                  have HOF9 : Hid (∀ W, Below w9.heap.size w9 W → Calls Tryz.prog 11 #[.pointer (some ⟨p, 0, none⟩)] W fun e w' => e = .returned (.bool true) ∧ w' = W) := Lib.hid (fun W hW => by
                    obtain ⟨bs, bh, dv, hdm⟩ := HL9.out.dx
                    have c4 := hdm.c4
                    rw [ho9] at c4
                    exact soff_any p true W ((hW.cell (p := ⟨p, 4, none⟩) hdm.lt).trans c4))
                  clear hls9 hC hl9 hp9 hlen9 hf9 hpo9 ho9 hst9
                  go_wp2_with fail
                  refine (HC.out _ HL9.out.bel).mono ?_
                  rintro e w10 ⟨rfl, hb10⟩
                  have HB10 := Lib.hid hb10
                  clear hb10
                  go_wp2_with fail
                  refine (HOF9.out _ HB10.out).mono ?_
                  rintro e w11 ⟨rfl, rfl⟩
                  go_wp2_with fail
                  exact ⟨⟨j + 1, Z9, D9, Ss, by go_num, by omega, by omega, Lib.hid (HL9.out.below HB10.out), HT9⟩, by simp [intOf]; omega⟩
                obtain ⟨Z9, hls9⟩ := HLQ.out.opened hop9 hlen9 hp9
                have HL9 := Lib.hid hls9
                have HSA : Hid (∀ W, Below w9.heap.size w9 W → ∀ (g a : Nat) (S : List ByteArray), ∀ mb, PR w9 a mb (63 * j) n S → Calls Tryz.prog 17 #[.pointer (some ⟨q9, 0, none⟩), .pointer (some ⟨a, 0, none⟩)] W fun e w' => ∃ r : Bool, e = .returned (.bool r) ∧ (r = true ↔ EqP Pe S n) ∧ Below W.heap.size W w') := Lib.hid (fun W hW g a S mb hp => rsame_any W (HL9.out.below hW).dr ho9 hpe9 hcl9 hlen9 hn40 (hp.below hW) (HG.out.below (HL9.out.below hW).bel))
                have HD9 := Lib.hid (And.intro ho9 (And.intro hpe9 hcl9))
                clear hop9 ho9 hpe9 hcl9 hl9 hp9 hlen9 hls9 HO
                go_wp2_with fail
                go_loopw [15, 167] (fun fv gv wk => ∃ (g : Nat) (f : Int), gv = .int .i64 (g : Nat) ∧ fv = .int .i64 f ∧ -1 ≤ f ∧ f < g ∧ g ≤ Ss.length ∧ Hid (Below w9.heap.size w9 wk) ∧ Hid (FoundP Pe Ss n g f)) (fun _ gv _ => Ss.length - (intOf gv).toNat)
                case atStart => exact ⟨0, -1, rfl, rfl, by omega, by omega, Nat.zero_le _, Lib.hid (Below.refl _ _), Lib.hid (.inl ⟨by omega, fun i S hi => by omega⟩)⟩
                case round =>
                  obtain ⟨g, f, rfl, rfl, hf1, hfg, hgs, HBK, HFP⟩ := hrel
                  obtain ⟨ps, hpl, hrow, _, hps⟩ := HL9.out.may
                  obtain ⟨bm, cm, hbm, _, hbml, hmc1, hmc2, _, hcell⟩ := hrow.pos (by have := HSL.out.1; omega)
                  injection hbm with hbm1 _ hbm3
                  subst hbm1; subst hbm3
                  unfold maxLen at hmc2
                  by_cases hgl : g < Ss.length
                  · obtain ⟨Sg, hSg⟩ : ∃ S, Ss[g]? = some S := ⟨Ss[g]'hgl, by simp⟩
                    obtain ⟨ag, hag⟩ : ∃ a, ps[g]? = some a := ⟨ps[g]'(by omega), by simp⟩
                    obtain ⟨mbg, hpg, _⟩ := hps g ag Sg hag hSg
                    have hcg := (HBK.out.cell (p := ⟨bm, g, none⟩) hbml).trans (hcell g (.pointer (some ⟨ag, 0, none⟩)) (by simp [ptrs, hag]))
                    have HSG := Lib.hid (HSA.out _ HBK.out g ag Sg mbg hpg)
                    have HSgi := Lib.hid hSg
                    have hgI : (g : Int) < (Ss.length : Int) := by omega
                    clear hag hpg hps hrow hcell hSg hpl
                    go_wp2_with fail
                    refine HSG.out.mono ?_
                    rintro e w12 ⟨rb, rfl, hrb, hb12⟩
                    have HRB := Lib.hid hrb
                    have HB12 := Lib.hid (HBK.out.trans (hb12.mono HBK.out.size))
                    clear hrb hb12
                    cases rb with
                    | true =>
                      have HFN := Lib.hid (found_hit HSgi.out (HRB.out.1 rfl))
                      go_wp2_with fail
                      exact ⟨⟨g + 1, (g : Int), by go_num, rfl, by omega, by omega, by omega, HB12, HFN⟩, by simp [intOf]; omega⟩
                    | false =>
                      have HFN := Lib.hid (found_miss HFP.out HSgi.out (fun h => by have := HRB.out.2 h; cases this))
                      go_wp2_with fail
                      exact ⟨⟨g + 1, f, by go_num, rfl, by omega, by omega, by omega, HB12, HFN⟩, by simp [intOf]; omega⟩
                  · have hgI : ¬ (g : Int) < (Ss.length : Int) := by omega
                    rcases HFP.out with ⟨hf, hno⟩ | ⟨fn, rfl, Sf, hSf, hEf⟩
                    · exfalso
                      obtain ⟨i, hi⟩ := List.getElem?_of_mem HSE.out
                      have hil := (List.getElem?_eq_some_iff.1 hi).1
                      exact hno i Se (by omega) hi HEQ.out
                    have hfl := (List.getElem?_eq_some_iff.1 hSf).1
                    obtain ⟨af, haf⟩ : ∃ a, ps[fn]? = some a := ⟨ps[fn]'(by omega), by simp⟩
                    obtain ⟨mbf, hpf, hza, hzm, hB1, hB2⟩ := hps fn af Sf haf hSf
                    have hcf := (HBK.out.cell (p := ⟨bm, fn, none⟩) hbml).trans (hcell fn (.pointer (some ⟨af, 0, none⟩)) (by simp [ptrs, haf]))
                    have HLS := Lib.hid (((HL9.out.below HBK.out).single (hpf.below HBK.out) hza hzm hB1 hB2).more (show 63 * j ≤ 63 * (j + 1) by omega))
                    have HTS : Hid (ST n D9 [Sf] (.pointer (some ⟨q9, 0, none⟩))) := Lib.hid (.inl ⟨HD9.out.1, HD9.out.2.1, ⟨q9, rfl⟩, Sf, Pe, rfl, HD9.out.2.2, hEf⟩)
                    have hfI : (fn : Int) < (Ss.length : Int) := by omega
                    clear hSf hEf haf hpf hza hzm hB1 hB2 hps hrow hcell hpl
                    go_wp2_with fail
                    go_meet
                    exact ⟨Z9, D9, [Sf], HLS, HTS⟩
            · have HLQ := HL7
              have HDQ := HD7
              have HO := Lib.hid (openZ_any (P := Pe) HLQ.out.dx HDQ.out.1 HDQ.out.2.1 (by rw [HLQ.out.len]; omega) HDQ.out.2.2 (HE.out.below HLQ.out.bel))
              go_wp2_with fail
              refine HO.out.mono ?_
              rintro e w9 ⟨D9, hl9, hp9, hc9⟩
              have hlen9 : D9.sure.length = n + 64 := by rw [hl9]; exact HLQ.out.len
              rcases hc9 with ⟨q9, rfl, hop9, ho9, hpe9, hcl9⟩ | ⟨hf9, rfl, hpo9, ho9, hst9⟩
              rotate_left
              · obtain ⟨Z9, hls9⟩ := HLQ.out.post hpo9 hlen9 hp9
                have HL9 := Lib.hid (hls9.bare.more (show 63 * j ≤ 63 * (j + 1) by omega))
                have HT9 : Hid (ST n D9 Ss (.pointer none)) := Lib.hid (.inr ⟨ho9, HSL.out.1, HSL.out.2, fun kp => ⟨Pe, hst9 kp, Se, HSE.out, HEQ.out⟩⟩)
                have hC := fun W hW => HCO.out W hW 20
                simp only [errS_ne (show ¬ (20 : Int) = 0 by decide)] at hC ⊢
                have HC := Lib.hid hC
                have HOF9 : Hid (∀ W, Below w9.heap.size w9 W → Calls Tryz.prog 11 #[.pointer (some ⟨p, 0, none⟩)] W fun e w' => e = .returned (.bool true) ∧ w' = W) := Lib.hid (fun W hW => by
                  obtain ⟨bs, bh, dv, hdm⟩ := HL9.out.dx
                  have c4 := hdm.c4
                  rw [ho9] at c4
                  exact soff_any p true W ((hW.cell (p := ⟨p, 4, none⟩) hdm.lt).trans c4))
                clear hls9 hC hl9 hp9 hlen9 hf9 hpo9 ho9 hst9
                go_wp2_with fail
                refine (HC.out _ HL9.out.bel).mono ?_
                rintro e w10 ⟨rfl, hb10⟩
                have HB10 := Lib.hid hb10
                clear hb10
                go_wp2_with fail
                refine (HOF9.out _ HB10.out).mono ?_
                rintro e w11 ⟨rfl, rfl⟩
                go_wp2_with fail
                exact ⟨⟨j + 1, Z9, D9, Ss, by go_num, by omega, by omega, Lib.hid (HL9.out.below HB10.out), HT9⟩, by simp [intOf]; omega⟩
              obtain ⟨Z9, hls9⟩ := HLQ.out.opened hop9 hlen9 hp9
              have HL9 := Lib.hid hls9
              have HSA : Hid (∀ W, Below w9.heap.size w9 W → ∀ (g a : Nat) (S : List ByteArray), ∀ mb, PR w9 a mb (63 * j) n S → Calls Tryz.prog 17 #[.pointer (some ⟨q9, 0, none⟩), .pointer (some ⟨a, 0, none⟩)] W fun e w' => ∃ r : Bool, e = .returned (.bool r) ∧ (r = true ↔ EqP Pe S n) ∧ Below W.heap.size W w') := Lib.hid (fun W hW g a S mb hp => rsame_any W (HL9.out.below hW).dr ho9 hpe9 hcl9 hlen9 hn40 (hp.below hW) (HG.out.below (HL9.out.below hW).bel))
              have HD9 := Lib.hid (And.intro ho9 (And.intro hpe9 hcl9))
              clear hop9 ho9 hpe9 hcl9 hl9 hp9 hlen9 hls9 HO
              go_wp2_with fail
              go_loopw [15, 167] (fun fv gv wk => ∃ (g : Nat) (f : Int), gv = .int .i64 (g : Nat) ∧ fv = .int .i64 f ∧ -1 ≤ f ∧ f < g ∧ g ≤ Ss.length ∧ Hid (Below w9.heap.size w9 wk) ∧ Hid (FoundP Pe Ss n g f)) (fun _ gv _ => Ss.length - (intOf gv).toNat)
              case atStart => exact ⟨0, -1, rfl, rfl, by omega, by omega, Nat.zero_le _, Lib.hid (Below.refl _ _), Lib.hid (.inl ⟨by omega, fun i S hi => by omega⟩)⟩
              case round =>
                obtain ⟨g, f, rfl, rfl, hf1, hfg, hgs, HBK, HFP⟩ := hrel
                obtain ⟨ps, hpl, hrow, _, hps⟩ := HL9.out.may
                obtain ⟨bm, cm, hbm, _, hbml, hmc1, hmc2, _, hcell⟩ := hrow.pos (by have := HSL.out.1; omega)
                injection hbm with hbm1 _ hbm3
                subst hbm1; subst hbm3
                unfold maxLen at hmc2
                by_cases hgl : g < Ss.length
                · obtain ⟨Sg, hSg⟩ : ∃ S, Ss[g]? = some S := ⟨Ss[g]'hgl, by simp⟩
                  obtain ⟨ag, hag⟩ : ∃ a, ps[g]? = some a := ⟨ps[g]'(by omega), by simp⟩
                  obtain ⟨mbg, hpg, _⟩ := hps g ag Sg hag hSg
                  have hcg := (HBK.out.cell (p := ⟨bm, g, none⟩) hbml).trans (hcell g (.pointer (some ⟨ag, 0, none⟩)) (by simp [ptrs, hag]))
                  have HSG := Lib.hid (HSA.out _ HBK.out g ag Sg mbg hpg)
                  have HSgi := Lib.hid hSg
                  have hgI : (g : Int) < (Ss.length : Int) := by omega
                  clear hag hpg hps hrow hcell hSg hpl
                  go_wp2_with fail
                  refine HSG.out.mono ?_
                  rintro e w12 ⟨rb, rfl, hrb, hb12⟩
                  have HRB := Lib.hid hrb
                  have HB12 := Lib.hid (HBK.out.trans (hb12.mono HBK.out.size))
                  clear hrb hb12
                  cases rb with
                  | true =>
                    have HFN := Lib.hid (found_hit HSgi.out (HRB.out.1 rfl))
                    go_wp2_with fail
                    exact ⟨⟨g + 1, (g : Int), by go_num, rfl, by omega, by omega, by omega, HB12, HFN⟩, by simp [intOf]; omega⟩
                  | false =>
                    have HFN := Lib.hid (found_miss HFP.out HSgi.out (fun h => by have := HRB.out.2 h; cases this))
                    go_wp2_with fail
                    exact ⟨⟨g + 1, f, by go_num, rfl, by omega, by omega, by omega, HB12, HFN⟩, by simp [intOf]; omega⟩
                · have hgI : ¬ (g : Int) < (Ss.length : Int) := by omega
                  rcases HFP.out with ⟨hf, hno⟩ | ⟨fn, rfl, Sf, hSf, hEf⟩
                  · exfalso
                    obtain ⟨i, hi⟩ := List.getElem?_of_mem HSE.out
                    have hil := (List.getElem?_eq_some_iff.1 hi).1
                    exact hno i Se (by omega) hi HEQ.out
                  have hfl := (List.getElem?_eq_some_iff.1 hSf).1
                  obtain ⟨af, haf⟩ : ∃ a, ps[fn]? = some a := ⟨ps[fn]'(by omega), by simp⟩
                  obtain ⟨mbf, hpf, hza, hzm, hB1, hB2⟩ := hps fn af Sf haf hSf
                  have hcf := (HBK.out.cell (p := ⟨bm, fn, none⟩) hbml).trans (hcell fn (.pointer (some ⟨af, 0, none⟩)) (by simp [ptrs, haf]))
                  have HLS := Lib.hid (((HL9.out.below HBK.out).single (hpf.below HBK.out) hza hzm hB1 hB2).more (show 63 * j ≤ 63 * (j + 1) by omega))
                  have HTS : Hid (ST n D9 [Sf] (.pointer (some ⟨q9, 0, none⟩))) := Lib.hid (.inl ⟨HD9.out.1, HD9.out.2.1, ⟨q9, rfl⟩, Sf, Pe, rfl, HD9.out.2.2, hEf⟩)
                  have hfI : (fn : Int) < (Ss.length : Int) := by omega
                  clear hSf hEf haf hpf hza hzm hB1 hB2 hps hrow hcell hpl
                  go_wp2_with fail
                  go_meet
                  exact ⟨Z9, D9, [Sf], HLS, HTS⟩
          have b2 : (what == (2 : Int)) = false := by rw [beq_eq_false_iff_ne]; exact h2
          have HL7 := Lib.hid (HL.out.more (show 63 * j ≤ 63 * (j + 1) by omega))
          clear h0 h1 h2
          go_wp2_with fail
          go_meet
          exact ⟨Z, D, Ss, HL7, HT⟩
        case rest =>
          as_aux_lemma =>
          obtain ⟨Z1, D1, S1, HL1, HT1⟩ := hcut
          obtain ⟨mvb, mvd, hmv1⟩ : ∃ a c, u8 = .slice a S1.length c := by
            obtain ⟨ps, _, h2, _⟩ := HL1.out.may
            exact h2.form
          subst hmv1
          obtain ⟨of, hof⟩ : ∃ of, of = D1.off := ⟨_, rfl⟩
          have HOF : Hid (Calls Tryz.prog 11 #[.pointer (some ⟨p, 0, none⟩)] wc fun e w' => e = .returned (.bool of) ∧ w' = wc) := Lib.hid (by
            obtain ⟨bs, bh, v, hd⟩ := HL1.out.dx
            rw [hof]
            exact soff_any p _ wc hd.c4)
          have HOE := Lib.hid hof
          have HLN := Lib.hid (HL1.out.more (show 63 * (j + 1) ≤ 63 * (j + 1) from Nat.le_refl _))
          clear hof
          cases of with
          | true =>
            go_wp2_with fail
            refine HOF.out.mono ?_
            rintro e w8 ⟨rfl, rfl⟩
            go_wp2_with fail
            exact ⟨⟨j + 1, Z1, D1, S1, by go_num, by omega, by omega, HL1, HT1⟩, by simp [intOf]; omega⟩
          | false =>
            rcases HT1.out with ⟨ho1, hp1, ⟨q1, hq1⟩, S, P, rfl, hc1, he1⟩ | ⟨ho1, _⟩
            rotate_left
            · rw [← HOE.out] at ho1; cases ho1
            subst hq1
            obtain ⟨ps, hpl, hrow, _, hps⟩ := HL1.out.may
            obtain ⟨a1, ha1⟩ : ∃ a, ps[0]? = some a := ⟨ps[0]'(by rw [hpl]; simp), by simp⟩
            obtain ⟨mb1, hp1', _⟩ := hps 0 a1 S ha1 rfl
            obtain ⟨bm, cm, hbm, _, hbml, hmc1, hmc2, _, hcell⟩ := hrow.pos (by simp)
            injection hbm with hbm1 _ hbm3
            subst hbm1; subst hbm3
            have hcg := hcell 0 (.pointer (some ⟨a1, 0, none⟩)) (by simp [ptrs, ha1])
            have HSM1 := Lib.hid (rsame_any wc HL1.out.dr ho1 hp1 hc1 HL1.out.len hn40 hp1' (HG.out.below HL1.out.bel))
            have HEQ1 := Lib.hid he1
            unfold maxLen at hmc2
            simp only [List.length_singleton] at hmc1
            clear ho1 hp1 hc1 he1 ha1 hpl hrow hps hp1' hcell
            go_wp2_with fail
            refine HOF.out.mono ?_
            rintro e w8 ⟨rfl, rfl⟩
            go_wp2_with fail
            refine HSM1.out.mono ?_
            rintro e w9 ⟨r9, rfl, hr9, hb9⟩
            have hrt : r9 = true := hr9.2 HEQ1.out
            subst hrt
            have HL9 := Lib.hid (HL1.out.below hb9)
            clear hr9 hb9
            go_wp2_with fail
            exact ⟨⟨j + 1, Z1, D1, [S], by go_num, by omega, by omega, HL9, HT1⟩, by simp [intOf]; omega⟩
      · have hltI : ¬ (j : Int) < (m : Int) := by omega
        have HL := HLS
        have HT := HST
        clear HLS HST
        obtain ⟨_, _, Pe, hste, Se, hSe, heqe⟩ := HT.out.fall (fun j => ([] : List Bool).getD j false)
        have HFA := Lib.hid (sfall_any [] (.slice none 0 0) _ HL.out.dx (by have := HL.out.pl; omega) (RB.nil _) (fun h => absurd rfl h))
        have HSE := Lib.hid hSe
        have HEQ := Lib.hid heqe
        have HST9 := Lib.hid hste
        clear hste hSe heqe
        go_wp2_with fail
        refine HFA.out.mono ?_
        rintro e w20 ⟨rfl, hd20⟩
        obtain ⟨Z20, hl20⟩ := HL.out.post hd20 (by show (sk _ _ _ _).length = _; rw [sk_len]; exact HL.out.len) (Nat.zero_le _)
        have HL20 := Lib.hid hl20
        have HO20 := Lib.hid (openZ_any (P := Pe) hl20.dx rfl rfl (by rw [hl20.len]; omega) HST9.out (HE.out.below hl20.bel))
        clear hd20 hl20 HFA
        go_wp2_with fail
        refine HO20.out.mono ?_
        rintro e w21 ⟨D21, hl21, hp21, hc21⟩
        rcases hc21 with ⟨q21, rfl, hop21, ho21, hpe21, hcl21⟩ | ⟨hf21, _⟩
        rotate_left
        · exfalso
          have : (0 : Int) ≤ -1 := hf21
          omega
        have hlen21 : D21.sure.length = n + 64 := by rw [hl21]; exact HL20.out.len
        obtain ⟨Z21, hls21⟩ := HL20.out.opened hop21 hlen21 hp21
        have HL21 := Lib.hid hls21
        have HSA : Hid (∀ W, Below w21.heap.size w21 W → ∀ (g a : Nat) (S : List ByteArray), ∀ mb, PR w21 a mb (63 * j) n S → Calls Tryz.prog 17 #[.pointer (some ⟨q21, 0, none⟩), .pointer (some ⟨a, 0, none⟩)] W fun e w' => ∃ r : Bool, e = .returned (.bool r) ∧ (r = true ↔ EqP Pe S n) ∧ Below W.heap.size W w') := Lib.hid (fun W hW g a S mb hp => rsame_any W (HL21.out.below hW).dr ho21 hpe21 hcl21 hlen21 hn40 (hp.below hW) (HG.out.below (HL21.out.below hW).bel))
        clear hop21 ho21 hpe21 hcl21 hl21 hp21 hlen21 hls21 HO20 HL20
        go_wp2_with fail
        go_loopw [216] (fun gv wk => ∃ g : Nat, gv = .int .i64 (g : Nat) ∧ g ≤ Ss.length ∧ Hid (Below w21.heap.size w21 wk) ∧ Hid (∀ i S, i < g → Ss[i]? = some S → ¬ EqP Pe S n)) (fun gv _ => Ss.length - (intOf gv).toNat)
        case atStart => exact ⟨0, rfl, Nat.zero_le _, Lib.hid (Below.refl _ _), Lib.hid (fun i S hi => by omega)⟩
        case round =>
          obtain ⟨g, rfl, hgs, HBK, HNO⟩ := hrel
          by_cases hgl : g < Ss.length
          · obtain ⟨Sg, hSg⟩ : ∃ S, Ss[g]? = some S := ⟨Ss[g]'hgl, by simp⟩
            obtain ⟨ps, hpl, hrow, _, hps⟩ := HL21.out.may
            obtain ⟨ag, hag⟩ : ∃ a, ps[g]? = some a := ⟨ps[g]'(by omega), by simp⟩
            obtain ⟨mbg, hpg, _⟩ := hps g ag Sg hag hSg
            obtain ⟨bm, cm, hbm, _, hbml, hmc1, hmc2, _, hcell⟩ := hrow.pos (by omega)
            injection hbm with hbm1 _ hbm3
            subst hbm1; subst hbm3
            have hcg := (HBK.out.cell (p := ⟨bm, g, none⟩) hbml).trans (hcell g (.pointer (some ⟨ag, 0, none⟩)) (by simp [ptrs, hag]))
            have HSG := Lib.hid (HSA.out _ HBK.out g ag Sg mbg hpg)
            have HSgi := Lib.hid hSg
            have hgI : (g : Int) < (Ss.length : Int) := by omega
            unfold maxLen at hmc2
            clear hag hpg hps hrow hcell hSg
            go_wp2_with fail
            refine HSG.out.mono ?_
            rintro e w22 ⟨rb, rfl, hrb, hb22⟩
            have HRB := Lib.hid hrb
            have HB22 := Lib.hid (HBK.out.trans (hb22.mono HBK.out.size))
            clear hrb hb22
            cases rb with
            | true =>
              go_wp2_with fail
              go_ret
              exact ⟨rfl, HL21.out.bel.trans (HB22.out.mono HL21.out.bel.size)⟩
            | false =>
              have HNX : Hid (∀ i S, i < g + 1 → Ss[i]? = some S → ¬ EqP Pe S n) := Lib.hid (fun i S hi hS => by
                by_cases e : i < g
                · exact HNO.out i S e hS
                · have : i = g := by omega
                  subst this
                  rw [HSgi.out] at hS
                  injection hS with hS
                  subst hS
                  intro h
                  have := HRB.out.2 h
                  cases this)
              go_wp2_with fail
              exact ⟨⟨g + 1, by go_num, by omega, HB22, HNX⟩, by simp [intOf]; omega⟩
          · exfalso
            obtain ⟨i, hi⟩ := List.getElem?_of_mem HSE.out
            have hil := (List.getElem?_eq_some_iff.1 hi).1
            exact HNO.out i Se (by omega) hi HEQ.out
end Go.Proofs.YthamfbfeokmhgaaGreatDoor
