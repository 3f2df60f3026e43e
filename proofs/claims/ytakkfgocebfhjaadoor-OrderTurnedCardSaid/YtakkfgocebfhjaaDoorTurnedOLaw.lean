/- OrderTurned: its walk. -/
import Derived.Test.YtakkfgocebfhjaaDoorTurnM
import Derived.Test.YtakkfgocebfhjaaDoorSmallL
import Derived.Test.YtakkfgocebfhjaaDoorAwakeO
import Derived.Test.YtakkfgocebfhjaaDoorOffW
import Derived.Test.YtakkfgocebfhjaaDoorCode
import Derived.Test.YtakkfgocebfhjaaDoorEls
set_option linter.unusedVariables false
namespace Go.Proofs.YtakkfgocebfhjaaDoor
open Go.ChangeShapes Go.WideShapes Go.ChangeAt Go.RowKit

theorem rem_place6 (x : Int) {n : Nat} (hn : 0 < n) : ∃ r : Int, ∃ j : Nat, x.tmod (n : Int) = r ∧ -(n : Int) < r ∧ r < n ∧ (r + n).tmod (n : Int) = (j : Int) ∧ j < n := by
  refine ⟨_, ((x.tmod n + n).tmod n).toNat, rfl, Int.lt_tmod_of_pos _ (by omega), Int.tmod_lt_of_pos _ (by omega), ?_, ?_⟩
  · have h1 := Int.lt_tmod_of_pos x (show (0 : Int) < n by omega)
    have : 0 ≤ (x.tmod n + n).tmod n := Int.tmod_nonneg _ (by omega)
    omega
  · have h1 := Int.lt_tmod_of_pos x (show (0 : Int) < n by omega)
    have h2 : 0 ≤ (x.tmod n + n).tmod n := Int.tmod_nonneg _ (by omega)
    have h3 := Int.tmod_lt_of_pos (x.tmod n + n) (show (0 : Int) < n by omega)
    omega
theorem code_any (k : Int) (w : World) (hg : HasErr w) : Calls Tryd.prog 12 #[errV k] w fun e w' => e = .returned (.int .i64 k) ∧ Below w.heap.size w w' := by
  by_cases h : k = 0
  · subst h
    exact (code_nil w).mono fun e w' ⟨h1, h2⟩ => ⟨h1, h2 ▸ Below.refl _ _⟩
  · unfold errV
    rw [if_neg h]
    exact code_errno k w hg
theorem same_eq {xs ys : Lb} (h : xs = ys) (v v' : Value) (w : World) (hx : Reads w v xs) (hy : Reads w v' ys) : Calls Tryd.prog 11 #[v, v'] w fun e w' => e = .returned (.bool true) ∧ Below w.heap.size w w' := by
  have := same_any xs ys v v' w hx hy
  rwa [decide_eq_true h] at this
set_option maxHeartbeats 1000000 in
set_option maxRecDepth 100000 in
theorem turned_law (S : SetB) (v : Value) (x : Int) (nm : ByteArray) (w : World) (hS : SReads w v S) (hD : ∀ p ∈ S, p.2.length ≤ 140737488355328) (hn9 : S.length ≤ 140737488355328) (hE : HasErr w) :
    Calls Tryd.prog 4 #[v, .int .i64 x, .string nm] w fun e w' => e = .returned (.bool true) ∧ Below w.heap.size w w' := by
  obtain ⟨sa, sc, rfl, _⟩ := hS.form
  obtain ⟨n, hnn⟩ : ∃ n, n = S.length := ⟨_, rfl⟩
  rw [← hnn] at hS hn9 ⊢
  have HS := Lib.hid hS
  have HN := Lib.hid hnn
  have HD := Lib.hid hD
  have HE := Lib.hid hE
  have HAW := Lib.hid (awake_any w)
  clear hS hnn hD hE
  go_enter Tryd.func4, Tryd.ntmps4
  go_wp2_with fail
  refine HAW.out.mono ?_
  rintro e w2 ⟨rfl, hb2⟩
  have HB2 := Lib.hid hb2
  have HSM := Lib.hid (small_any S (.slice sa n sc) w2 (HS.out.below hb2) HD.out (by rw [← HN.out]; exact hn9))
  clear hb2
  by_cases hn0 : n = 0
  · subst hn0
    go_wp2_with fail
    go_ret
    exact ⟨rfl, HB2.out⟩
  · have hnb : ((n : Int) == (0 : Int)) = false := by rw [beq_eq_false_iff_ne]; omega
    have hnz : ¬ (n : Int) = 0 := by omega
    go_wp2_with fail
    refine HSM.out.mono ?_
    rintro e w3 ⟨b, rfl, hsm, hb3⟩
    have HB3 := Lib.hid (HB2.out.trans (hb3.mono HB2.out.size))
    clear hb3
    cases b with
    | false =>
      clear hsm
      go_wp2_with fail
      go_ret
      exact ⟨rfl, HB3.out⟩
    | true =>
      have HSS := Lib.hid (hsm.1 rfl)
      have hn60 : n ≤ 60 := by rw [HN.out]; exact HSS.out.1
      obtain ⟨r, k, hr, hr1, hr2, hk, hkn⟩ := rem_place6 x (show 0 < n by omega)
      clear hsm
      go_wp2_with fail
      go_loopw [8, 9] (fun ov jv wr => ∃ (t : Nat) (q : Int) (els : List El), jv = .int .i64 q ∧ t ≤ n ∧ Hid (q = (n : Int) - 1 - (t : Int)) ∧ -1 ≤ q ∧ q < 60 ∧ Hid (t = els.length) ∧ Hid (Row 4 w3.heap.size wr ov t (els.flatMap El.cells)) ∧ Hid (els.map El.key = turnS S k t) ∧ Hid (∀ y ∈ els, Reads w (.slice y.da y.deps.length y.dc) y.deps) ∧ Hid (Below w3.heap.size w3 wr)) (fun _ jv _ => (intOf jv + 1).toNat)
      case atStart => exact ⟨0, (n : Int) - 1, [], rfl, Nat.zero_le _, Lib.hid (by omega), by omega, by omega, Lib.hid rfl, Lib.hid (Row.nil _ _ _), Lib.hid rfl, Lib.hid (by simp), Lib.hid (Below.refl _ _)⟩
      case round =>
        obtain ⟨t, q, els, rfl, htn, HQ, hq1, hq2, HM, HW, HK, HEL, HB⟩ := hrel
        obtain ⟨oa0, oc0, rfl⟩ := HW.out.form
        have hbw := HB3.out.trans (HB.out.mono HB3.out.size)
        have HBW := Lib.hid hbw
        by_cases hlt : t < n
        · obtain ⟨i, hi⟩ : ∃ i : Nat, q = (i : Int) := ⟨q.toNat, by have := HQ.out; omega⟩
          subst hi
          have hin : i < n := by have := HQ.out; omega
          obtain ⟨ix, hix⟩ : ∃ ix, ix = (i + k) % n := ⟨_, rfl⟩
          have hixn : ix < n := by rw [hix]; exact Nat.mod_lt _ (by omega)
          have him : ((i : Int) + (k : Int)).tmod (n : Int) = (ix : Int) := by
            rw [Int.tmod_eq_emod_of_nonneg (by omega), hix]
            exact (by omega : ((i : Int) + (k : Int)) = ((i + k : Nat) : Int)) ▸ (Int.natCast_emod (i + k) n).symm
          obtain ⟨p, hp⟩ : ∃ p, S[ix]? = some p := ⟨S[ix]'(by rw [← HN.out]; exact hixn), by simp⟩
          have hst := turnS_step (S := S) (k := k) (t := t) (p := p) (by
            have e : (S.length - 1 - t + k) % S.length = ix := by rw [← HN.out, hix]; congr 2; have := HQ.out; omega
            rw [e]; exact hp)
          obtain ⟨sb, so, rfl, hsl, hat⟩ := HS.out.at hp
          obtain ⟨nm2, deps⟩ := p
          obtain ⟨nt, dv, oa, ol, oc, c0, c1, c2, c3, hdr⟩ := hat
          obtain ⟨da, dc, hdv, _⟩ := hdr.form
          simp only at hdv hst c0 hdr
          subst hdv
          obtain ⟨dl, hdl⟩ : ∃ dl, dl = deps.length := ⟨_, rfl⟩
          rw [← hdl] at c2
          have d0 := (hbw.cell (p := ⟨sb, so + ix * 4, none⟩) hsl).trans c0
          have d1 := (hbw.cell (p := ⟨sb, so + ix * 4 + 1, none⟩) hsl).trans c1
          have d2 := (hbw.cell (p := ⟨sb, so + ix * 4 + 2, none⟩) hsl).trans c2
          have d3 := (hbw.cell (p := ⟨sb, so + ix * 4 + 3, none⟩) hsl).trans c3
          have HST := Lib.hid hst
          have HDR := Lib.hid hdr
          have HDL := Lib.hid hdl
          have hsrc : Src Tryd.prog 4 22 (.slice (some ⟨wr.heap.size, 0, none⟩) 1 1) 1 [.string nm2, .string nt, .slice da dl dc, .slice oa ol oc] (wr.alloc (.cells #[.string nm2, .string nt, .slice da dl dc, .slice oa ol oc] 44)) := src_new Tryd.underlying22 [.string nm2, .string nt, .slice da dl dc, .slice oa ol oc] 1 44 1 rfl (by intro u hu; simp only [List.mem_cons, List.not_mem_nil, or_false] at hu; rcases hu with rfl | rfl | rfl | rfl <;> rfl)
          have HSRC := Lib.hid hsrc
          have HRA := Lib.hid (HW.out.alloc (.cells #[.string nm2, .string nt, .slice da dl dc, .slice oa ol oc] 44))
          have hszw : w3.heap.size ≤ (wr.alloc (.cells #[.string nm2, .string nt, .slice da dl dc, .slice oa ol oc] 44)).heap.size := by have := HB.out.size; simp; omega
          have hc : El.cells ⟨nm2, nt, da, dc, oa, ol, oc, deps⟩ = [.string nm2, .string nt, .slice da dl dc, .slice oa ol oc] := by unfold El.cells; rw [hdl]
          have HC := Lib.hid hc
          clear hst hdr hdl hsrc hp hix c0 c1 c2 c3 hbw hc
          go_wp2_with (at_builtin; refine wpList_append_rowW rfl (.tmp 41) (.tmp 51) 22 22 rfl 4 44 (.agg #[.string ByteArray.empty, .string ByteArray.empty, .slice none 0 0, .slice none 0 0]) 80 Tryd.underlying22 infoN6 rfl w3.heap.size (.slice oa0 t oc0) t (els.flatMap El.cells) (by simp [Act.eval]) HRA.out (.slice (some ⟨wr.heap.size, 0, none⟩) 1 1) (by simp [Act.eval]) 1 [.string nm2, .string nt, .slice da dl dc, .slice oa ol oc] HSRC.out hszw (by omega) (by decide) ?_; intro v6 w6 hr6 ho6 hw6; obtain ⟨a6, c6, hv6⟩ := hr6.form; subst hv6; have HR6 := Lib.hid hr6; have HO6 := Lib.hid ho6; clear hr6 ho6 hw6)
          have hoa : Off (fun i => (Value.slice oa0 t oc0).ownBlock = some i) wr w6 := ((Off.refl _ wr).alloc _).trans HO6.out
          have hb6 := HB.out.trans (hoa.below (B := w3.heap.size) (fun i hi => (HW.out.lt i hi).1) HB.out.size)
          exact ⟨⟨t + 1, (i : Int) - 1, els ++ [⟨nm2, nt, da, dc, oa, ol, oc, deps⟩], by first | rfl | go_num, by omega, Lib.hid (by have := HQ.out; omega), by omega, by omega, Lib.hid (by rw [List.length_append, List.length_singleton, HM.out]), Lib.hid (by rw [List.flatMap_append, List.flatMap_cons, List.flatMap_nil, List.append_nil, HC.out]; exact HR6.out), Lib.hid (by rw [HST.out, ← HK.out, List.map_append]; rfl), Lib.hid (fun y hy => by
            rcases List.mem_append.1 hy with hy | hy
            · exact HEL.out y hy
            · rw [List.mem_singleton] at hy
              subst hy
              exact HDR.out), Lib.hid hb6⟩, by simp [intOf]⟩
        · have htn2 : n = t := by omega
          subst htn2
          have hqe : q = -1 := by have := HQ.out; omega
          subst hqe
          have hT : SReads wr (.slice oa0 n oc0) (turnS S k n) := by
            have h := els_reads (by rw [← HM.out]; exact HW.out) (fun y hy => (HEL.out y hy).below hbw)
            rw [HK.out] at h
            exact h
          have hpm : S.Perm (turnS S k n) := by rw [HN.out]; exact (turnS_perm (by rw [← HN.out]; exact hkn)).symm
          have HTR := Lib.hid hT
          have HPM := Lib.hid hpm
          have HST := Lib.hid (small_perm hpm HSS.out)
          have HLI := Lib.hid (linear_any S (.slice sa n sc) wr (HS.out.below hbw) HSS.out)
          clear hT hpm hbw
          go_wp2_with fail
          refine HLI.out.mono ?_
          rintro e w7 ⟨ov, out, k1, rfl, hlin, hrd, hb7⟩
          have HB7 := Lib.hid (HBW.out.trans (hb7.mono HBW.out.size))
          have hT7 := HTR.out.below hb7
          have HLJ := Lib.hid (linear_any _ _ w7 hT7 HST.out)
          obtain ⟨ev, hev⟩ : ∃ ev, ev = errV k1 := ⟨_, rfl⟩
          rw [← hev]
          have HEV := Lib.hid hev
          have HL1 := Lib.hid hlin
          have HR7 := Lib.hid hrd
          have HT7 := Lib.hid hT7
          clear hev hlin hrd hb7 hT7
          go_wp2_with fail
          refine HLJ.out.mono ?_
          rintro e w8 ⟨ov2, out2, k2, rfl, hlin, hrd, hb8⟩
          obtain ⟨he1, he2⟩ := lin_perm HPM.out HL1.out hlin
          rw [← he2, ← HEV.out]
          have HB8 := Lib.hid (HB7.out.trans (hb8.mono HB7.out.size))
          have HT8 := Lib.hid (HT7.out.below hb8)
          have HSA := Lib.hid (same_eq he1 ov ov2 w8 (HR7.out.below hb8) hrd)
          clear he1 he2 hlin hrd hb8
          go_wp2_with fail
          refine HSA.out.mono ?_
          rintro e w9 ⟨rfl, hb9⟩
          have HB9 := Lib.hid (HB8.out.trans (hb9.mono HB8.out.size))
          have HT9 := Lib.hid (HT8.out.below hb9)
          have HC1 := Lib.hid (by rw [HEV.out]; exact code_any k1 w9 (HE.out.below HB9.out) : Calls Tryd.prog 12 #[ev] w9 fun e w' => e = .returned (.int .i64 k1) ∧ Below w9.heap.size w9 w')
          clear hb9
          go_wp2_with fail
          refine HC1.out.mono ?_
          rintro e w10 ⟨rfl, hb10⟩
          have HB10 := Lib.hid (HB9.out.trans (hb10.mono HB9.out.size))
          have HT10 := Lib.hid (HT9.out.below hb10)
          have HC2 := Lib.hid (by rw [HEV.out]; exact code_any k1 w10 (HE.out.below HB10.out) : Calls Tryd.prog 12 #[ev] w10 fun e w' => e = .returned (.int .i64 k1) ∧ Below w10.heap.size w10 w')
          clear hb10
          go_wp2_with fail
          refine HC2.out.mono ?_
          rintro e w11 ⟨rfl, hb11⟩
          have HB11 := Lib.hid (HB10.out.trans (hb11.mono HB10.out.size))
          have HT11 := Lib.hid (HT10.out.below hb11)
          have HP1 := Lib.hid (pastS_any S (.slice sa n sc) nm w11 (HS.out.below HB11.out) HSS.out)
          clear hb11
          go_wp2_with fail
          refine HP1.out.mono ?_
          rintro e w12 ⟨pv, past, rfl, hpr, hprd, hb12⟩
          have HB12 := Lib.hid (HB11.out.trans (hb12.mono HB11.out.size))
          have HT12 := Lib.hid (HT11.out.below hb12)
          have HP2 := Lib.hid (pastS_any _ (.slice oa0 n oc0) nm w12 HT12.out HST.out)
          have HPR := Lib.hid hpr
          have HPD := Lib.hid hprd
          clear hpr hprd hb12
          go_wp2_with fail
          refine HP2.out.mono ?_
          rintro e w13 ⟨pv2, past2, rfl, hpr, hprd, hb13⟩
          have HB13 := Lib.hid (HB12.out.trans (hb13.mono HB12.out.size))
          have HT13 := Lib.hid (HT12.out.below hb13)
          have HSB := Lib.hid (same_eq (past_perm HPM.out HPR.out hpr) pv pv2 w13 (HPD.out.below hb13) hprd)
          clear hpr hprd hb13
          go_wp2_with fail
          refine HSB.out.mono ?_
          rintro e w14 ⟨rfl, hb14⟩
          have HB14 := Lib.hid (HB13.out.trans (hb14.mono HB13.out.size))
          have HT14 := Lib.hid (HT13.out.below hb14)
          have HH1 := Lib.hid (headsS_any S (.slice sa n sc) w14 (HS.out.below HB14.out) HSS.out)
          clear hb14
          go_wp2_with fail
          refine HH1.out.mono ?_
          rintro e w15 ⟨hv, heads, rfl, hhr, hhd, hb15⟩
          have HB15 := Lib.hid (HB14.out.trans (hb15.mono HB14.out.size))
          have HT15 := Lib.hid (HT14.out.below hb15)
          have HH2 := Lib.hid (headsS_any _ (.slice oa0 n oc0) w15 HT15.out HST.out)
          have HHR := Lib.hid hhr
          have HHD := Lib.hid hhd
          clear hhr hhd hb15
          go_wp2_with fail
          refine HH2.out.mono ?_
          rintro e w16 ⟨hv2, heads2, rfl, hhr, hhd, hb16⟩
          have HB16 := Lib.hid (HB15.out.trans (hb16.mono HB15.out.size))
          have HSC := Lib.hid (same_eq (head_perm HPM.out HHR.out hhr) hv hv2 w16 (HHD.out.below hb16) hhd)
          clear hhr hhd hb16
          go_wp2_with fail
          refine HSC.out.mono ?_
          rintro e w17 ⟨rfl, hb17⟩
          have HB17 := Lib.hid (HB16.out.trans (hb17.mono HB16.out.size))
          clear hb17
          go_wp2_with fail
          go_ret
          exact ⟨rfl, HB17.out⟩
end Go.Proofs.YtakkfgocebfhjaaDoor
