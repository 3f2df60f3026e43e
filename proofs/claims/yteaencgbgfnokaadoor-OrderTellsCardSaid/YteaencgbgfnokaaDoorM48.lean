/- The law OrderTells, walked. -/
import Derived.Test.YteaencgbgfnokaaDoorM28
import Derived.Test.YteaencgbgfnokaaDoorM31
import Derived.Test.YteaencgbgfnokaaDoorM35
import Derived.Test.YteaencgbgfnokaaDoorM44
import Derived.Test.YteaencgbgfnokaaDoorM46
import Derived.Test.YteaencgbgfnokaaDoorM47
set_option linter.unusedVariables false
set_option linter.unusedSimpArgs false
namespace Go.Proofs.YteaencgbgfnokaaDoor
open Go.ChangeShapes Go.WideShapes Go.ChangeAt Go.RowKit

theorem le_sum_of : ∀ {l : List Nat} {x : Nat}, x ∈ l → x ≤ l.sum
  | y :: l, x, h => by
    rw [List.sum_cons]
    rcases List.mem_cons.1 h with rfl | h
    · omega
    · have := le_sum_of h; omega
theorem small_dep {S : SetB} (h : SmallS S) : ∀ p ∈ S, p.2.length ≤ 1000000 := fun p hp => by
  have := le_sum_of (List.mem_map.2 ⟨p, hp, rfl⟩ : p.2.length ∈ S.map fun p => p.2.length)
  have := h.2
  omega
theorem amid_eq (hs : Lb) : (fun x => !amid hs x) = fun x => !inB hs x := by
  funext x
  unfold amid
  congr 1
  rw [inB, decide_eq_decide, idx_mem]
  rw [sortedB_bs, List.mem_mergeSort]
  exact mem_bs

set_option maxHeartbeats 2000000 in
set_option maxRecDepth 100000 in
theorem tellso_law (S : SetB) (v : Value) (nm : ByteArray) (hv : Value) (hs : Lb) (w : World) (hS : SReads w v S) (hD : ∀ p ∈ S, p.2.length ≤ 140737488355328) (hn9 : S.length ≤ 140737488355328) (hH : Reads w hv hs) (hE : HasErr w) :
    Calls Tryd.prog 3 #[v, .string nm, hv] w fun e w' => e = .returned (.bool true) ∧ Below w.heap.size w w' := by
  obtain ⟨sa, sc, rfl, _⟩ := hS.form
  obtain ⟨ha, hc, rfl, _⟩ := hH.form
  obtain ⟨n, hnn⟩ : ∃ n, n = S.length := ⟨_, rfl⟩
  obtain ⟨m, hmm⟩ : ∃ m, m = hs.length := ⟨_, rfl⟩
  rw [← hnn] at hS hn9 ⊢
  rw [← hmm] at hH ⊢
  have HS := Lib.hid hS
  have HN := Lib.hid hnn
  have HM := Lib.hid hmm
  have HH := Lib.hid hH
  have HD := Lib.hid hD
  have HE := Lib.hid hE
  have HAW := Lib.hid (awake_any w)
  clear hS hnn hD hE hH hmm
  go_enter Tryd.func3, Tryd.ntmps3
  go_wp2_with fail
  refine HAW.out.mono ?_
  rintro e w2 ⟨rfl, hb2⟩
  have HB2 := Lib.hid hb2
  have HSM := Lib.hid (small_any S (.slice sa n sc) w2 (HS.out.below hb2) HD.out (by rw [← HN.out]; exact hn9))
  clear hb2
  go_wp2_with fail
  refine HSM.out.mono ?_
  rintro e w3 ⟨b, rfl, hsm, hb3⟩
  have HB3 := Lib.hid (HB2.out.trans (hb3.mono HB2.out.size))
  cases b
  · clear hsm hb3
    go_wp2_with fail
    go_ret
    exact ⟨rfl, HB3.out⟩
  have HSS := Lib.hid (hsm.1 rfl)
  clear hsm hb3 HSM
  by_cases hg : 200 < m
  · go_wp2_with fail
    go_ret
    exact ⟨rfl, HB3.out⟩
  have hD3 := small_dep HSS.out
  have HD3 := Lib.hid hD3
  have hn3 : n ≤ 60 := by rw [HN.out]; exact HSS.out.1
  have hSn3 : S.length ≤ 1000000 := by have := HSS.out.1; omega
  have HSN3 := Lib.hid hSn3
  have HLI := Lib.hid (linear_any S (.slice sa n sc) w3 (HS.out.below HB3.out) HSS.out)
  clear hD3 hSn3
  go_wp2_with fail
  refine HLI.out.mono ?_
  rintro e w4 ⟨av, ao, k1, rfl, hl1, hr1, hb4⟩
  have HB4 := Lib.hid (HB3.out.trans (hb4.mono HB3.out.size))
  have HL1 := Lib.hid hl1
  have HR1 := Lib.hid hr1
  have HRL := Lib.hid (rlinear_any S (.slice sa n sc) w4 (HS.out.below HB4.out) HSN3.out HD3.out)
  obtain ⟨ev, hev⟩ : ∃ ev, ev = errV k1 := ⟨_, rfl⟩
  rw [← hev]
  have HEV := Lib.hid hev
  clear hl1 hr1 hb4 hev HLI
  go_wp2_with fail
  refine HRL.out.mono ?_
  rintro e w5 ⟨bv, bo, k2, rfl, hl2, hr2, hb5⟩
  obtain ⟨he1, he2⟩ := lin_perm (List.Perm.refl S) HL1.out hl2
  subst he1
  subst he2
  have HB5 := Lib.hid (HB4.out.trans (hb5.mono HB4.out.size))
  have HR5 := Lib.hid (HR1.out.below hb5)
  have HRB := Lib.hid (row_reads hr2)
  have HMI := Lib.hid (missing_any S (.slice sa n sc) (.slice ha m hc) hs w5 (HS.out.below HB5.out) HSS.out (HH.out.below HB5.out) (by have := HM.out; omega))
  clear hl2 hr2 hb5 HRL HR1
  go_wp2_with fail
  refine HMI.out.mono ?_
  rintro e w6 ⟨cv, co, k3, rfl, hl3, hr3, hb6⟩
  obtain ⟨he1, he2⟩ := lin_perm (List.Perm.refl S) HL1.out hl3
  subst he1
  subst he2
  rw [← HEV.out]
  rw [amid_eq] at hr3
  have HB6 := Lib.hid (HB5.out.trans (hb6.mono HB5.out.size))
  have HR6 := Lib.hid (HR5.out.below hb6)
  have HRB6 := Lib.hid (HRB.out.below hb6)
  have HRC := Lib.hid (row_reads hr3)
  have HRM := Lib.hid (rmissing_any S (.slice sa n sc) (.slice ha m hc) hs w6 (HS.out.below HB6.out) HSN3.out HD3.out (HH.out.below HB6.out))
  clear hl3 hr3 hb6 HMI HR5 HRB
  go_wp2_with fail
  refine HRM.out.mono ?_
  rintro e w7 ⟨dv, do', k4, rfl, hl4, hr4, hb7⟩
  obtain ⟨he1, he2⟩ := lin_perm (List.Perm.refl S) HL1.out hl4
  subst he1
  subst he2
  have HB7 := Lib.hid (HB6.out.trans (hb7.mono HB6.out.size))
  have HRC7 := Lib.hid (HRC.out.below hb7)
  have HRD := Lib.hid (row_reads hr4)
  have HS1 := Lib.hid (same_eq rfl av bv w7 (HR6.out.below hb7) (HRB6.out.below hb7))
  clear hl4 hr4 hb7 HRM HR6 HRB6 HRC
  go_wp2_with fail
  refine HS1.out.mono ?_
  rintro e w8 ⟨rfl, hb8⟩
  have HB8 := Lib.hid (HB7.out.trans (hb8.mono HB7.out.size))
  have HRC8 := Lib.hid (HRC7.out.below hb8)
  have HRD8 := Lib.hid (HRD.out.below hb8)
  have HC1 := Lib.hid (by rw [HEV.out]; exact code_any k1 w8 (HE.out.below HB8.out) : Calls Tryd.prog 11 #[ev] w8 fun e w' => e = .returned (.int .i64 k1) ∧ Below w8.heap.size w8 w')
  clear hb8 HS1 HRC7 HRD
  go_wp2_with fail
  refine HC1.out.mono ?_
  rintro e w9 ⟨rfl, hb9⟩
  have HB9 := Lib.hid (HB8.out.trans (hb9.mono HB8.out.size))
  have HRC9 := Lib.hid (HRC8.out.below hb9)
  have HRD9 := Lib.hid (HRD8.out.below hb9)
  have HCH := Lib.hid (check_any S (.slice sa n sc) w9 (HS.out.below HB9.out) HSS.out)
  clear hb9 HC1 HRC8 HRD8
  go_wp2_with fail
  refine HCH.out.mono ?_
  rintro e w10 ⟨o5, k5, rfl, hl5, hb10⟩
  obtain ⟨he1, he2⟩ := lin_perm (List.Perm.refl S) HL1.out hl5
  subst he1
  subst he2
  rw [← HEV.out]
  have HB10 := Lib.hid (HB9.out.trans (hb10.mono HB9.out.size))
  have HRC10 := Lib.hid (HRC9.out.below hb10)
  have HRD10 := Lib.hid (HRD9.out.below hb10)
  have HC1 := Lib.hid (by rw [HEV.out]; exact code_any k1 w10 (HE.out.below HB10.out) : Calls Tryd.prog 11 #[ev] w10 fun e w' => e = .returned (.int .i64 k1) ∧ Below w10.heap.size w10 w')
  clear hb10 hl5 HCH HRC9 HRD9
  go_wp2_with fail
  refine HC1.out.mono ?_
  rintro e w11 ⟨rfl, hb11⟩
  have HB11 := Lib.hid (HB10.out.trans (hb11.mono HB10.out.size))
  have HS2 := Lib.hid (same_eq rfl cv dv w11 (HRC10.out.below hb11) (HRD10.out.below hb11))
  clear hb11 HC1 HRC10 HRD10
  go_wp2_with fail
  refine HS2.out.mono ?_
  rintro e w12 ⟨rfl, hb12⟩
  have HB12 := Lib.hid (HB11.out.trans (hb12.mono HB11.out.size))
  have HC1 := Lib.hid (by rw [HEV.out]; exact code_any k1 w12 (HE.out.below HB12.out) : Calls Tryd.prog 11 #[ev] w12 fun e w' => e = .returned (.int .i64 k1) ∧ Below w12.heap.size w12 w')
  clear hb12 HS2
  go_wp2_with fail
  refine HC1.out.mono ?_
  rintro e w13 ⟨rfl, hb13⟩
  have HB13 := Lib.hid (HB12.out.trans (hb13.mono HB12.out.size))
  have HPA := Lib.hid (pastS_any S (.slice sa n sc) nm w13 (HS.out.below HB13.out) HSS.out)
  clear hb13 HC1
  go_wp2_with fail
  refine HPA.out.mono ?_
  rintro e w14 ⟨pv, po, rfl, hp1, hp2, hb14⟩
  have HB14 := Lib.hid (HB13.out.trans (hb14.mono HB13.out.size))
  have HP1 := Lib.hid hp1
  have HP2 := Lib.hid hp2
  have HRP := Lib.hid (rpast_any S (.slice sa n sc) nm w14 (HS.out.below HB14.out) (by have := HN.out; omega) HD3.out)
  clear hb14 hp1 hp2 HPA
  go_wp2_with fail
  refine HRP.out.mono ?_
  rintro e w15 ⟨qv, qo, rfl, hq1, hq2, hq3, hb15⟩
  have hpe := past_eq HP1.out hq1 hq2
  have HB15 := Lib.hid (HB14.out.trans (hb15.mono HB14.out.size))
  have HS3 := Lib.hid (same_eq hpe pv qv w15 (HP2.out.below hb15) hq3)
  clear hb15 hq1 hq2 hq3 hpe HRP HP1 HP2
  go_wp2_with fail
  refine HS3.out.mono ?_
  rintro e w16 ⟨rfl, hb16⟩
  have HB16 := Lib.hid (HB15.out.trans (hb16.mono HB15.out.size))
  have HHA := Lib.hid (headsS_any S (.slice sa n sc) w16 (HS.out.below HB16.out) HSS.out)
  clear hb16 HS3
  go_wp2_with fail
  refine HHA.out.mono ?_
  rintro e w17 ⟨pv, po, rfl, hp1, hp2, hb17⟩
  have HB17 := Lib.hid (HB16.out.trans (hb17.mono HB16.out.size))
  have HP1 := Lib.hid hp1
  have HP2 := Lib.hid hp2
  have HRH := Lib.hid (rheads_any S (.slice sa n sc) w17 (HS.out.below HB17.out) HSN3.out)
  clear hb17 hp1 hp2 HHA
  go_wp2_with fail
  refine HRH.out.mono ?_
  rintro e w18 ⟨qv, qo, rfl, hq1, hq3, hb18⟩
  have hpe := heads_is HP1.out hq1.asc (fun x => by have := hq1.mem x; rwa [List.take_length] at this)
  have HB18 := Lib.hid (HB17.out.trans (hb18.mono HB17.out.size))
  have HS4 := Lib.hid (same_eq hpe pv qv w18 (HP2.out.below hb18) hq3)
  clear hb18 hq1 hq3 hpe HRH HP1 HP2
  go_wp2_with fail
  refine HS4.out.mono ?_
  rintro e w19 ⟨rfl, hb19⟩
  have HB19 := Lib.hid (HB18.out.trans (hb19.mono HB18.out.size))
  clear hb19 HS4
  go_wp2_with fail
  go_ret
  exact ⟨rfl, HB19.out⟩
end Go.Proofs.YteaencgbgfnokaaDoor
