/- The walk of the law EditsApply: whichever list and hunks, the law's function answers true. -/
import Derived.Test.YteppgjdkoakpeaaDoorAwake
import Derived.Test.YteppgjdkoakpeaaDoorSame
import Derived.Test.YteppgjdkoakpeaaDoorHSame
import Derived.Test.YteppgjdkoakpeaaDoorRApply
import Derived.Test.YteppgjdkoakpeaaDoorRBack
import Derived.Test.YteppgjdkoakpeaaDoorCode
import Derived.Test.YteppgjdkoakpeaaDoorLawD
set_option linter.unusedVariables false
namespace Go.Proofs.YteppgjdkoakpeaaDoor
open Go.ChangeShapes Go.WideShapes Go.ChangeAt Go.RowKit

def putSum (h : List Hk) : Nat := (h.map fun k => k.put.length).sum
theorem putSum_snoc (h : List Hk) (k : Hk) : putSum (h ++ [k]) = putSum h + k.put.length := by simp [putSum]
theorem putSum_mem {h : List Hk} {k : Hk} (hk : k ∈ h) : k.put.length ≤ putSum h := by
  induction h with
  | nil => cases hk
  | cons q r ih =>
    have e : putSum (q :: r) = q.put.length + putSum r := by simp [putSum]
    rcases List.mem_cons.1 hk with rfl | hk
    · omega
    · have := ih hk; omega
theorem putSum_next {hs : List Hk} {m : Nat} {k : Hk} (hk : hs[m]? = some k) : putSum (hs.take (m + 1)) = putSum (hs.take m) + k.put.length := by
  rw [List.take_add_one, hk, Option.toList_some, putSum_snoc]

theorem len_le {a : Ls} {hs : List Hk} (hr : rightL hs a.length = true) : ∀ m, m ≤ hs.length → ((pre a (hs.take m)).1.length : Int) ≤ (pre a (hs.take m)).2 + putSum (hs.take m) ∧ 0 ≤ (pre a (hs.take m)).2
  | 0, _ => by simp [pre]
  | m + 1, hm => by
    have hk : hs[m]? = some (hs[m]'(by omega)) := List.getElem?_eq_getElem (by omega)
    obtain ⟨r1, r2, r3, r4, r5, r6⟩ := right_at a (by omega) hr hk
    have ih := len_le hr m (by omega)
    rw [r6, putSum_next hk]
    unfold appStep hend
    simp only [List.length_append, List.length_take, List.length_drop]
    omega

theorem app_len {a : Ls} {hs : List Hk} (hr : rightL hs a.length = true) : (appL a hs).length ≤ a.length + putSum hs := by
  have h := len_le hr hs.length (Nat.le_refl _)
  have hb := back_inv hr hs.length (Nat.le_refl _)
  rw [List.take_length] at h hb
  have := hb.da
  unfold appL
  rw [List.length_append, List.length_drop]
  omega

theorem back_puts (a : Ls) (hs : List Hk) : ∀ k ∈ backL a hs, k.put.length ≤ a.length := by
  have : ∀ (h : List Hk) (s : List Hk × Int), (∀ k ∈ s.1, k.put.length ≤ a.length) → ∀ k ∈ (h.foldl (backStep a) s).1, k.put.length ≤ a.length := by
    intro h
    induction h with
    | nil => intro s hs; exact hs
    | cons q r ih =>
      intro s hs
      rw [List.foldl_cons]
      refine ih _ fun k hk => ?_
      unfold backStep at hk
      simp only at hk
      rcases List.mem_append.1 hk with hk | hk
      · exact hs k hk
      · simp at hk
        subst hk
        simp only [List.length_take, List.length_drop]
        omega
  exact this hs ([], 0) (by simp)

set_option maxHeartbeats 1000000 in
theorem apply_many (a : Ls) (hs : List Hk) (ps : List (Hk × Value)) (va : Value) (b o c : Nat) (w : World) (ha : Sl w va a) (hps : HCells w b o ps) (la : a.length ≤ 140737488355328) (L : Nat) (hL : L = ps.length) (hbig : 500 < L) (hLm : L ≤ 140737488355328) :
    Calls Tryd.prog 3 #[va, .slice (some ⟨b, o, none⟩) L c] w fun e w' => e = .returned (.bool true) ∧ Below w.heap.size w w' := by
  have haw := awake_any w
  have HAW := Lib.hid haw
  obtain ⟨aa, ca, rfl⟩ := ha.form
  obtain ⟨al, hal⟩ : ∃ n, n = a.length := ⟨_, rfl⟩
  rw [← hal] at la ⊢
  have HPS := Lib.hid hps
  have HL := Lib.hid hL
  clear haw ha hal hps hL
  go_enter Tryd.func3, Tryd.ntmps3
  go_wp2_with fail
  refine HAW.out.mono ?_
  rintro e w1 ⟨rfl, hb1⟩
  have HB1 := Lib.hid hb1
  have hsz1 := hb1.size
  clear hb1
  go_wp2
  go_loopw [5, 20] (fun nv iv wr => ∃ (m : Nat) (q : Int), m ≤ L ∧ iv = .int .i64 m ∧ nv = .int .i64 q ∧ Below w.heap.size w wr) (fun _ iv _ => L - (intOf iv).toNat)
  case atStart => exact ⟨0, 0, by omega, rfl, rfl, HB1.out⟩
  case round =>
    obtain ⟨m, q, hm, rfl, rfl, hbel⟩ := hrel
    have HBEL := Lib.hid hbel
    have hsz := hbel.size
    clear hbel
    by_cases hlt : m < L
    · obtain ⟨p, hp⟩ : ∃ p, ps[m]? = some p := ⟨ps[m]'(by rw [← HL.out]; exact hlt), by simp⟩
      obtain ⟨c1, c2, c3, c4⟩ := HPS.out.2 m p hp
      obtain ⟨pa, pc, ea⟩ := c4.form
      rw [ea] at c3
      have d1 := (HBEL.out.cell (p := ⟨b, o + m * 3, none⟩) HPS.out.1).trans c1
      have d2 := (HBEL.out.cell (p := ⟨b, o + m * 3 + 1, none⟩) HPS.out.1).trans c2
      have d3 := (HBEL.out.cell (p := ⟨b, o + m * 3 + 2, none⟩) HPS.out.1).trans c3
      clear c1 c2 c3 c4 ea hp
      have h0 : (0 : Int) ≤ m := by omega
      have h1 : (m : Int) < L := by omega
      go_wp2
      exact ⟨⟨m + 1, _, by omega, by go_num, rfl, HBEL.out.alloc hsz _⟩, by simp [intOf]; omega⟩
    · by_cases h1000 : 1000 < al
      · go_wp2
        go_ret
        exact ⟨rfl, HBEL.out⟩
      · go_wp2
        go_ret
        exact ⟨rfl, HBEL.out⟩

set_option maxHeartbeats 4000000 in
theorem apply_few (a : Ls) (hs : List Hk) (ps : List (Hk × Value)) (va vh : Value) (w : World) (ha : Sl w va a) (hh : HReads w vh hs) (hps : hs = ps.map (·.1)) (hv : ∃ ao c, vh = .slice ao ps.length c ∧ (ps ≠ [] → ∃ b o, ao = some ⟨b, o, none⟩ ∧ HCells w b o ps))
    (la : a.length ≤ 140737488355328) (hfew : ps.length ≤ 500) (hU : ∀ k ∈ hs, k.put.length ≤ 140737488355328) (hE : HasErr w) :
    Calls Tryd.prog 3 #[va, vh] w fun e w' => e = .returned (.bool true) ∧ Below w.heap.size w w' := by
  have haw := awake_any w
  have HAW := Lib.hid haw
  have HERR := Lib.hid hE
  obtain ⟨aa, ca, rfl⟩ := ha.form
  obtain ⟨ao, c, rfl, hcs⟩ := hv
  obtain ⟨al, hal⟩ : ∃ n, n = a.length := ⟨_, rfl⟩
  obtain ⟨L, hL⟩ : ∃ n, n = ps.length := ⟨_, rfl⟩
  have HA := Lib.hid ha
  have HH := Lib.hid hh
  rw [← hal] at la HA ⊢
  rw [← hL] at hfew HH ⊢
  have HAL := Lib.hid hal
  have HPS := Lib.hid hps
  have HCS := Lib.hid hcs
  have HL := Lib.hid hL
  have HU := Lib.hid hU
  clear haw ha hh hal hps hcs hL hU hE
  go_enter Tryd.func3, Tryd.ntmps3
  go_wp2_with fail
  refine HAW.out.mono ?_
  rintro e w1 ⟨rfl, hb1⟩
  have HB1 := Lib.hid hb1
  have hsz1 := hb1.size
  clear hb1
  go_wp2
  go_loopw [5, 20] (fun nv iv wr => ∃ (m : Nat) (q : Nat), m ≤ L ∧ iv = .int .i64 m ∧ nv = .int .i64 q ∧ q ≤ 140737488355328 * m ∧ q = putSum (hs.take m) ∧ Below w.heap.size w wr) (fun _ iv _ => L - (intOf iv).toNat)
  case atStart => exact ⟨0, 0, by omega, rfl, rfl, by omega, rfl, HB1.out⟩
  case round =>
    obtain ⟨m, q, hm, rfl, rfl, hq, hqs, hbel⟩ := hrel
    have HBEL := Lib.hid hbel
    have HQS := Lib.hid hqs
    have hsz := hbel.size
    clear hbel hqs
    by_cases hlt : m < L
    · obtain ⟨p, hp⟩ : ∃ p, ps[m]? = some p := ⟨ps[m]'(by rw [← HL.out]; exact hlt), by simp⟩
      have hk : hs[m]? = some p.1 := by rw [HPS.out, List.getElem?_map, hp]; rfl
      obtain ⟨b, o, rfl, hcc⟩ := HCS.out (by rintro rfl; simp at hp)
      obtain ⟨c1, c2, c3, c4⟩ := hcc.2 m p hp
      obtain ⟨pa, pc, ea⟩ := c4.form
      rw [ea] at c3
      have hu := HU.out p.1 (List.mem_of_getElem? hk)
      have hn := putSum_next hk
      obtain ⟨U, hUU⟩ : ∃ U, U = p.1.put.length := ⟨_, rfl⟩
      rw [← hUU] at hu hn c3
      have d1 := (HBEL.out.cell (p := ⟨b, o + m * 3, none⟩) hcc.1).trans c1
      have d2 := (HBEL.out.cell (p := ⟨b, o + m * 3 + 1, none⟩) hcc.1).trans c2
      have d3 := (HBEL.out.cell (p := ⟨b, o + m * 3 + 2, none⟩) hcc.1).trans c3
      have HN := Lib.hid hn
      clear c1 c2 c3 c4 ea hp hk hn hUU hcc
      have h0 : (0 : Int) ≤ m := by omega
      have h1 : (m : Int) < L := by omega
      go_wp2
      exact ⟨⟨m + 1, q + U, by omega, by go_num, by go_num, by omega, by rw [HN.out, HQS.out], HBEL.out.alloc hsz _⟩, by simp [intOf]; omega⟩
    · have hml : m = L := by omega
      have hqq : q = putSum hs := by
        have := HQS.out
        rw [List.take_of_length_le (by rw [HPS.out, List.length_map, ← HL.out]; omega)] at this
        exact this
      have HQQ := Lib.hid hqq
      clear hqq hml
      by_cases h1000 : 1000 < al
      · go_wp2
        go_ret
        exact ⟨rfl, HBEL.out⟩
      · by_cases h2000 : 2000 < q
        · go_wp2
          go_ret
          exact ⟨rfl, HBEL.out⟩
        · have hpt : PTame hs := ⟨by rw [HPS.out, List.length_map, ← HL.out]; omega, fun k hk => by have := putSum_mem hk; have := HQQ.out; omega⟩
          have HPT := Lib.hid hpt
          obtain ⟨R, hR⟩ : ∃ R, rightL hs a.length = R := ⟨_, rfl⟩
          have HRR := Lib.hid hR
          clear hpt hR
          cases R
          · skip
            have hap := eapply_any (.slice aa al ca) _ wr a hs (HA.out.below HBEL.out) (HH.out.below HBEL.out) (by rw [← HAL.out]; omega) HPT.out
            rw [HRR.out] at hap
            simp only [Bool.false_eq_true, if_false] at hap
            have HAP := Lib.hid hap
            clear hap
            go_wp2_with fail
            refine HAP.out.mono ?_
            rintro e w2 ⟨⟨u, rfl, hu⟩, hb2⟩
            have hb02 := HBEL.out.trans (hb2.mono hsz)
            have hz2 := hb02.size
            have hra := rapply_any (.slice aa al ca) _ w2 a hs (HA.out.below hb02) (HH.out.below hb02) (by rw [← HAL.out]; omega) HPT.out
            rw [HRR.out] at hra
            simp only [Bool.false_eq_true, if_false] at hra
            have HU2 := Lib.hid hu
            have HB02 := Lib.hid hb02
            have HRA := Lib.hid hra
            clear hu hb2 hb02 hra
            go_wp2_with fail
            refine HRA.out.mono ?_
            rintro e w3 ⟨⟨u3, rfl, hu3⟩, hb3⟩
            have hb03 := HB02.out.trans (hb3.mono hz2)
            have hz3 := hb03.size
            have heb := eback_any (.slice aa al ca) _ w3 a hs (HA.out.below hb03) (HH.out.below hb03) (by rw [← HAL.out]; omega) HPT.out
            rw [HRR.out] at heb
            simp only [Bool.false_eq_true, if_false] at heb
            have HU2b := Lib.hid (HU2.out.below hb3)
            have HU3 := Lib.hid hu3
            have HB03 := Lib.hid hb03
            have HEB := Lib.hid heb
            clear hu3 hb3 hb03 heb HU2
            go_wp2_with fail
            refine HEB.out.mono ?_
            rintro e w4 ⟨⟨u4, rfl, hu4⟩, hb4⟩
            have hb04 := HB03.out.trans (hb4.mono hz3)
            have hz4 := hb04.size
            have hrb := rback_any (.slice aa al ca) _ w4 a hs (HA.out.below hb04) (HH.out.below hb04) (by rw [← HAL.out]; omega) HPT.out
            rw [HRR.out] at hrb
            simp only [Bool.false_eq_true, if_false] at hrb
            have HU2c := Lib.hid (HU2b.out.below hb4)
            have HU3b := Lib.hid (HU3.out.below hb4)
            have HU4 := Lib.hid hu4
            have HB04 := Lib.hid hb04
            have HRB := Lib.hid hrb
            clear hu4 hb4 hb04 hrb HU2b HU3
            go_wp2_with fail
            refine HRB.out.mono ?_
            rintro e w5 ⟨⟨uu5, rfl, hu5⟩, hb5⟩
            have hb05 := HB04.out.trans (hb5.mono hz4)
            have hz5 := hb05.size
            have her := eright_any hs _ w5 al (HH.out.below hb05) (by omega)
            have HRL : rightL hs (al : Int) = false := by rw [HAL.out]; exact HRR.out
            rw [HRL] at her
            have HU2d := Lib.hid (HU2c.out.below hb5)
            have HU3c := Lib.hid (HU3b.out.below hb5)
            have HU4b := Lib.hid (HU4.out.below hb5)
            have HU5 := Lib.hid hu5
            have HB05 := Lib.hid hb05
            have HER := Lib.hid her
            have HRLH := Lib.hid HRL
            clear hu5 hb5 hb05 her HU2c HU3b HU4 HRL
            go_wp2_with fail
            refine HER.out.mono ?_
            rintro e w6 ⟨rfl, hb6⟩
            have hb06 := HB05.out.trans (hb6.mono hz5)
            have hz6 := hb06.size
            have hrr := rright_any hs _ w6 al (HH.out.below hb06) (by omega)
            rw [HRLH.out] at hrr
            have HU2e := Lib.hid (HU2d.out.below hb6)
            have HU3d := Lib.hid (HU3c.out.below hb6)
            have HU4c := Lib.hid (HU4b.out.below hb6)
            have HU5b := Lib.hid (HU5.out.below hb6)
            have HB06 := Lib.hid hb06
            have HRI := Lib.hid hrr
            clear hb6 hb06 hrr HU2d HU3c HU4b HU5
            go_wp2_with fail
            refine HRI.out.mono ?_
            rintro e w7 ⟨rfl, hb7⟩
            have hb07 := HB06.out.trans (hb7.mono hz6)
            have hz7 := hb07.size
            have hs1 := same_q [] [] u u3 w7 (HU2e.out.below hb7).reads (HU3d.out.below hb7).reads
            rw [decide_eq_true rfl] at hs1
            have HU4d := Lib.hid (HU4c.out.below hb7)
            have HU5c := Lib.hid (HU5b.out.below hb7)
            have HB07 := Lib.hid hb07
            have HS1 := Lib.hid hs1
            clear hb7 hb07 hs1 HU2e HU3d HU4c HU5b
            go_wp2_with fail
            refine HS1.out.mono ?_
            rintro e w8 ⟨rfl, d1, rfl⟩
            have hb08 : Below w.heap.size w (w7.drewN d1) := Below.drewN HB07.out
            have HB08 := Lib.hid hb08
            have hz8 := hb08.size
            clear hb08
            have hc1 := code_errno 3 (w7.drewN d1) (HERR.out.below HB08.out)
            have HC1 := Lib.hid hc1
            clear hc1
            go_wp2_with fail
            refine HC1.out.mono ?_
            rintro e w9 ⟨rfl, hb9⟩
            have hb09 := HB08.out.trans (hb9.mono hz8)
            have hs2 := hsame_any [] [] u4 uu5 w9 (HU4d.out.drewN.below hb9) (HU5c.out.drewN.below hb9)
            rw [decide_eq_true rfl] at hs2
            have HB09 := Lib.hid hb09
            have HS2 := Lib.hid hs2
            clear hb9 hb09 hs2
            go_wp2_with fail
            refine HS2.out.mono ?_
            rintro e w10 ⟨rfl, d2, rfl⟩
            have hc2 := code_errno 3 (w9.drewN d2) (HERR.out.below (Below.drewN HB09.out))
            have HC2 := Lib.hid hc2
            have hz9 := HB09.out.size
            clear hc2
            go_wp2_with fail
            refine HC2.out.mono ?_
            rintro e w11 ⟨rfl, hb11⟩
            have HF := Lib.hid ((Below.drewN (n := d2) HB09.out).trans (hb11.mono hz9))
            clear hb11
            go_wp2
            go_ret
            exact ⟨ret_bool (by first | rfl | simp), HF.out⟩
          · skip
            have hap := eapply_any (.slice aa al ca) _ wr a hs (HA.out.below HBEL.out) (HH.out.below HBEL.out) (by rw [← HAL.out]; omega) HPT.out
            rw [HRR.out] at hap
            simp only [if_true] at hap
            have HAP := Lib.hid hap
            clear hap
            go_wp2_with fail
            refine HAP.out.mono ?_
            rintro e w2 ⟨⟨u, rfl, hu⟩, hb2⟩
            have hb02 := HBEL.out.trans (hb2.mono hsz)
            have hz2 := hb02.size
            have hra := rapply_any (.slice aa al ca) _ w2 a hs (HA.out.below hb02) (HH.out.below hb02) (by rw [← HAL.out]; omega) HPT.out
            rw [HRR.out] at hra
            simp only [if_true] at hra
            have HU2 := Lib.hid hu
            have HB02 := Lib.hid hb02
            have HRA := Lib.hid hra
            clear hu hb2 hb02 hra
            go_wp2_with fail
            refine HRA.out.mono ?_
            rintro e w3 ⟨⟨u3, rfl, hu3⟩, hb3⟩
            have hb03 := HB02.out.trans (hb3.mono hz2)
            have hz3 := hb03.size
            have heb := eback_any (.slice aa al ca) _ w3 a hs (HA.out.below hb03) (HH.out.below hb03) (by rw [← HAL.out]; omega) HPT.out
            rw [HRR.out] at heb
            simp only [if_true] at heb
            have HU2b := Lib.hid (HU2.out.below hb3)
            have HU3 := Lib.hid hu3
            have HB03 := Lib.hid hb03
            have HEB := Lib.hid heb
            clear hu3 hb3 hb03 heb HU2
            go_wp2_with fail
            refine HEB.out.mono ?_
            rintro e w4 ⟨⟨u4, rfl, hu4⟩, hb4⟩
            have hb04 := HB03.out.trans (hb4.mono hz3)
            have hz4 := hb04.size
            have hrb := rback_any (.slice aa al ca) _ w4 a hs (HA.out.below hb04) (HH.out.below hb04) (by rw [← HAL.out]; omega) HPT.out
            rw [HRR.out] at hrb
            simp only [if_true] at hrb
            have HU2c := Lib.hid (HU2b.out.below hb4)
            have HU3b := Lib.hid (HU3.out.below hb4)
            have HU4 := Lib.hid hu4
            have HB04 := Lib.hid hb04
            have HRB := Lib.hid hrb
            clear hu4 hb4 hb04 hrb HU2b HU3
            go_wp2_with fail
            refine HRB.out.mono ?_
            rintro e w5 ⟨⟨uu5, rfl, hu5⟩, hb5⟩
            have hb05 := HB04.out.trans (hb5.mono hz4)
            have hz5 := hb05.size
            have her := eright_any hs _ w5 al (HH.out.below hb05) (by omega)
            have HRL : rightL hs (al : Int) = true := by rw [HAL.out]; exact HRR.out
            rw [HRL] at her
            have HU2d := Lib.hid (HU2c.out.below hb5)
            have HU3c := Lib.hid (HU3b.out.below hb5)
            have HU4b := Lib.hid (HU4.out.below hb5)
            have HU5 := Lib.hid hu5
            have HB05 := Lib.hid hb05
            have HER := Lib.hid her
            have HRLH := Lib.hid HRL
            clear hu5 hb5 hb05 her HU2c HU3b HU4 HRL
            go_wp2_with fail
            refine HER.out.mono ?_
            rintro e w6 ⟨rfl, hb6⟩
            have hb06 := HB05.out.trans (hb6.mono hz5)
            have hz6 := hb06.size
            have hrr := rright_any hs _ w6 al (HH.out.below hb06) (by omega)
            rw [HRLH.out] at hrr
            have HU2e := Lib.hid (HU2d.out.below hb6)
            have HU3d := Lib.hid (HU3c.out.below hb6)
            have HU4c := Lib.hid (HU4b.out.below hb6)
            have HU5b := Lib.hid (HU5.out.below hb6)
            have HB06 := Lib.hid hb06
            have HRI := Lib.hid hrr
            clear hb6 hb06 hrr HU2d HU3c HU4b HU5
            go_wp2_with fail
            refine HRI.out.mono ?_
            rintro e w7 ⟨rfl, hb7⟩
            have hb07 := HB06.out.trans (hb7.mono hz6)
            have hz7 := hb07.size
            have hs1 := same_q (appL a hs) (appL a hs) u u3 w7 (HU2e.out.below hb7).reads (HU3d.out.below hb7).reads
            rw [decide_eq_true rfl] at hs1
            have HU4d := Lib.hid (HU4c.out.below hb7)
            have HU5c := Lib.hid (HU5b.out.below hb7)
            have HB07 := Lib.hid hb07
            have HS1 := Lib.hid hs1
            clear hb7 hb07 hs1 HU2e HU3d HU4c HU5b
            go_wp2_with fail
            refine HS1.out.mono ?_
            rintro e w8 ⟨rfl, d1, rfl⟩
            have hb08 : Below w.heap.size w (w7.drewN d1) := Below.drewN HB07.out
            have HB08 := Lib.hid hb08
            have hz8 := hb08.size
            clear hb08
            go_wp2_with fail
            refine (code_nil _).mono ?_
            rintro e w9 ⟨rfl, rfl⟩
            have hs2 := hsame_any (backL a hs) (backL a hs) u4 uu5 (w7.drewN d1) HU4d.out.drewN HU5c.out.drewN
            rw [decide_eq_true rfl] at hs2
            have HS2 := Lib.hid hs2
            clear hs2
            go_wp2_with fail
            refine HS2.out.mono ?_
            rintro e w10 ⟨rfl, d2, rfl⟩
            go_wp2_with fail
            refine (code_nil _).mono ?_
            rintro e w11 ⟨rfl, rfl⟩
            go_wp2
            go_ret
            exact ⟨ret_bool (by first | rfl | simp), Below.drewN HB07.out⟩

theorem apply_law (a : Ls) (hs : List Hk) (va vh : Value) (w : World) (ha : Sl w va a) (hh : HReads w vh hs) (la : a.length ≤ 140737488355328) (lh : hs.length ≤ 140737488355328) (hU : ∀ k ∈ hs, k.put.length ≤ 140737488355328) (hE : HasErr w) :
    Calls Tryd.prog 3 #[va, vh] w fun e w' => e = .returned (.bool true) ∧ Below w.heap.size w w' := by
  have hh' := hh
  obtain ⟨ps, hps, h⟩ := hh
  by_cases hf : ps.length ≤ 500
  · refine apply_few a hs ps va vh w ha hh' hps.symm ?_ la hf hU hE
    rcases h with ⟨rfl, a, c, rfl⟩ | ⟨hn, b, o, c, rfl, h1, h2, h3⟩
    · exact ⟨a, c, rfl, fun h => absurd rfl h⟩
    · exact ⟨_, c, rfl, fun _ => ⟨b, o, rfl, h3⟩⟩
  · rcases h with ⟨rfl, a, c, rfl⟩ | ⟨hn, b, o, c, rfl, h1, h2, h3⟩
    · exact absurd (by simp) hf
    · exact apply_many a hs ps va b o c w ha h3 la ps.length rfl (by omega) (by rw [← hps, List.length_map] at lh; exact lh)
end Go.Proofs.YteppgjdkoakpeaaDoor
