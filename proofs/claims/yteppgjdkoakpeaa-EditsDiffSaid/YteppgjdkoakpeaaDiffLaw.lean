/- The walk of the law EditsDiff: whichever two lists, the law's function answers true. -/
import Derived.Test.YteppgjdkoakpeaaTurnedLaw
import Derived.Test.YteppgjdkoakpeaaSame
import Derived.Test.YteppgjdkoakpeaaHSame
import Derived.Test.YteppgjdkoakpeaaLeast
import Derived.Test.YteppgjdkoakpeaaRApply
set_option linter.unusedVariables false
namespace Go.Proofs.Yteppgjdkoakpeaa
open Go.ChangeShapes Go.WideShapes Go.ChangeAt Go.RowKit

theorem ptame_diff (a b : Ls) (h3 : a.length ≤ 1000) (h4 : b.length ≤ 1000) : PTame (diffL a b) := by
  obtain ⟨h1, -, -, -, -, h6⟩ := diffL_facts a b
  obtain ⟨b1, b2⟩ := cost_bounds a.length _ (-1) (by omega) h1
  refine ⟨by omega, fun k hk => ?_⟩
  have := b2 k hk
  omega

set_option maxHeartbeats 400000 in
theorem diff_big (a b : Ls) (va vb : Value) (w : World) (ha : Sl w va a) (hb : Sl w vb b) (la : a.length ≤ 140737488355328) (lb : b.length ≤ 140737488355328) (hbig : 400 < a.length ∨ 400 < b.length) :
    Calls Try.prog 3 #[va, vb] w fun e w' => e = .returned (.bool true) ∧ Below w.heap.size w w' := by
  have haw := awake_any w
  have HAW := Lib.hid haw
  obtain ⟨aa, ca, rfl⟩ := ha.form
  obtain ⟨ab, cb, rfl⟩ := hb.form
  obtain ⟨al, hal⟩ : ∃ n, n = a.length := ⟨_, rfl⟩
  obtain ⟨bl, hbl⟩ : ∃ n, n = b.length := ⟨_, rfl⟩
  rw [← hal, ← hbl] at hbig
  rw [← hal] at la ⊢
  rw [← hbl] at lb ⊢
  have HAL := Lib.hid hal
  have HBL := Lib.hid hbl
  clear haw ha hb hal hbl
  by_cases h1 : 400 < al
  · clear hbig
    go_enter Try.func3, Try.ntmps3
    go_wp2_with fail
    refine HAW.out.mono ?_
    rintro e w1 ⟨rfl, hb1⟩
    go_wp2
    go_ret
    exact ⟨rfl, hb1⟩
  · have h2 : 400 < bl := by omega
    clear hbig
    go_enter Try.func3, Try.ntmps3
    go_wp2_with fail
    refine HAW.out.mono ?_
    rintro e w1 ⟨rfl, hb1⟩
    go_wp2
    go_ret
    exact ⟨rfl, hb1⟩

set_option maxHeartbeats 2000000 in
theorem diff_small (a b : Ls) (va vb : Value) (w : World) (ha : Sl w va a) (hb : Sl w vb b) (la : a.length ≤ 400) (lb : b.length ≤ 400) :
    Calls Try.prog 3 #[va, vb] w fun e w' => e = .returned (.bool true) ∧ Below w.heap.size w w' := by
  have haw := awake_any w
  have HAW := Lib.hid haw
  obtain ⟨f1, f2, f3, f4, f5, f6⟩ := diffL_facts a b
  have htm := tame_diff a b (by omega) (by omega)
  have hpt := ptame_diff a b (by omega) (by omega)
  obtain ⟨aa, ca, rfl⟩ := ha.form
  obtain ⟨ab, cb, rfl⟩ := hb.form
  have hcl : costL (diffL a b) = (ld a b a.length b.length : Int) ∨ (100 < ld a b a.length b.length) := by
    by_cases h : ld a b a.length b.length ≤ 100
    · exact .inl (f4 h)
    · exact .inr (by omega)
  have hlb := ld_le_sum a b a.length b.length
  obtain ⟨H, hH⟩ : ∃ H, H = diffL a b := ⟨_, rfl⟩
  obtain ⟨CO, hCO⟩ : ∃ c, c = costL H := ⟨_, rfl⟩
  obtain ⟨LE, hLE⟩ : ∃ c, c = ld a b a.length b.length := ⟨_, rfl⟩
  rw [← hH] at f1 f2 f3 hcl htm hpt
  rw [← hCO, ← hLE] at hcl
  rw [← hLE] at hlb
  have f7 := f6
  rw [← hH, ← hCO] at f7
  have f8 : 0 ≤ CO := by rw [hCO, hH]; omega
  clear f4 f5 f6
  obtain ⟨al, hal⟩ : ∃ n, n = a.length := ⟨_, rfl⟩
  obtain ⟨bl, hbl⟩ : ∃ n, n = b.length := ⟨_, rfl⟩
  rw [← hal] at la f1 f7 hlb ⊢
  rw [← hbl] at lb f7 hlb ⊢
  have HA := Lib.hid ha
  have HB := Lib.hid hb
  rw [← hal] at HA
  rw [← hbl] at HB
  have F1 := Lib.hid f1
  have F2 := Lib.hid f2
  have F3 := Lib.hid f3
  have HTM := Lib.hid htm
  have HPT := Lib.hid hpt
  have HH := Lib.hid hH
  have HCO := Lib.hid hCO
  have HLE := Lib.hid hLE
  have HCL := Lib.hid hcl
  have HAL := Lib.hid hal
  have HBL := Lib.hid hbl
  clear haw ha hb hal hbl f1 f2 f3 htm hpt hH hCO hLE hcl
  go_enter Try.func3, Try.ntmps3
  go_wp2_with fail
  refine HAW.out.mono ?_
  rintro e w1 ⟨rfl, hb1⟩
  have hd1 := diff_any a b _ _ w1 (HA.out.below hb1) (HB.out.below hb1) (by rw [← HAL.out]; omega) (by rw [← HBL.out]; omega)
  rw [← HH.out] at hd1
  have HD1 := Lib.hid hd1
  have hz1 := hb1.size
  have HB1 := Lib.hid hb1
  clear hd1 hb1
  go_wp2_with fail
  refine HD1.out.mono ?_
  rintro e w2 ⟨hv, rfl, hr, hb2⟩
  have hb02 := HB1.out.trans (hb2.mono hz1)
  have hz2 := hb02.size
  have hra := rapply_any _ hv w2 a H (HA.out.below hb02) hr (by rw [← HAL.out]; omega) HPT.out
  rw [← HAL.out, F1.out, F2.out] at hra
  simp only [if_true] at hra
  obtain ⟨hao, hc, rfl, hHl⟩ := hr.len
  obtain ⟨hl, hhl⟩ : ∃ n, n = H.length := ⟨_, rfl⟩
  have HR := Lib.hid hr
  rw [← hhl] at hra hHl HR ⊢
  have HHL := Lib.hid hhl
  have HB02 := Lib.hid hb02
  have HRA := Lib.hid hra
  clear hb2 hb02 hra hr hhl
  go_wp2_with fail
  refine HRA.out.mono ?_
  rintro e w3 ⟨⟨cv, rfl, hcv⟩, hb3⟩
  have hb03 := HB02.out.trans (hb3.mono hz2)
  have hz3 := hb03.size
  have hs1 := same_q b b cv _ w3 hcv.reads (HB.out.below hb03).reads
  rw [decide_eq_true rfl] at hs1
  have hr3 := HR.out.below hb3
  have HR3 := Lib.hid hr3
  have HB03 := Lib.hid hb03
  have HS1 := Lib.hid hs1
  clear hb3 hb03 hs1 hcv hr3
  go_wp2_with fail
  refine HS1.out.mono ?_
  rintro e w3' ⟨rfl, d3, rfl⟩
  have hs2 := same_q a b _ _ (w3.drewN d3) (HA.out.below (Below.drewN HB03.out)).reads (HB.out.below (Below.drewN HB03.out)).reads
  have hd2 : ∀ d4, Calls Try.prog 7 #[.slice aa al ca, .slice ab bl cb] (w3.drewN d4) fun r w' => ∃ hv, r = .returned hv ∧ HReads w' hv H ∧ Below w3.heap.size w3 w' := fun d4 => by
    rw [HH.out]
    refine (diff_any a b _ _ (w3.drewN d4) (HA.out.below (Below.drewN HB03.out)) (HB.out.below (Below.drewN HB03.out)) (by rw [← HAL.out]; omega) (by rw [← HBL.out]; omega)).mono ?_
    rintro e w' ⟨hv, h1, h2, h3⟩
    exact ⟨hv, h1, h2, Below.trans (Below.drewN (Below.refl _ _)) h3⟩
  have HD2 := Lib.hid hd2
  clear hd2
  have key : ∃ t : Bool, decide (a = b) = t ∧ ((hl : Int) == 0) = t := by
    by_cases hab : a = b
    · refine ⟨true, decide_eq_true hab, ?_⟩
      have := F3.out.2 hab
      rw [beq_iff_eq, HHL.out, this]
      rfl
    · refine ⟨false, decide_eq_false hab, ?_⟩
      rw [beq_eq_false_iff_ne, HHL.out]
      intro h
      exact hab (F3.out.1 (List.length_eq_zero_iff.1 (by omega)))
  obtain ⟨t, k1, k2⟩ := key
  rw [k1] at hs2
  have HS2 := Lib.hid hs2
  clear k1 hs2
  cases t
  all_goals go_wp2_with fail
  all_goals refine HS2.out.mono ?_
  all_goals rintro e w3' ⟨rfl, d4, rfl⟩
  all_goals go_wp2_with fail
  all_goals refine (HD2.out _).mono ?_
  all_goals rintro e w4 ⟨hv2, rfl, hr4, hb4⟩
  all_goals have hb04 := HB03.out.trans (hb4.mono hz3)
  all_goals have hz4 := hb04.size
  all_goals have hs3 := hsame_any H H hv2 _ w4 hr4 (HR3.out.below hb4)
  all_goals rw [decide_eq_true rfl] at hs3
  all_goals have HR4 := Lib.hid (HR3.out.below hb4)
  all_goals have HB04 := Lib.hid hb04
  all_goals have HS3 := Lib.hid hs3
  all_goals clear hr4 hb4 hb04 hs3
  all_goals go_wp2_with fail
  all_goals refine HS3.out.mono ?_
  all_goals rintro e w4' ⟨rfl, d5, rfl⟩
  all_goals have hle := least_any a b _ _ (w4.drewN d5) (HA.out.below (Below.drewN HB04.out)).reads (HB.out.below (Below.drewN HB04.out)).reads (by rw [← HAL.out]; omega) (by rw [← HBL.out]; omega)
  all_goals rw [← HLE.out] at hle
  all_goals have HLST := Lib.hid hle
  all_goals clear hle
  all_goals go_wp2_with fail
  all_goals refine HLST.out.mono ?_
  all_goals rintro e w5 ⟨rfl, hb5⟩
  all_goals have hb05 := (Below.drewN (n := d5) HB04.out).trans (hb5.mono hz4)
  all_goals have hco := cost_any H _ w5 (HR4.out.below (Below.trans (Below.drewN (n := d5) (Below.refl _ _)) hb5)) HTM.out
  all_goals rw [← HCO.out] at hco
  all_goals have HB05 := Lib.hid hb05
  all_goals have HCST := Lib.hid hco
  all_goals clear hb5 hb05 hco
  all_goals go_wp2_with fail
  all_goals refine HCST.out.mono ?_
  all_goals rintro e w5' ⟨rfl, d6, rfl⟩
  all_goals by_cases q1 : CO = LE
  all_goals first
    | (have e1 : (CO == (LE : Int)) = true := by rw [beq_iff_eq]; exact q1
       have Q1 := Lib.hid q1
       clear q1
       go_wp2
       go_ret
       exact ⟨ret_bool (by first | rfl | (simp; omega)), Below.drewN HB05.out⟩)
    | (have e1 : (CO == (LE : Int)) = false := by rw [beq_eq_false_iff_ne]; exact q1
       have q2 : 100 < LE := by have := HCL.out; omega
       go_wp2
       go_ret
       exact ⟨ret_bool (by first | rfl | (simp; omega)), Below.drewN HB05.out⟩)

theorem diff_law (a b : Ls) (va vb : Value) (w : World) (ha : Sl w va a) (hb : Sl w vb b) (la : a.length ≤ 140737488355328) (lb : b.length ≤ 140737488355328) :
    Calls Try.prog 3 #[va, vb] w fun e w' => e = .returned (.bool true) ∧ Below w.heap.size w w' := by
  by_cases h : 400 < a.length ∨ 400 < b.length
  · exact diff_big a b va vb w ha hb la lb h
  · exact diff_small a b va vb w ha hb (by omega) (by omega)
end Go.Proofs.Yteppgjdkoakpeaa
