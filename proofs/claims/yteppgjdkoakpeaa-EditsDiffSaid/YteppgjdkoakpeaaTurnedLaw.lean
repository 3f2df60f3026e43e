/- The walk of the law EditsTurned: whichever two lists, the law's function answers true. -/
import Derived.Test.YteppgjdkoakpeaaAwake
import Derived.Test.YteppgjdkoakpeaaCost
set_option linter.unusedVariables false
namespace Go.Proofs.Yteppgjdkoakpeaa
open Go.ChangeShapes Go.WideShapes Go.ChangeAt Go.RowKit

theorem tame_diff (a b : Ls) (h3 : a.length ≤ 1000) (h4 : b.length ≤ 1000) : TameH (diffL a b) := by
  obtain ⟨h1, -, -, -, -, h6⟩ := diffL_facts a b
  obtain ⟨b1, b2⟩ := cost_bounds a.length _ (-1) (by omega) h1
  refine ⟨by omega, fun k hk => ?_⟩
  have := b2 k hk
  omega

theorem turned_facts (a b : Ls) : (costL (diffL a b) = costL (diffL b a) ∨ costL (diffL a b) > 100 ∨ costL (diffL b a) > 100) ∧ costL (diffL a b) ≤ a.length + b.length ∧ costL (diffL b a) ≤ a.length + b.length ∧ 0 ≤ costL (diffL a b) ∧ 0 ≤ costL (diffL b a) := by
  obtain ⟨-, -, -, h4, h5, h6⟩ := diffL_facts a b
  obtain ⟨-, -, -, k4, k5, k6⟩ := diffL_facts b a
  have hs := ld_swap a b _ a.length b.length rfl
  rw [← hs] at k4 k5
  refine ⟨?_, h6, by omega, by omega, by omega⟩
  by_cases h : ld a b a.length b.length ≤ 100
  · left; rw [h4 h, k4 h]
  · right; left; omega

set_option maxHeartbeats 1000000 in
theorem turned_law (a b : Ls) (va vb : Value) (w : World) (ha : Sl w va a) (hb : Sl w vb b) (la : a.length ≤ 140737488355328) (lb : b.length ≤ 140737488355328) :
    Calls Try.prog 5 #[va, vb] w fun e w' => e = .returned (.bool true) ∧ Below w.heap.size w w' := by
  have haw := awake_any w
  have HAW := Lib.hid haw
  obtain ⟨aa, ca, rfl⟩ := ha.form
  obtain ⟨ab, cb, rfl⟩ := hb.form
  have HA := Lib.hid ha
  have HB := Lib.hid hb
  obtain ⟨t1, t2, t3, t4, t5⟩ := turned_facts a b
  obtain ⟨X, hX⟩ : ∃ X, X = costL (diffL a b) := ⟨_, rfl⟩
  obtain ⟨Y, hY⟩ : ∃ Y, Y = costL (diffL b a) := ⟨_, rfl⟩
  rw [← hX, ← hY] at t1
  rw [← hX] at t2 t4
  rw [← hY] at t3 t5
  have HX := Lib.hid hX
  have HY := Lib.hid hY
  obtain ⟨al, hal⟩ : ∃ n, n = a.length := ⟨_, rfl⟩
  obtain ⟨bl, hbl⟩ : ∃ n, n = b.length := ⟨_, rfl⟩
  rw [← hal] at la t2 t3 HA ⊢
  rw [← hbl] at lb t2 t3 HB ⊢
  have HAL := Lib.hid hal
  have HBL := Lib.hid hbl
  clear haw ha hb hX hY hal hbl
  by_cases hbig : 200 < al
  · go_enter Try.func5, Try.ntmps5
    go_wp2_with fail
    refine HAW.out.mono ?_
    rintro e w1 ⟨rfl, hb1⟩
    go_wp2
    go_ret
    exact ⟨rfl, hb1⟩
  · by_cases hbig2 : 200 < bl
    · go_enter Try.func5, Try.ntmps5
      go_wp2_with fail
      refine HAW.out.mono ?_
      rintro e w1 ⟨rfl, hb1⟩
      go_wp2
      go_ret
      exact ⟨rfl, hb1⟩
    · have T1 := Lib.hid t1
      clear t1
      go_enter Try.func5, Try.ntmps5
      go_wp2_with fail
      refine HAW.out.mono ?_
      rintro e w1 ⟨rfl, hb1⟩
      have hd1 := diff_any a b _ _ w1 (HA.out.below hb1) (HB.out.below hb1) (by rw [← HAL.out]; omega) (by rw [← HBL.out]; omega)
      have HD1 := Lib.hid hd1
      have hz1 := hb1.size
      clear hd1
      go_wp2_with fail
      refine HD1.out.mono ?_
      rintro e w2 ⟨hv, rfl, hr, hb2⟩
      have hc1 := cost_any _ _ w2 hr (tame_diff a b (by rw [← HAL.out]; omega) (by rw [← HBL.out]; omega))
      rw [← HX.out] at hc1
      have HC1 := Lib.hid hc1
      have hz2 := hb2.size
      clear hc1 hr
      go_wp2_with fail
      refine HC1.out.mono ?_
      rintro e w2' ⟨rfl, d, rfl⟩
      have hb12 := hb1.trans (Below.drewN (n := d) (hb2.mono hz1))
      have HB12 := Lib.hid hb12
      have hz3 := hb12.size
      have hd2 := diff_any b a _ _ (w2.drewN d) (HB.out.below hb12) (HA.out.below hb12) (by rw [← HBL.out]; omega) (by rw [← HAL.out]; omega)
      have HD2 := Lib.hid hd2
      clear hb12 hd2
      go_wp2_with fail
      refine HD2.out.mono ?_
      rintro e w3 ⟨hv2, rfl, hr2, hb3⟩
      have hc2 := cost_any _ _ w3 hr2 (tame_diff b a (by rw [← HBL.out]; omega) (by rw [← HAL.out]; omega))
      rw [← HY.out] at hc2
      have HC2 := Lib.hid hc2
      have HB3 := Lib.hid hb3
      clear hc2 hr2 hb3
      go_wp2_with fail
      refine HC2.out.mono ?_
      rintro e w3' ⟨rfl, d2, rfl⟩
      have hfin : Below w.heap.size w (w3.drewN d2) := HB12.out.trans (Below.drewN (HB3.out.mono hz3))
      have HF := Lib.hid hfin
      clear hfin
      by_cases h1 : X = Y
      · subst h1
        have e1 : (X == X) = true := by rw [beq_iff_eq]
        go_wp2
        go_ret
        exact ⟨ret_bool (by first | rfl | (simp; omega)), HF.out⟩
      · have e1 : (X == Y) = false := by rw [beq_eq_false_iff_ne]; exact h1
        by_cases h2 : X > 100
        · go_wp2
          go_ret
          exact ⟨ret_bool (by first | rfl | (simp; omega)), HF.out⟩
        · have h3 : Y > 100 := by have := T1.out; omega
          go_wp2
          go_ret
          exact ⟨ret_bool (by first | rfl | (simp; omega)), HF.out⟩
end Go.Proofs.Yteppgjdkoakpeaa
