/- slices.BinarySearch over texts that don't fall. -/
import Derived.Test.YteaencgbgfnokaaDoorM22
set_option linter.unusedVariables false
namespace Go.Proofs.YteaencgbgfnokaaDoor
open Go.ChangeShapes Go.WideShapes Go.ChangeAt Go.RowKit

theorem bs_le_lt {a b c : Bs} (h : a ≤ b) (k : b < c) : a < c := by
  rcases Classical.em (a = b) with rfl | e
  · exact k
  · exact bs_lt_trans (bs_lt.2 ⟨h, e⟩) k
set_option maxHeartbeats 1000000 in
set_option maxRecDepth 100000 in
theorem bsearch_le (ns : Lb) (v : Value) (x : ByteArray) (w : World) (hr : Reads w v ns) (ha : (ns.map bsOf).Pairwise (· ≤ ·)) (hn : ns.length ≤ 1000000) :
    Calls Tryd.prog 26 #[v, .string x] w fun e w' => ∃ i : Nat, e = .returned (.tuple #[.int .i64 (i : Nat), .bool (decide (bsOf x ∈ ns.map bsOf))]) ∧ w' = w := by
  obtain ⟨a, c, rfl, hc⟩ := hr.form
  obtain ⟨n, hnn⟩ : ∃ n, n = ns.length := ⟨_, rfl⟩
  rw [← hnn] at hr hn hc ⊢
  have HN := Lib.hid hnn
  have HR := Lib.hid hr
  have HA := Lib.hid ha
  clear hnn hr ha
  go_enter Tryd.func26, Tryd.ntmps26
  go_wp2_with fail
  go_loopw [7, 8] (fun s7 s8 wr => ∃ lo hi : Nat, s7 = .int .i64 (lo : Nat) ∧ s8 = .int .i64 (hi : Nat) ∧ lo ≤ hi ∧ hi ≤ n ∧ Hid (wr = w) ∧ Hid (∀ t y, t < lo → ns[t]? = some y → bsOf y < bsOf x) ∧ Hid (∀ t y, hi ≤ t → ns[t]? = some y → ¬ bsOf y < bsOf x)) (fun s7 s8 _ => (intOf s8).toNat - (intOf s7).toNat)
  case atStart => exact ⟨0, n, rfl, rfl, Nat.zero_le _, Nat.le_refl _, Lib.hid rfl, Lib.hid (fun t y ht => absurd ht (Nat.not_lt_zero _)), Lib.hid (fun t y ht hy => by have := (List.getElem?_eq_some_iff.1 hy).1; have := HN.out; omega)⟩
  case round =>
    obtain ⟨lo, hi, rfl, rfl, hlh, hin, HWW, HLO, HHI⟩ := hrel
    have HRr := Lib.hid (by rw [HWW.out]; exact HR.out : Reads wr (.slice a n c) ns)
    by_cases hlt : lo < hi
    · obtain ⟨m, hm⟩ : ∃ m, m = (lo + hi) / 2 := ⟨_, rfl⟩
      have hmm : ((lo : Int) + (hi : Int)) / 2 = (m : Int) := by omega
      obtain ⟨y, hy⟩ : ∃ y, ns[m]? = some y := ⟨ns[m]'(by have := HN.out; omega), by simp⟩
      obtain ⟨b, o, rfl, hnl, hcl⟩ := HRr.out.at hy
      have hcell := hcl.2 m y hy
      have CL := cmpLess y x wr
      have HY := Lib.hid hy
      have hasc : ∀ t u z z', t < u → ns[t]? = some z → ns[u]? = some z' → bsOf z ≤ bsOf z' := fun t u z z' htu hz hz' => by
        have h1 := (List.getElem?_eq_some_iff.1 hz)
        have h2 := (List.getElem?_eq_some_iff.1 hz')
        obtain ⟨h1l, rfl⟩ := h1
        obtain ⟨h2l, rfl⟩ := h2
        have := List.pairwise_iff_getElem.1 HA.out t u (by simpa using h1l) (by simpa using h2l) htu
        simpa using this
      have HAS := Lib.hid hasc
      have hml : lo ≤ m := by omega
      have hmh : m < hi := by omega
      clear hnl hcl hy hasc hm
      by_cases hyx : bsOf y < bsOf x
      · rw [decide_eq_true hyx] at CL
        have HCL := Lib.hid CL
        have HL2 : Hid (∀ t z, t < m + 1 → ns[t]? = some z → bsOf z < bsOf x) := Lib.hid (fun t z ht hz => by
          rcases Nat.lt_or_ge t m with h | h
          · exact bs_le_lt (HAS.out t m z y h hz HY.out) hyx
          · obtain rfl : t = m := by omega
            rw [HY.out] at hz; cases hz; exact hyx)
        clear CL hyx
        go_wp2_with fail
        refine HCL.out.mono ?_
        rintro e w' ⟨rfl, rfl⟩
        go_wp2_with fail
        exact ⟨⟨m + 1, hi, by go_num, rfl, by omega, hin, HWW, HL2, HHI⟩, by simp [intOf]; omega⟩
      · rw [decide_eq_false hyx] at CL
        have HCL := Lib.hid CL
        have HH2 : Hid (∀ t z, m ≤ t → ns[t]? = some z → ¬ bsOf z < bsOf x) := Lib.hid (fun t z ht hz hzx => by
          rcases Nat.lt_or_ge m t with h | h
          · exact hyx (bs_le_lt (HAS.out m t y z h HY.out hz) hzx)
          · obtain rfl : t = m := by omega
            rw [HY.out] at hz; cases hz; exact hyx hzx)
        clear CL hyx
        go_wp2_with fail
        refine HCL.out.mono ?_
        rintro e w' ⟨rfl, rfl⟩
        go_wp2_with fail
        exact ⟨⟨lo, m, rfl, rfl, by omega, by omega, HWW, HLO, HH2⟩, by simp [intOf]; omega⟩
    · obtain rfl : lo = hi := by omega
      have hmem : bsOf x ∈ ns.map bsOf → ∃ y, ns[lo]? = some y ∧ y = x := fun hx0 => by
        obtain ⟨z0, hz0, e0⟩ := List.mem_map.1 hx0
        obtain rfl := bs_of_eq e0
        obtain ⟨t, ht⟩ := List.mem_iff_getElem?.1 hz0
        have h1 : ¬ t < lo := fun h => absurd (HLO.out t _ h ht) (List.lt_irrefl _)
        rcases Nat.lt_or_ge lo t with h | h
        · obtain ⟨z, hz⟩ : ∃ z, ns[lo]? = some z := ⟨ns[lo]'(by have := (List.getElem?_eq_some_iff.1 ht).1; omega), by simp⟩
          have h3 := HHI.out lo z (Nat.le_refl _) hz
          obtain ⟨h1l, e1⟩ := (List.getElem?_eq_some_iff.1 hz)
          obtain ⟨h2l, e2⟩ := (List.getElem?_eq_some_iff.1 ht)
          have := List.pairwise_iff_getElem.1 HA.out lo t (by simpa using h1l) (by simpa using h2l) h
          simp only [List.getElem_map, e1, e2] at this
          refine ⟨z, hz, bs_of_eq ?_⟩
          rcases Classical.em (bsOf z = bsOf z0) with h4 | h4
          · exact h4
          · exact absurd (bs_lt.2 ⟨this, h4⟩) h3
        obtain rfl : t = lo := by omega
        exact ⟨_, ht, rfl⟩
      by_cases hn2 : lo < n
      · obtain ⟨y, hy⟩ : ∃ y, ns[lo]? = some y := ⟨ns[lo]'(by have := HN.out; omega), by simp⟩
        obtain ⟨b, o, rfl, hnl, hcl⟩ := HRr.out.at hy
        have hcell := hcl.2 lo y hy
        have HY := Lib.hid hy
        have HM := Lib.hid hmem
        clear hnl hcl hy hmem
        by_cases hyx : y = x
        · subst hyx
          have HD := Lib.hid (decide_eq_true (List.mem_map.2 ⟨_, List.mem_of_getElem? HY.out, rfl⟩) : decide (bsOf y ∈ ns.map bsOf) = true)
          go_wp2_with fail
          go_ret2
          exact ⟨lo, by rw [HD.out]; rfl, HWW.out⟩
        · have hne : (y.toList == x.toList) = false := by
            rw [beq_eq_false_iff_ne]
            intro e
            apply hyx
            rw [ByteArray.toList_eq, ByteArray.toList_eq] at e
            exact bs_of_eq e
          have HD := Lib.hid (decide_eq_false (fun h => by obtain ⟨z, hz, rfl⟩ := HM.out h; rw [HY.out] at hz; cases hz; exact hyx rfl) : decide (bsOf x ∈ ns.map bsOf) = false)
          have HNM := Lib.hid (of_decide_eq_false HD.out)
          have I2 := Lib.hid (isNaN2 y wr)
          clear hyx
          go_wp2_with fail
          refine I2.out.mono ?_
          rintro e w' ⟨rfl, rfl⟩
          go_wp2_with fail
          go_ret2
          exact ⟨lo, by rw [HD.out]; rfl, HWW.out⟩
      · have HD := Lib.hid (decide_eq_false (fun h => by obtain ⟨z, hz, rfl⟩ := hmem h; have := (List.getElem?_eq_some_iff.1 hz).1; have := HN.out; omega) : decide (bsOf x ∈ ns.map bsOf) = false)
        have HNM := Lib.hid (of_decide_eq_false HD.out)
        clear hmem
        go_wp2_with fail
        go_ret2
        exact ⟨lo, by rw [HD.out]; rfl, HWW.out⟩
end Go.Proofs.YteaencgbgfnokaaDoor
