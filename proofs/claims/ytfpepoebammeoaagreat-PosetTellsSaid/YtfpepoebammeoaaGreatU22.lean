/- The search of the ways by where they begin. -/
import Derived.Test.YtfpepoebammeoaaGreatU21
set_option linter.unusedVariables false
set_option linter.unusedSimpArgs false
namespace Go.Proofs.YtfpepoebammeoaaGreat
open Go.ChangeShapes Go.WideShapes Go.ChangeAt Go.RowKit

set_option maxHeartbeats 1000000 in
set_option maxRecDepth 100000 in
theorem betw1_any (x1 x2 t : Int) (w : World) :
    Calls Tryz.prog 57 #[.agg #[.int .i64 x1, .int .i64 x2], .int .i64 t] w fun e w' => e = .returned (.int .i64 (cmpI x1 t)) ∧ Below w.heap.size w w' := by
  have H1 := Lib.hid (fun w => compare_any x1 t w)
  have HB := Lib.hid ((Below.refl w.heap.size w).alloc (Nat.le_refl _) (.cells #[.int .i64 x1, .int .i64 x2] 36))
  go_enter Tryz.func57, Tryz.ntmps57
  go_wp2_with fail
  refine (H1.out _).mono ?_
  rintro e w2 ⟨rfl, rfl⟩
  go_wp2_with fail
  go_ret
  exact ⟨rfl, HB.out⟩
set_option maxHeartbeats 2000000 in
set_option maxRecDepth 100000 in
theorem bsf_any (L : Ed) (v : Value) (x : Int) (w : World) (hr : RE w v L) (ha : L.Pairwise (fun a b => a.1 ≤ b.1)) (hn : L.length ≤ 1000000) :
    Calls Tryz.prog 58 #[v, .int .i64 x, .func (.func 57) #[] #[]] w fun e w' => (∃ (i : Nat) (bo : Bool), e = .returned (.tuple #[.int .i64 (i : Nat), .bool bo]) ∧ i ≤ L.length ∧ (∀ t y, t < i → L[t]? = some y → y.1 < x) ∧ ∀ t y, i ≤ t → L[t]? = some y → x ≤ y.1) ∧ Below w.heap.size w w' := by
  obtain ⟨a, c, rfl⟩ := hr.form
  obtain ⟨n, hnn⟩ : ∃ n, n = L.length := ⟨_, rfl⟩
  rw [← hnn] at hr hn ⊢
  have HN := Lib.hid hnn
  have HR := Lib.hid hr
  have HA := Lib.hid ha
  have HC := Lib.hid (fun (y1 y2 : Int) (w : World) => betw1_any y1 y2 x w)
  clear hnn hr ha
  go_enter Tryz.func58, Tryz.ntmps58
  go_wp2_with fail
  go_loopw [9, 10] (fun s7 s8 wr => ∃ lo hi : Nat, s7 = .int .i64 (lo : Nat) ∧ s8 = .int .i64 (hi : Nat) ∧ lo ≤ hi ∧ hi ≤ n ∧ Hid (Below w.heap.size w wr) ∧ Hid (∀ t y, t < lo → L[t]? = some y → y.1 < x) ∧ Hid (∀ t y, hi ≤ t → L[t]? = some y → x ≤ y.1)) (fun s7 s8 _ => (intOf s8).toNat - (intOf s7).toNat)
  case atStart => exact ⟨0, n, rfl, rfl, Nat.zero_le _, Nat.le_refl _, Lib.hid (Below.refl _ _), Lib.hid (fun t y ht => absurd ht (Nat.not_lt_zero _)), Lib.hid (fun t y ht hy => by have := (List.getElem?_eq_some_iff.1 hy).1; have := HN.out; omega)⟩
  case round =>
    obtain ⟨lo, hi, rfl, rfl, hlh, hin, HB, HLO, HHI⟩ := hrel
    by_cases hlt : lo < hi
    · obtain ⟨m, hm⟩ : ∃ m, m = (lo + hi) / 2 := ⟨_, rfl⟩
      have hmm : ((lo : Int) + (hi : Int)) / 2 = (m : Int) := by omega
      obtain ⟨y, hy⟩ : ∃ y, L[m]? = some y := ⟨L[m]'(by have := HN.out; omega), by simp⟩
      have HY := Lib.hid hy
      have HAS := Lib.hid (show ∀ (t u : Nat) (z z' : Int × Int), t < u → L[t]? = some z → L[u]? = some z' → z.1 ≤ z'.1 from fun t u z z' htu hz hz' => by
        obtain ⟨h1l, rfl⟩ := List.getElem?_eq_some_iff.1 hz
        obtain ⟨h2l, rfl⟩ := List.getElem?_eq_some_iff.1 hz'
        exact List.pairwise_iff_getElem.1 HA.out t u h1l h2l htu)
      obtain ⟨y1, y2⟩ := y
      obtain ⟨vb, vo, rfl, _, hvc1, hvc2, d0, d1⟩ := (HR.out.below HB.out).at hy
      simp only at d0 d1
      unfold maxLen at hvc2
      have hml : lo ≤ m := by omega
      have hmh : m < hi := by omega
      have HCL := Lib.hid (HC.out y1 y2 wr)
      clear hy hm
      by_cases hyx : y1 < x
      · have hcm : cmpI y1 x = -1 := by unfold cmpI; rw [if_pos hyx]
        rw [hcm] at HCL
        have HL2 : Hid (∀ t z, t < m + 1 → L[t]? = some z → z.1 < x) := Lib.hid (fun t z ht hz => by
          rcases Nat.lt_or_ge t m with h | h
          · have : z.1 ≤ y1 := HAS.out t m z _ h hz HY.out
            omega
          · obtain rfl : t = m := by omega
            rw [HY.out] at hz; cases hz; exact hyx)
        clear hyx hcm
        go_wp2_with fail
        refine HCL.out.mono ?_
        rintro e w' ⟨rfl, hb⟩
        have HB2 := Lib.hid (HB.out.trans (hb.mono HB.out.size))
        clear hb
        go_wp2_with fail
        exact ⟨⟨m + 1, hi, by go_num, rfl, by omega, hin, HB2, HL2, HHI⟩, by simp [intOf]; omega⟩
      · obtain ⟨g, hg⟩ : ∃ g, g = cmpI y1 x := ⟨_, rfl⟩
        have hg0 : 0 ≤ g := by rw [hg]; unfold cmpI; rw [if_neg hyx]; split <;> omega
        rw [← hg] at HCL
        have HH2 : Hid (∀ t z, m ≤ t → L[t]? = some z → x ≤ z.1) := Lib.hid (fun t z ht hz => by
          rcases Nat.lt_or_ge m t with h | h
          · have : y1 ≤ z.1 := HAS.out m t _ z h HY.out hz
            omega
          · obtain rfl : t = m := by omega
            rw [HY.out] at hz; cases hz; show x ≤ y1; omega)
        have hgI : ¬ g < 0 := by omega
        clear hyx hg
        go_wp2_with fail
        refine HCL.out.mono ?_
        rintro e w' ⟨rfl, hb⟩
        have HB2 := Lib.hid (HB.out.trans (hb.mono HB.out.size))
        clear hb
        go_wp2_with fail
        exact ⟨⟨lo, m, rfl, rfl, by omega, by omega, HB2, HLO, HH2⟩, by simp [intOf]; omega⟩
    · obtain rfl : lo = hi := by omega
      by_cases hln : lo < n
      · obtain ⟨y, hy⟩ : ∃ y, L[lo]? = some y := ⟨L[lo]'(by have := HN.out; omega), by simp⟩
        obtain ⟨y1, y2⟩ := y
        obtain ⟨vb, vo, rfl, _, hvc1, hvc2, d0, d1⟩ := (HR.out.below HB.out).at hy
        simp only at d0 d1
        unfold maxLen at hvc2
        have HCL := Lib.hid (HC.out y1 y2 wr)
        clear hy
        go_wp2_with fail
        refine HCL.out.mono ?_
        rintro e w' ⟨rfl, hb⟩
        have HB2 := Lib.hid (HB.out.trans (hb.mono HB.out.size))
        clear hb
        go_wp2_with fail
        go_ret2
        exact ⟨⟨lo, _, rfl, hin, HLO.out, HHI.out⟩, HB2.out⟩
      · go_wp2_with fail
        go_ret2
        exact ⟨⟨lo, _, rfl, hin, HLO.out, HHI.out⟩, HB.out⟩
end Go.Proofs.YtfpepoebammeoaaGreat
