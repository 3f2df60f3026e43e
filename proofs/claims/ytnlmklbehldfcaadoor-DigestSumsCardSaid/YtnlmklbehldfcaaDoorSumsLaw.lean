/- The statement of Sum and Name: whichever text: the law's function answers true. -/
import Derived.Test.YtnlmklbehldfcaaDoorAwakeD
import Derived.Test.YtnlmklbehldfcaaDoorRRaw
import Derived.Test.YtnlmklbehldfcaaDoorRSum
set_option linter.unusedVariables false
namespace Go.Proofs.YtnlmklbehldfcaaDoor
open Go.ChangeShapes Go.WideShapes Go.ChangeAt Go.RowKit

theorem sum_is (s : List UInt8) : shaR KK H0 s = sumL s := by rw [sumL, sha_same]
theorem right_name (s : List UInt8) : rightL (hexL (sumL s)) = true := by
  rw [rightL, raw_hex, hexL_len, sumL_len]; rfl

set_option maxHeartbeats 2000000 in
set_option maxRecDepth 100000 in
theorem sumslaw (s : ByteArray) (w : World) (hk : HasK w) :
    Calls Tryd.prog 3 #[.string s] w fun e w' => e = .returned (.bool true) ∧ Below w.heap.size w w' := by
  have hw := awake_any w hk
  have HA := Lib.hid hw
  have HK := Lib.hid hk
  clear hw hk
  by_cases hbig : 3000 < s.size
  · go_enter Tryd.func3, Tryd.ntmps3
    go_wp2_with fail
    refine HA.out.mono ?_
    rintro e w1 ⟨rfl, hb1⟩
    go_wp2
    go_ret
    exact ⟨rfl, hb1⟩
  · have h1 := fun w hk => sum_any s w hk (by omega)
    have h2 := fun w hk => name_any s w hk (by omega)
    have h3 := fun w => rsum_any s w (by omega)
    have hDl := sumL_len s.data.toList
    have hr := right_name s.data.toList
    simp only [sum_is] at h3
    obtain ⟨X, hX⟩ : ∃ X, X = sumL s.data.toList := ⟨_, rfl⟩
    rw [← hX] at h1 h2 h3 hDl hr
    have hD : (⟨X.toArray⟩ : ByteArray).data.toList = X := by simp
    have hDs : (⟨X.toArray⟩ : ByteArray).size = 32 := by show X.toArray.size = 32; rw [List.size_toArray, hDl]
    have hNs : (⟨(hexL X).toArray⟩ : ByteArray).size = 64 := by show (hexL X).toArray.size = 64; rw [List.size_toArray, hexL_len, hDl]
    have hN : (⟨(hexL X).toArray⟩ : ByteArray).data.toList = hexL X := by simp
    have h4 := fun w => rhex_any ⟨X.toArray⟩ w (by rw [hDs]; omega)
    have h5 := fun w => right_any ⟨(hexL X).toArray⟩ w (by rw [hNs]; omega)
    rw [hD] at h4
    rw [hN, hr] at h5
    obtain ⟨D, hDe⟩ : ∃ D : ByteArray, D = ⟨X.toArray⟩ := ⟨_, rfl⟩
    obtain ⟨N, hNe⟩ : ∃ N : ByteArray, N = ⟨(hexL X).toArray⟩ := ⟨_, rfl⟩
    rw [← hDe] at h1 h3 h4 hDs
    rw [← hNe] at h2 h4 h5
    have H1 := Lib.hid h1
    have H2 := Lib.hid h2
    have H3 := Lib.hid h3
    have H4 := Lib.hid h4
    have H5 := Lib.hid h5
    clear h1 h2 h3 h4 h5 hX hD hN hNs hDl hr hDe hNe
    go_enter Tryd.func3, Tryd.ntmps3
    go_wp2_with fail
    refine HA.out.mono ?_
    rintro e w1 ⟨rfl, hb1⟩
    have HB1 := Lib.hid hb1
    clear hb1
    go_wp2_with fail
    refine (H1.out _ (HK.out.below HB1.out)).mono ?_
    rintro e w2 ⟨rfl, hb⟩
    have HB2 := Lib.hid (HB1.out.trans (hb.mono HB1.out.size))
    clear hb
    go_wp2_with fail
    refine (H2.out _ (HK.out.below HB2.out)).mono ?_
    rintro e w3 ⟨rfl, hb⟩
    have HB3 := Lib.hid (HB2.out.trans (hb.mono HB2.out.size))
    clear hb
    go_wp2_with fail
    refine (H3.out _).mono ?_
    rintro e w4 ⟨rfl, hb⟩
    have HB4 := Lib.hid (HB3.out.trans (hb.mono HB3.out.size))
    clear hb
    go_wp2_with fail
    refine (H4.out _).mono ?_
    rintro e w5 ⟨rfl, hb⟩
    have HB5 := Lib.hid (HB4.out.trans (hb.mono HB4.out.size))
    clear hb
    go_wp2_with fail
    refine (H5.out _).mono ?_
    rintro e w6 ⟨rfl, hb⟩
    have HB6 := Lib.hid (HB5.out.trans (hb.mono HB5.out.size))
    clear hb
    go_wp2
    go_ret
    exact ⟨rfl, HB6.out⟩
end Go.Proofs.YtnlmklbehldfcaaDoor
