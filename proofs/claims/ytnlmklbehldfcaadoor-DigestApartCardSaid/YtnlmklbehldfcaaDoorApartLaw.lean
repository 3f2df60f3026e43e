/- The statement of two texts that part in one bit: whichever text and bit: the law's function answers true. -/
import Derived.Test.YtnlmklbehldfcaaDoorAwakeD
import Derived.Test.YtnlmklbehldfcaaDoorRSum
import Derived.Test.YtnlmklbehldfcaaDoorSumsLaw
set_option linter.unusedVariables false
namespace Go.Proofs.YtnlmklbehldfcaaDoor
open Go.ChangeShapes Go.WideShapes Go.ChangeAt Go.RowKit

theorem u8_byte (op : BinOp) (a b : Int) : ∃ y : UInt8, bits op .u8 a b = bv y := by
  obtain ⟨z, hz⟩ : ∃ z : Int, bits op .u8 a b = z % 256 := ⟨_, by unfold bits; rw [IntKind.wrap_u8']⟩
  refine ⟨UInt8.ofNat (z % 256).toNat, ?_⟩
  rw [hz, bv, UInt8.toNat_ofNat']
  have : (2 : Nat) ^ 8 = 256 := rfl
  rw [this]; omega

theorem bys_set (l : List UInt8) (k : Nat) (y : UInt8) : (bys l).set k (.int .u8 (bv y)) = bys (l.set k y) := by simp [bys, List.map_set]

set_option maxHeartbeats 2000000 in
set_option maxRecDepth 100000 in
theorem apartlaw (s : ByteArray) (at' bit : Int) (w : World) (hk : HasK w) :
    Calls Tryd.prog 5 #[.string s, .int .i64 at', .int .i64 bit] w fun e w' => e = .returned (.bool true) ∧ Below w.heap.size w w' := by
  have hw := awake_any w hk
  have HA := Lib.hid hw
  have HK := Lib.hid hk
  clear hw hk
  by_cases hbig : 2000 < s.size
  · go_enter Tryd.func5, Tryd.ntmps5
    go_wp2_with fail
    refine HA.out.mono ?_
    rintro e w1 ⟨rfl, hb1⟩
    go_wp2
    go_ret
    exact ⟨rfl, hb1⟩
  · by_cases hneg : at' < 0
    · go_enter Tryd.func5, Tryd.ntmps5
      go_wp2_with fail
      refine HA.out.mono ?_
      rintro e w1 ⟨rfl, hb1⟩
      go_wp2
      go_ret
      exact ⟨rfl, hb1⟩
    · by_cases hover : (s.size : Int) ≤ at'
      · go_enter Tryd.func5, Tryd.ntmps5
        go_wp2_with fail
        refine HA.out.mono ?_
        rintro e w1 ⟨rfl, hb1⟩
        go_wp2
        go_ret
        exact ⟨rfl, hb1⟩
      · obtain ⟨k, rfl⟩ : ∃ k : Nat, at' = (k : Int) := ⟨at'.toNat, by omega⟩
        have hks : k < s.size := by omega
        have hl : s.data.toList.length = s.size := Array.length_toList
        obtain ⟨L, hL⟩ : ∃ L, L = s.data.toList := ⟨_, rfl⟩
        rw [← hL] at hl
        obtain ⟨c, hc⟩ : ∃ c, L[k]? = some c := ⟨L[k]'(by rw [hl]; exact hks), List.getElem?_eq_getElem _⟩
        have HL := Lib.hid hL
        have HLL := Lib.hid hl
        have HC := Lib.hid hc
        clear hL hl hc
        have h1 := fun w hk => sum_any s w hk (by omega)
        have h2 := fun w => rsum_any s w (by omega)
        simp only [sum_is] at h2
        obtain ⟨D, hD⟩ : ∃ D : ByteArray, D = ⟨(sumL s.data.toList).toArray⟩ := ⟨_, rfl⟩
        rw [← hD] at h1 h2
        have H1 := Lib.hid h1
        have H2 := Lib.hid h2
        clear h1 h2 hD
        have hks' : (k : Int) < s.size := by omega
        have hk0 : (0 : Int) ≤ k := by omega
        go_enter Tryd.func5, Tryd.ntmps5
        go_wp2_with fail
        refine HA.out.mono ?_
        rintro e w1 ⟨rfl, hb1⟩
        have HB1 := Lib.hid hb1
        have hs1 := hb1.size
        clear hb1
        obtain ⟨v0, w2, hrun, harr, hb2⟩ := arr_bytes (B := w.heap.size) (P := Tryd.prog) w1 9 32 5 s Tryd.underlying9 Tryd.underlying32 Tryd.underlying5 hs1 (by omega)
        rw [← HL.out] at harr
        obtain ⟨b, cap, hv, hbb, hb3, hcap, hcm, hth, hcl⟩ := harr.pos (by intro h; have e1 := bys_len L; rw [h, HLL.out] at e1; simp at e1; omega)
        rw [bys_len, HLL.out] at hv
        subst hv
        have cc := hcl k _ (bys_at HC.out)
        have cf := (hth k (by have := bys_len L; have := HLL.out; omega)).2
        have HARR := Lib.hid harr
        have HB2 := Lib.hid (HB1.out.trans hb2)
        clear harr hth hcl hb2
        obtain ⟨r, hr⟩ : ∃ r, bit.tmod 8 = r := ⟨_, rfl⟩
        have hr1 : -8 < r ∧ r < 8 := by rw [← hr]; exact ⟨Int.lt_tmod_of_pos _ (by decide), Int.tmod_lt_of_pos _ (by decide)⟩
        obtain ⟨hr2, hr3⟩ := hr1
        obtain ⟨m, hm⟩ : ∃ m : Nat, (r + 8) % 8 = (m : Int) := ⟨((r + 8) % 8).toNat, by omega⟩
        have hm8 : (m : Int) ≤ 7 := by omega
        have hm' : (r + 8).tmod 8 = (m : Int) := by rw [Int.tmod_eq_emod_of_nonneg (by omega), hm]
        have hw8 : IntKind.i64.wrap (r + 8) = r + 8 := by rw [IntKind.wrap_i64]; omega
        obtain ⟨w3, rfl⟩ : ∃ w3, w3 = w2 := ⟨w2, rfl⟩
        go_wp2
        go_region
        obtain ⟨y, hy⟩ := u8_byte .xor (bv c) (2 ^ m % 256)
        rw [hy]
        have harr2 := HARR.out.set (k := k) (by have := bys_len L; have := HLL.out; omega) (.int .u8 (bv y))
        rw [bys_set] at harr2
        have hb3' : Below w.heap.size w (w3.setCell ⟨b, k, none⟩ (.int .u8 (bv y))) := HB2.out.setCell (p := ⟨b, k, none⟩) hbb _
        obtain ⟨w4, hw4⟩ : ∃ w4, w4 = (w3.setCell ⟨b, k, none⟩ (.int .u8 (bv y))).drew := ⟨_, rfl⟩
        have harr4 : Arr w.heap.size w4 (.slice (some ⟨b, 0, none⟩) s.size cap) (bys (L.set k y)) := by rw [hw4]; exact harr2.drew
        have hb4 : Below w.heap.size w w4 := by rw [hw4]; exact hb3'.drew
        rw [← hw4]
        have HARR4 := Lib.hid harr4
        have HB4 := Lib.hid hb4
        clear harr2 hb3' hw4 harr4 hb4 hy HARR HB2 cc cf
        obtain ⟨T, hT⟩ : ∃ T : ByteArray, T = ⟨(L.set k y).toArray⟩ := ⟨_, rfl⟩
        have hTs : T.size = s.size := by rw [hT]; show (L.set k y).toArray.size = s.size; rw [List.size_toArray, List.length_set, HLL.out]
        have hTl : T.data.toList = L.set k y := by rw [hT]
        have hst := arr_string (P := Tryd.prog) HARR4.out 32 9 5 Tryd.underlying32 Tryd.underlying5 Tryd.underlying9
        rw [← hT] at hst
        have h1 := fun w hk => sum_any T w hk (by omega)
        have h2 := fun w => rsum_any T w (by omega)
        simp only [sum_is] at h2
        obtain ⟨DT, hDT⟩ : ∃ D : ByteArray, D = ⟨(sumL T.data.toList).toArray⟩ := ⟨_, rfl⟩
        rw [← hDT] at h1 h2
        have H3 := Lib.hid h1
        have H4 := Lib.hid h2
        have HT := Lib.hid hT
        clear h1 h2 hDT hT hTl
        go_wp2_with fail
        refine (H4.out _).mono ?_
        rintro e w5 ⟨rfl, hb⟩
        have HB5 := Lib.hid (HB4.out.trans (hb.mono HB4.out.size))
        have HARR5 := Lib.hid (HARR4.out.below hb)
        clear hb hst
        go_wp2_with fail
        refine (H2.out _).mono ?_
        rintro e w6 ⟨rfl, hb⟩
        have HB6 := Lib.hid (HB5.out.trans (hb.mono HB5.out.size))
        have HARR6 := Lib.hid (HARR5.out.below hb)
        clear hb
        have hst := arr_string (P := Tryd.prog) HARR6.out 32 9 5 Tryd.underlying32 Tryd.underlying5 Tryd.underlying9
        rw [← HT.out] at hst
        go_wp2_with fail
        refine (H3.out _ (HK.out.below HB6.out)).mono ?_
        rintro e w7 ⟨rfl, hb⟩
        have HB7 := Lib.hid (HB6.out.trans (hb.mono HB6.out.size))
        clear hb hst
        go_wp2_with fail
        refine (H1.out _ (HK.out.below HB7.out)).mono ?_
        rintro e w8 ⟨rfl, hb⟩
        have HB8 := Lib.hid (HB7.out.trans (hb.mono HB7.out.size))
        clear hb
        go_wp2
        go_ret
        exact ⟨rfl, HB8.out⟩
end Go.Proofs.YtnlmklbehldfcaaDoor
