/- The statement of Hex: whichever text: the law's function answers true. -/
import Derived.Test.YtnlmklbehldfcaaDoorAwakeD
import Derived.Test.YtnlmklbehldfcaaDoorRRaw
import Derived.Test.YtnlmklbehldfcaaDoorHasErr
set_option linter.unusedVariables false
namespace Go.Proofs.YtnlmklbehldfcaaDoor
open Go.ChangeShapes Go.WideShapes Go.ChangeAt Go.RowKit

def rawC (o : Option (List UInt8)) : Int := match o with | some _ => 0 | none => 4
theorem code_raw (o : Option (List UInt8)) (w : World) (hg : HasErr w) : Calls Tryd.prog 15 #[rawE o] w fun e w' => e = .returned (.int .i64 (rawC o)) ∧ Below w.heap.size w w' := by
  cases o with
  | some m => exact (code_nil w).mono fun e w' ⟨he, hw⟩ => ⟨he, hw ▸ Below.refl _ _⟩
  | none => exact code_errno 4 w hg
theorem mk_data (s : ByteArray) : (⟨s.data.toList.toArray⟩ : ByteArray) = s := by cases s; simp

set_option maxHeartbeats 2000000 in
set_option maxRecDepth 100000 in
theorem hexlaw (s : ByteArray) (w : World) (hk : HasK w) (hg : HasErr w) (hs : s.size ≤ 140737488355328) :
    Calls Tryd.prog 4 #[.string s] w fun e w' => e = .returned (.bool true) ∧ Below w.heap.size w w' := by
  have hw := awake_any w hk
  have HA := Lib.hid hw
  have HG := Lib.hid hg
  clear hw hg
  by_cases hbig : 20000 < s.size
  · go_enter Tryd.func4, Tryd.ntmps4
    go_wp2_with fail
    refine HA.out.mono ?_
    rintro e w1 ⟨rfl, hb1⟩
    go_wp2
    go_ret
    exact ⟨rfl, hb1⟩
  · have hl : s.data.toList.length = s.size := Array.length_toList
    have h1 := fun w => hex_any s w (by omega)
    have h6 := fun w => rhex_any s w (by omega)
    have h3 := fun w => raw_any s w (by omega)
    have h4 := fun w => rraw_any s w (by omega)
    have h7 := fun w => right_any s w (by omega)
    have h8 := fun w => rright_any s w (by omega)
    have h2 := fun w => raw_any ⟨(hexL s.data.toList).toArray⟩ w (by show (hexL s.data.toList).toArray.size ≤ _; rw [List.size_toArray, hexL_len, hl]; omega)
    rw [show (⟨(hexL s.data.toList).toArray⟩ : ByteArray).data.toList = hexL s.data.toList from by simp, raw_hex] at h2
    obtain ⟨Y, hY⟩ : ∃ Y : ByteArray, Y = ⟨(hexL s.data.toList).toArray⟩ := ⟨_, rfl⟩
    obtain ⟨o, ho⟩ : ∃ o, o = rawL s.data.toList := ⟨_, rfl⟩
    obtain ⟨b, hb⟩ : ∃ b, b = rightL s.data.toList := ⟨_, rfl⟩
    rw [← hY] at h1 h2 h6
    rw [← ho] at h3 h4
    rw [← hb] at h7 h8
    have h2' : ∀ w, Calls Tryd.prog 13 #[.string Y] w fun e w' => e = .returned (.tuple #[.string s, .nilIface]) ∧ Below w.heap.size w w' := fun w => by
      have := h2 w
      simp only [rawS, rawE, mk_data] at this
      exact this
    have H1 := Lib.hid h1
    have H2 := Lib.hid h2'
    have H3 := Lib.hid h3
    have H4 := Lib.hid h4
    have H6 := Lib.hid h6
    have H7 := Lib.hid h7
    have H8 := Lib.hid h8
    clear h1 h2 h2' h3 h4 h6 h7 h8 hY ho hb hl
    go_enter Tryd.func4, Tryd.ntmps4
    go_wp2_with fail
    refine HA.out.mono ?_
    rintro e w1 ⟨rfl, hb1⟩
    have HB1 := Lib.hid hb1
    clear hb1
    go_wp2_with fail
    refine (H1.out _).mono ?_
    rintro e w2 ⟨rfl, hb⟩
    have HB2 := Lib.hid (HB1.out.trans (hb.mono HB1.out.size))
    clear hb
    go_wp2_with fail
    refine (H2.out _).mono ?_
    rintro e w3 ⟨rfl, hb⟩
    have HB3 := Lib.hid (HB2.out.trans (hb.mono HB2.out.size))
    clear hb
    go_wp2_with fail
    refine (H3.out _).mono ?_
    rintro e w4 ⟨rfl, hb⟩
    have HB4 := Lib.hid (HB3.out.trans (hb.mono HB3.out.size))
    clear hb
    cases o with
    | none =>
      simp only [rawS, rawE]
      go_wp2_with fail
      refine (H4.out _).mono ?_
      rintro e w5 ⟨rfl, hb⟩
      have HB5 := Lib.hid (HB4.out.trans (hb.mono HB4.out.size))
      clear hb
      simp only [rawS, rawN]
      go_wp2_with fail
      refine (H6.out _).mono ?_
      rintro e w6 ⟨rfl, hb⟩
      have HB6 := Lib.hid (HB5.out.trans (hb.mono HB5.out.size))
      clear hb
      go_wp2_with fail
      refine (code_raw none _ (HG.out.below HB6.out)).mono ?_
      rintro e w7 ⟨rfl, hb⟩
      have HB7 := Lib.hid (HB6.out.trans (hb.mono HB6.out.size))
      clear hb
      simp only [rawC]
      go_wp2_with fail
      refine (H7.out _).mono ?_
      rintro e w8 ⟨rfl, hb⟩
      have HB8 := Lib.hid (HB7.out.trans (hb.mono HB7.out.size))
      clear hb
      go_wp2_with fail
      refine (H8.out _).mono ?_
      rintro e w9 ⟨rfl, hb⟩
      have HB9 := Lib.hid (HB8.out.trans (hb.mono HB8.out.size))
      clear hb
      go_wp2
      go_ret
      exact ⟨by simp, HB9.out⟩
    | some m =>
      simp only [rawS, rawE]
      go_wp2_with fail
      refine (H4.out _).mono ?_
      rintro e w5 ⟨rfl, hb⟩
      have HB5 := Lib.hid (HB4.out.trans (hb.mono HB4.out.size))
      clear hb
      simp only [rawS, rawN]
      go_wp2_with fail
      refine (H6.out _).mono ?_
      rintro e w6 ⟨rfl, hb⟩
      have HB6 := Lib.hid (HB5.out.trans (hb.mono HB5.out.size))
      clear hb
      go_wp2_with fail
      refine (code_raw (some m) _ (HG.out.below HB6.out)).mono ?_
      rintro e w7 ⟨rfl, hb⟩
      have HB7 := Lib.hid (HB6.out.trans (hb.mono HB6.out.size))
      clear hb
      simp only [rawC]
      go_wp2_with fail
      refine (H7.out _).mono ?_
      rintro e w8 ⟨rfl, hb⟩
      have HB8 := Lib.hid (HB7.out.trans (hb.mono HB7.out.size))
      clear hb
      go_wp2_with fail
      refine (H8.out _).mono ?_
      rintro e w9 ⟨rfl, hb⟩
      have HB9 := Lib.hid (HB8.out.trans (hb.mono HB8.out.size))
      clear hb
      go_wp2
      go_ret
      exact ⟨by simp, HB9.out⟩
end Go.Proofs.YtnlmklbehldfcaaDoor
