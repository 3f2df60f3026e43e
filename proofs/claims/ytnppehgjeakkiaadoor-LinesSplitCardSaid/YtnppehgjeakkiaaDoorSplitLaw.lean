/- The statement of Split: whichever text: the law's function answers true. -/
import Derived.Test.YtnppehgjeakkiaaDoorCheck
import Derived.Test.YtnppehgjeakkiaaDoorCode
import Derived.Test.YtnppehgjeakkiaaDoorMarkers
set_option linter.unusedVariables false
namespace Go.Proofs.YtnppehgjeakkiaaDoor
open Go.ChangeShapes Go.WideShapes Go.ChangeAt Go.RowKit

theorem code_ck (b : Bool) (w : World) (hg : HasErr w) : Calls Tryd.prog 12 #[ckV b] w fun e w' => e = .returned (.int .i64 (ckN b)) ∧ Below w.heap.size w w' := by
  cases b
  · exact (code_nil w).mono fun e w' ⟨he, hw⟩ => ⟨he, hw ▸ Below.refl _ _⟩
  · exact code_errno 2 w hg

set_option maxHeartbeats 1000000 in
theorem splitlaw (s : ByteArray) (w : World) (hm : HasMax w) (hg : HasErr w) (hs : s.size ≤ 140737488355328) :
    Calls Tryd.prog 3 #[.string s] w fun e w' => e = .returned (.bool true) ∧ Below w.heap.size w w' := by
  have hw := awake_any w hm
  have HA := Lib.hid hw
  clear hw
  have HM := Lib.hid hm
  clear hm
  have HG := Lib.hid hg
  clear hg
  by_cases hbig : 40000 < s.size
  · go_enter Tryd.func3, Tryd.ntmps3
    go_wp2_with fail
    refine HA.out.mono ?_
    rintro e w1 ⟨rfl, hb1⟩
    go_wp2
    go_ret
    exact ⟨rfl, hb1⟩
  · go_enter Tryd.func3, Tryd.ntmps3
    go_wp2_with fail
    refine HA.out.mono ?_
    rintro e w1 ⟨rfl, hb1⟩
    go_wp2_with fail
    refine (lsplit_any s _ (HM.out.below hb1) (by omega)).mono ?_
    rintro e w2 ⟨v, rfl, hr2, hb2⟩
    have HR := Lib.hid hr2
    clear hr2
    have hb2' := hb1.trans (hb2.mono hb1.size)
    go_wp2_with fail
    refine (rsplit_any s _ (by omega)).mono ?_
    rintro e w3 ⟨v', rfl, hr3, hb3⟩
    have HR3 := Lib.hid hr3
    clear hr3
    have HRb := Lib.hid (HR.out.below hb3)
    have hb3' := hb2'.trans (hb3.mono hb2'.size)
    go_wp2_with fail
    refine (same_any _ _ _ _ _ HRb.out HR3.out).mono ?_
    rintro e w4 ⟨rfl, hb4⟩
    rw [decide_eq_true rfl]
    have HR4 := Lib.hid (HRb.out.below hb4)
    have hb4' := hb3'.trans (hb4.mono hb3'.size)
    go_wp2_with fail
    refine (ljoin_any _ _ _ HR4.out (by rw [data_bsp, join_spl]; have : s.data.toList.length = s.size := Array.length_toList; omega) (by have := bsp_length_le s; omega)).mono ?_
    rintro e w5 ⟨rfl, hb5⟩
    rw [bjoin_bsp]
    have hb5' := hb4'.trans (hb5.mono hb4'.size)
    go_wp2_with fail
    refine (check_any s _ (HM.out.below hb5') hs).mono ?_
    rintro e w6 ⟨rfl, hb6⟩
    have hb6' := hb5'.trans (hb6.mono hb5'.size)
    go_wp2_with fail
    refine (code_ck (cb s) _ (HG.out.below hb6')).mono ?_
    rintro e w7 ⟨rfl, hb7⟩
    have hb7' := hb6'.trans (hb7.mono hb6'.size)
    go_wp2_with fail
    refine (rcheck_any s _ hs).mono ?_
    rintro e w8 ⟨rfl, hb8⟩
    have hb8' := hb7'.trans (hb8.mono hb7'.size)
    go_wp2
    go_ret
    exact ⟨rfl, hb8'⟩

/-- What the row's list gives: the library's variable holds the handle of 'error'. -/
theorem Tryd.et : Tryd.prog.globalNamed "errors.errorType" = some 0 := by kernel_rfl
theorem Tryd.rtNamed : (Tryd.prog.cutTypes.find? (·.1 == "internal/reflectlite.rtype")).map (·.2) = some 68 := by kernel_rfl
theorem Tryd.tsize : Tryd.prog.types.size = 224 - 100 := by kernel_rfl
theorem Tryd.oneRow : ((List.range (224 - 100)).filter fun t => Tryd.prog.rowNamed t [101, 114, 114, 111, 114]) = [29] := by kernel_rfl
theorem hasErr_of {l : List (String × DataW Unit)} {W : World} (h : laidMetH Tryd.prog l W)
    (hl : l.filter (·.2.handleName?.isSome) = [("errors.errorType", DataW.iface "internal/reflectlite.rtype" (.agg [.ptr (.lit (.string [101, 114, 114, 111, 114]))]))]) : HasErr W := by
  unfold laidMetH at h
  rw [hl] at h
  obtain ⟨name, u, ty, e1, e2, e3, e4, e5⟩ := h.2 _ (List.mem_singleton.2 rfl)
  have en : name = [101, 114, 114, 111, 114] := (Option.some.inj e1).symm
  subst en
  obtain rfl := Option.some.inj (Tryd.rtNamed.symm.trans e2)
  have hm : ty ∈ (List.range (224 - 100)).filter fun t => Tryd.prog.rowNamed t [101, 114, 114, 111, 114] := List.mem_filter.2 ⟨List.mem_range.2 (by rw [← Tryd.tsize]; exact e3), e4⟩
  rw [Tryd.oneRow] at hm
  obtain rfl := List.mem_singleton.1 hm
  have hh : typeHandle Tryd.prog 29 = hnd 29 := by kernel_rfl
  rw [hh] at e5
  show W.cell? ⟨0, 0, none⟩ = _
  simpa using World.var?_cell Tryd.et e5 0
end Go.Proofs.YtnppehgjeakkiaaDoor
