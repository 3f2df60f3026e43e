/- Linear's contract with its answer as a row of the call's own: Missing writes into it. -/
import Derived.Test.YteaencgbgfnokaaDoorM26
set_option linter.unusedVariables false
namespace Go.Proofs.YteaencgbgfnokaaDoor
open Go.ChangeShapes Go.WideShapes Go.ChangeAt Go.RowKit

set_option maxHeartbeats 600000 in
set_option maxRecDepth 100000 in
theorem linearW_any (S : SetB) (v : Value) (w : World) (hS : SReads w v S) (hsm : SmallS S) :
    Calls Tryd.prog 6 #[v] w fun e w' => ∃ ov out k, e = .returned (.tuple #[ov, errV k]) ∧ LinR S out k ∧ Row 1 w.heap.size w' ov out.length (out.map .string) ∧ Below w.heap.size w w' := by
  have WV := weave_any S v w hS hsm.1 hsm.2
  obtain ⟨sa, sc, rfl, _⟩ := hS.form
  obtain ⟨n, hnn⟩ : ∃ n, n = S.length := ⟨_, rfl⟩
  have hn60 : n ≤ 60 := by rw [hnn]; exact hsm.1
  rw [← hnn] at WV ⊢
  have HWV := Lib.hid WV
  have HN := Lib.hid hnn
  have HSM := Lib.hid hsm
  clear WV hS hnn hsm
  go_enter Tryd.func6, Tryd.ntmps6
  go_wp2_with fail
  refine HWV.out.mono ?_
  rintro e w1 ⟨nv, gv, rfl, hweb, hb1⟩
  obtain ⟨m, hm⟩ : ∃ m, m = (nsB S).length := ⟨_, rfl⟩
  have hnl : (nsOf S).length = m := by rw [nsOf_len, hm]
  obtain ⟨na, nc, hnv, _⟩ := hweb.names.form
  obtain ⟨gb, gs, gc, hgv, _⟩ := hweb.rows
  rw [hnl] at hnv hgv
  subst hnv; subst hgv
  have hmn : m ≤ n := by rw [hm, HN.out]; exact nsB_len S
  have hbx : Below w1.heap.size w1 (w1.alloc (.cells #[.slice na m nc, .slice (some ⟨gb, 0, none⟩) m gc] 47)) := (Below.refl _ _).alloc (Nat.le_refl _) _
  have LI := line_any (nsOf S) m (needS S) _ _ _ (by have := hweb.below hbx; rw [gridB_eq, ← hm] at this; exact this) hnl (by omega) (fun u => needS_len HSM.out u) (fun u hu => by have := needS_range (S := S) u; rw [← hm] at this; exact this)
  have HLI := Lib.hid LI
  have HB2 := Lib.hid (hb1.trans (hbx.mono hb1.size))
  have HM := Lib.hid hm
  clear LI hweb hb1 hbx hm hnl
  by_cases hlt : m < n
  · have HRES : Hid (LinR S [] 12) := Lib.hid (.inl ⟨by rw [← HM.out, ← HN.out]; exact hlt, rfl, rfl⟩)
    go_wp2_with fail
    go_ret2
    exact ⟨_, [], 12, rfl, HRES.out, Row.nil _ _ _, HB2.out⟩
  · have hme : m = n := by omega
    have HME := Lib.hid hme
    clear hme
    go_wp2_with fail
    refine HLI.out.mono ?_
    rintro e w3 ⟨ov, told, rfl, hre, hnx, hrow, hb3⟩
    obtain ⟨q, hq⟩ : ∃ q, q = told.length := ⟨_, rfl⟩
    obtain ⟨oa, oc, hov⟩ := hrow.form
    rw [← hq] at hov
    subst hov
    have hqm : q ≤ m := by rw [hq]; exact reach_len hre
    have HRD : Hid (Row 1 w.heap.size _ _ (told.map fun u => (nsOf S).getD u.toNat ByteArray.empty).length ((told.map fun u => (nsOf S).getD u.toNat ByteArray.empty).map .string)) := Lib.hid (by rw [List.length_map, List.map_map]; exact hrow.mono HB2.out.size)
    have HQ := Lib.hid hq
    have HRE := Lib.hid (HM.out ▸ hre)
    have HNX := Lib.hid (HM.out ▸ hnx)
    have HB3 := Lib.hid (HB2.out.trans (hb3.mono HB2.out.size))
    clear hre hnx hrow hb3 hq
    by_cases hlt2 : q < n
    · have HRES : Hid (LinR S [] 11) := Lib.hid (.inr ⟨by rw [← HM.out, HME.out, HN.out], told, HRE.out, HNX.out, .inl ⟨by rw [← HQ.out, ← HN.out]; exact hlt2, rfl, rfl⟩⟩)
      go_wp2_with fail
      go_ret2
      exact ⟨_, [], 11, rfl, HRES.out, Row.nil _ _ _, HB3.out⟩
    · have HRES : Hid (LinR S (told.map fun u => (nsOf S).getD u.toNat ByteArray.empty) 0) := Lib.hid (.inr ⟨by rw [← HM.out, HME.out, HN.out], told, HRE.out, HNX.out, .inr ⟨by rw [← HQ.out, ← HN.out]; have := HME.out; omega, rfl, rfl⟩⟩)
      go_wp2_with fail
      go_ret2
      exact ⟨_, _, 0, rfl, HRES.out, HRD.out, HB3.out⟩
end Go.Proofs.YteaencgbgfnokaaDoor
