/- The contracts of Linear, Check and Past. -/
import Derived.Test.YteaencgbgfnokaaDoorM21
import Derived.Test.YteaencgbgfnokaaDoorM25
set_option linter.unusedVariables false
namespace Go.Proofs.YteaencgbgfnokaaDoor
open Go.ChangeShapes Go.WideShapes Go.ChangeAt Go.RowKit

noncomputable abbrev needS (S : SetB) : Int → List Int := needB (nsB S) (s6 S)
def LinR (S : SetB) (out : Lb) (k : Int) : Prop :=
  ((nsB S).length < S.length ∧ out = [] ∧ k = 12) ∨
  ((nsB S).length = S.length ∧ ∃ told : List Int, ReachK (needS S) (nsB S).length told ∧ nextK (needS S) (nsB S).length told = none ∧ ((told.length < S.length ∧ out = [] ∧ k = 11) ∨ (told.length = S.length ∧ out = told.map (fun u => (nsOf S).getD u.toNat ByteArray.empty) ∧ k = 0)))
def errV (k : Int) : Value := if k = 0 then .nilIface else .iface 49 (.int .i64 k)
def SmallS (S : SetB) : Prop := S.length ≤ 60 ∧ (S.map fun p => p.2.length).sum ≤ 400
theorem s6_sum (S : SetB) : ((s6 S).map fun p => p.2.length).sum = (S.map fun p => p.2.length).sum := by
  unfold s6
  rw [List.map_map]
  congr 1
  exact List.map_congr_left fun p _ => by simp
theorem needS_len {S : SetB} (h : SmallS S) (u : Int) : (needS S u).length ≤ 400 := by
  have h1 := needB_sum (nsB S) u (s6 S)
  rw [s6_sum] at h1
  exact Nat.le_trans h1 h.2
theorem needS_range {S : SetB} (u : Nat) : ∀ d ∈ needS S (u : Int), d = -1 ∨ ∃ v : Nat, v < (nsB S).length ∧ d = (v : Int) := fun d hd => needB_range hd
theorem gridB_eq (S : SetB) : gridB (nsB S) (s6 S) = (List.range (nsB S).length).map fun u : Nat => needS S (u : Int) := rfl

set_option maxHeartbeats 600000 in
set_option maxRecDepth 100000 in
theorem linear_any (S : SetB) (v : Value) (w : World) (hS : SReads w v S) (hsm : SmallS S) :
    Calls Tryd.prog 6 #[v] w fun e w' => ∃ ov out k, e = .returned (.tuple #[ov, errV k]) ∧ LinR S out k ∧ Reads w' ov out ∧ Below w.heap.size w w' := by
  have WV := weave_any S v w hS hsm.1 hsm.2
  obtain ⟨sa, sc, rfl, _⟩ := hS.form
  obtain ⟨n, hnn⟩ : ∃ n, n = S.length := ⟨_, rfl⟩
  have hn60 : n ≤ 60 := by rw [hnn]; exact hsm.1
  rw [← hnn] at WV ⊢
  have HWV := Lib.hid WV
  have HN := Lib.hid hnn
  have HSM := Lib.hid hsm
  clear WV hS hnn hsm
  go_enter Tryd.func6, Tryd.ntmps6
  go_wp2_with fail
  refine HWV.out.mono ?_
  rintro e w1 ⟨nv, gv, rfl, hweb, hb1⟩
  obtain ⟨m, hm⟩ : ∃ m, m = (nsB S).length := ⟨_, rfl⟩
  have hnl : (nsOf S).length = m := by rw [nsOf_len, hm]
  obtain ⟨na, nc, hnv, _⟩ := hweb.names.form
  obtain ⟨gb, gs, gc, hgv, _⟩ := hweb.rows
  rw [hnl] at hnv hgv
  subst hnv; subst hgv
  have hmn : m ≤ n := by rw [hm, HN.out]; exact nsB_len S
  have hbx : Below w1.heap.size w1 (w1.alloc (.cells #[.slice na m nc, .slice (some ⟨gb, 0, none⟩) m gc] 47)) := (Below.refl _ _).alloc (Nat.le_refl _) _
  have LI := line_any (nsOf S) m (needS S) _ _ _ (by have := hweb.below hbx; rw [gridB_eq, ← hm] at this; exact this) hnl (by omega) (fun u => needS_len HSM.out u) (fun u hu => by have := needS_range (S := S) u; rw [← hm] at this; exact this)
  have HLI := Lib.hid LI
  have HB2 := Lib.hid (hb1.trans (hbx.mono hb1.size))
  have HM := Lib.hid hm
  clear LI hweb hb1 hbx hm hnl
  by_cases hlt : m < n
  · have HRES : Hid (LinR S [] 12) := Lib.hid (.inl ⟨by rw [← HM.out, ← HN.out]; exact hlt, rfl, rfl⟩)
    go_wp2_with fail
    go_ret2
    exact ⟨_, [], 12, rfl, HRES.out, .inl ⟨rfl, none, 0, rfl⟩, HB2.out⟩
  · have hme : m = n := by omega
    have HME := Lib.hid hme
    clear hme
    go_wp2_with fail
    refine HLI.out.mono ?_
    rintro e w3 ⟨ov, told, rfl, hre, hnx, hrow, hb3⟩
    obtain ⟨q, hq⟩ : ∃ q, q = told.length := ⟨_, rfl⟩
    obtain ⟨oa, oc, hov⟩ := hrow.form
    rw [← hq] at hov
    subst hov
    have hqm : q ≤ m := by rw [hq]; exact reach_len hre
    have HRD := Lib.hid (row_reads (xs := told.map fun u => (nsOf S).getD u.toNat ByteArray.empty) (by rw [List.map_map]; exact hrow))
    have HQ := Lib.hid hq
    have HRE := Lib.hid (HM.out ▸ hre)
    have HNX := Lib.hid (HM.out ▸ hnx)
    have HB3 := Lib.hid (HB2.out.trans (hb3.mono HB2.out.size))
    clear hre hnx hrow hb3 hq
    by_cases hlt2 : q < n
    · have HRES : Hid (LinR S [] 11) := Lib.hid (.inr ⟨by rw [← HM.out, HME.out, HN.out], told, HRE.out, HNX.out, .inl ⟨by rw [← HQ.out, ← HN.out]; exact hlt2, rfl, rfl⟩⟩)
      go_wp2_with fail
      go_ret2
      exact ⟨_, [], 11, rfl, HRES.out, .inl ⟨rfl, none, 0, rfl⟩, HB3.out⟩
    · have HRES : Hid (LinR S (told.map fun u => (nsOf S).getD u.toNat ByteArray.empty) 0) := Lib.hid (.inr ⟨by rw [← HM.out, HME.out, HN.out], told, HRE.out, HNX.out, .inr ⟨by rw [← HQ.out, ← HN.out]; have := HME.out; omega, rfl, rfl⟩⟩)
      go_wp2_with fail
      go_ret2
      exact ⟨_, _, 0, rfl, HRES.out, HRD.out, HB3.out⟩

set_option maxHeartbeats 600000 in
theorem check_any (S : SetB) (v : Value) (w : World) (hS : SReads w v S) (hsm : SmallS S) :
    Calls Tryd.prog 12 #[v] w fun e w' => ∃ out k, e = .returned (errV k) ∧ LinR S out k ∧ Below w.heap.size w w' := by
  have HL := Lib.hid (linear_any S v w hS hsm)
  clear hS
  go_enter Tryd.func12, Tryd.ntmps12
  go_wp2_with fail
  refine HL.out.mono ?_
  rintro e w1 ⟨ov, out, k, rfl, hlin, hrd, hb⟩
  obtain ⟨ev, hev⟩ : ∃ ev, ev = errV k := ⟨_, rfl⟩
  rw [← hev]
  have HEV := Lib.hid hev
  clear hev hrd
  go_wp2_with fail
  go_ret
  exact ⟨out, k, by rw [← HEV.out]; rfl, hlin, hb⟩

def PastR (S : SetB) (nm : Bs) (out : Lb) : Prop :=
  ∃ pred : Nat → Bool, (∀ u : Nat, pred u = true ↔ PastK (needS S) (placeB (nsB S) nm) (u : Int)) ∧ out = if nm ∈ nsB S then onlyL (nsOf S) pred (nsB S).length else []
set_option maxHeartbeats 600000 in
set_option maxRecDepth 100000 in
theorem pastS_any (S : SetB) (v : Value) (nm : ByteArray) (w : World) (hS : SReads w v S) (hsm : SmallS S) :
    Calls Tryd.prog 13 #[v, .string nm] w fun e w' => ∃ ov out, e = .returned ov ∧ PastR S (bsOf nm) out ∧ Reads w' ov out ∧ Below w.heap.size w w' := by
  have WV := weave_any S v w hS hsm.1 hsm.2
  obtain ⟨sa, sc, rfl, _⟩ := hS.form
  obtain ⟨n, hnn⟩ : ∃ n, n = S.length := ⟨_, rfl⟩
  have hn60 : n ≤ 60 := by rw [hnn]; exact hsm.1
  rw [← hnn] at WV ⊢
  have HWV := Lib.hid WV
  have HN := Lib.hid hnn
  have HSM := Lib.hid hsm
  clear WV hS hnn hsm
  go_enter Tryd.func13, Tryd.ntmps13
  go_wp2_with fail
  refine HWV.out.mono ?_
  rintro e w1 ⟨nv, gv, rfl, hweb, hb1⟩
  obtain ⟨m, hm⟩ : ∃ m, m = (nsB S).length := ⟨_, rfl⟩
  have hnl : (nsOf S).length = m := by rw [nsOf_len, hm]
  obtain ⟨na, nc, hnv, _⟩ := hweb.names.form
  obtain ⟨gb, gs, gc, hgv, _⟩ := hweb.rows
  rw [hnl] at hnv hgv
  subst hnv; subst hgv
  have hmn : m ≤ n := by rw [hm, HN.out]; exact nsB_len S
  obtain ⟨w2, hw2⟩ : ∃ w2, w2 = w1.alloc (.cells #[.slice na m nc, .slice (some ⟨gb, 0, none⟩) m gc] 47) := ⟨_, rfl⟩
  have hbx : Below w1.heap.size w1 w2 := by rw [hw2]; exact (Below.refl _ _).alloc (Nat.le_refl _) _
  have d0 : w2.cell? ⟨w1.heap.size, 0, none⟩ = some (.slice na m nc) := by rw [hw2, World.cell?_alloc_at _ _ _ _ rfl]; rfl
  have d1 : w2.cell? ⟨w1.heap.size, 1, none⟩ = some (.slice (some ⟨gb, 0, none⟩) m gc) := by rw [hw2, World.cell?_alloc_at _ _ _ _ rfl]; rfl
  have hlt12 : w1.heap.size < w2.heap.size := by rw [hw2]; simp
  have hweb2 := hweb.below hbx
  have PL := place_any (nsOf S) _ (.slice (some ⟨gb, 0, none⟩) m gc) nm w2 hweb2.names (by rw [nsOf_bs]; exact (nsB_spec S).1) (by omega)
  rw [nsOf_bs] at PL
  have HPL := Lib.hid PL
  have HWEB := Lib.hid hweb2
  have HB2 := Lib.hid (hb1.trans (hbx.mono hb1.size))
  have HM := Lib.hid hm
  have HNL := Lib.hid hnl
  have HD0 := Lib.hid d0
  have HD1 := Lib.hid d1
  have HW2 := Lib.hid hw2
  rw [hw2] at PL
  have HPL2 := Lib.hid PL
  clear PL hweb hweb2 hb1 hbx hm hnl d0 d1 hw2
  go_wp2_with fail
  refine HPL2.out.mono ?_
  rintro e w3 ⟨rfl, hb3⟩
  rw [← HW2.out] at hb3
  have k0 := (hb3.cell (p := ⟨w1.heap.size, 0, none⟩) hlt12).trans HD0.out
  have k1 := (hb3.cell (p := ⟨w1.heap.size, 1, none⟩) hlt12).trans HD1.out
  have hweb3 := HWEB.out.below hb3
  have HB3 := Lib.hid (HB2.out.trans (hb3.mono HB2.out.size))
  have hlt13 : w1.heap.size < w3.heap.size := Nat.lt_of_lt_of_le hlt12 hb3.size
  by_cases hmem : bsOf nm ∈ nsB S
  · obtain ⟨a, ha, hpl, hpe⟩ := place_in hmem
    rw [hpl]
    have ham : a < m := by rw [HM.out]; exact ha
    have e1 : ((a : Int) == (-1 : Int)) = false := by rw [beq_eq_false_iff_ne]; omega
    have PA := past_any (nsOf S) m a (needS S) _ _ w3 (by rw [gridB_eq, ← HM.out] at hweb3; exact hweb3) HNL.out (by omega) ham (fun u => needS_len HSM.out u) (fun u hu => by have := needS_range (S := S) u; rw [← HM.out] at this; exact this)
    have HPA := Lib.hid PA
    have HNA := Lib.hid hweb3.names
    have HPLA := Lib.hid hpl
    clear PA hweb3 hpl hpe ha
    go_wp2_with fail
    refine HPA.out.mono ?_
    rintro e w4 ⟨sb, ssc, seen, rfl, hsl, hsn, hsr, hb4⟩
    have k40 := (hb4.cell (p := ⟨w1.heap.size, 0, none⟩) hlt13).trans k0
    have k41 := (hb4.cell (p := ⟨w1.heap.size, 1, none⟩) hlt13).trans k1
    have hal : ∀ o1 q1 q2 v, w4.cell? ⟨q1, q2, none⟩ = some v → (w4.alloc o1).cell? ⟨q1, q2, none⟩ = some v := fun o1 q1 q2 v hv => (((Below.refl _ w4).alloc (Nat.le_refl _) o1).cell (p := ⟨q1, q2, none⟩) (cell_lt hv)).trans hv
    have k50 := hal (.cells #[.slice (some ⟨sb, 0, none⟩) m ssc] 66) _ _ _ k40
    have k51 := hal (.cells #[.slice (some ⟨sb, 0, none⟩) m ssc] 66) _ _ _ k41
    have hb5 : Below w4.heap.size w4 (w4.alloc (.cells #[.slice (some ⟨sb, 0, none⟩) m ssc] 66)) := (Below.refl _ _).alloc (Nat.le_refl _) _
    have hq5 : (w4.alloc (.cells #[.slice (some ⟨sb, 0, none⟩) m ssc] 66)).cell? ⟨w4.heap.size, 0, none⟩ = some (.slice (some ⟨sb, 0, none⟩) m ssc) := by rw [World.cell?_alloc_at _ _ _ _ rfl]; rfl
    have hsr5 := hsr.below hb5
    have hnm5 := (HNA.out.below hb4).below hb5
    have ON := onlyPast_any (nsOf S) m w4.heap.size (fun u => seen.getD u false) (.slice na m nc) (.slice (some ⟨gb, 0, none⟩) m gc) _ hnm5 HNL.out (by omega) (fun u hu W hW => by
      have hr := hsr5.below hW
      obtain ⟨hc, _, _, _, h1, h2⟩ := hr.cellF (j := u) (bvs_at (by rw [hsl]; exact hu))
      exact past1_any m u w4.heap.size sb ssc seen W hu hsl h1 h2 ((hW.cell (p := ⟨w4.heap.size, 0, none⟩) (by simp)).trans hq5) hc)
    have HON := Lib.hid ON
    have HB5 := Lib.hid (HB3.out.trans ((hb4.trans (hb5.mono hb4.size)).mono HB3.out.size))
    have HRES : Hid (PastR S (bsOf nm) (onlyL (nsOf S) (fun u => seen.getD u false) (nsB S).length)) := Lib.hid ⟨fun u => seen.getD u false, fun u => by rw [HPLA.out]; exact hsn u, by rw [if_pos hmem]⟩
    clear ON hsl hsn hsr hb4 hal hb5 hq5 hsr5 hnm5 k40 k41
    go_wp2_with fail
    refine HON.out.mono ?_
    rintro e w6 ⟨ov, rfl, hrow, hb6⟩
    have HRD := Lib.hid (row_reads hrow)
    have HB6 := Lib.hid (HB5.out.trans (hb6.mono HB5.out.size))
    clear hrow hb6
    go_wp2_with fail
    go_ret
    exact ⟨ov, _, rfl, by rw [← HM.out] at HRES; exact HRES.out, HRD.out, HB6.out⟩
  · rw [place_out hmem]
    have HRES : Hid (PastR S (bsOf nm) []) := Lib.hid ⟨fun u => @decide (PastK (needS S) (placeB (nsB S) (bsOf nm)) (u : Int)) (Classical.propDecidable _), fun u => by simp, by rw [if_neg hmem]⟩
    clear hweb3
    go_wp2_with fail
    go_ret
    exact ⟨_, [], rfl, HRES.out, .inl ⟨rfl, none, 0, rfl⟩, HB3.out⟩
end Go.Proofs.YteaencgbgfnokaaDoor
