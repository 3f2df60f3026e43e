/- The contract of the law's own only: the part of a set whose names are listed. -/
import Derived.Test.YtaemegcemmcgdaaOrdL
import Derived.Test.YtaemegcemmcgdaaRPlace
import Derived.Test.YtaemegcemmcgdaaOffW
import Derived.Test.YtaemegcemmcgdaaEls
set_option linter.unusedVariables false
namespace Go.Proofs.Ytaemegcemmcgdaa
open Go.ChangeShapes Go.WideShapes Go.ChangeAt Go.RowKit

/-- The part whose names are listed. -/
def listedS (S : SetB) (ls : Lb) (k : Nat) : SetB := (S.take k).filter fun p => decide (0 ≤ Lib.idxOfS ls p.1)
theorem listed_step {S : SetB} {ls : Lb} {k : Nat} {p : ByteArray × Lb} (h : S[k]? = some p) : listedS S ls (k + 1) = listedS S ls k ++ if 0 ≤ Lib.idxOfS ls p.1 then [p] else [] := by
  unfold listedS
  rw [List.take_add_one, h, List.filter_append]
  congr 1
  by_cases h : 0 ≤ Lib.idxOfS ls p.1 <;> simp [h]
/-- What the part's making leaves. -/
def PartP (S : SetB) (ls : Lb) (w : World) (e : Ending) (w' : World) : Prop := ∃ ov, e = .returned ov ∧ SReads w' ov (listedS S ls S.length) ∧ Below w.heap.size w w'
set_option maxHeartbeats 600000 in
set_option maxRecDepth 100000 in
theorem part_any (S : SetB) (ls : Lb) (v lv : Value) (q : Nat) (w : World) (hS : SReads w v S) (hl : Reads w lv ls) (hq : w.cell? ⟨q, 0, none⟩ = some v) (hn : S.length ≤ 60) :
    Calls Try.prog 12 #[lv, .pointer (some ⟨q, 0, none⟩)] w (PartP S ls w) := by
  obtain ⟨sa, sc, rfl, _⟩ := hS.form
  obtain ⟨la, lc, rfl, _⟩ := hl.form
  obtain ⟨n, hnn⟩ : ∃ n, n = S.length := ⟨_, rfl⟩
  obtain ⟨L, hLL⟩ : ∃ L, L = ls.length := ⟨_, rfl⟩
  rw [← hnn] at hS hn hq
  rw [← hLL] at hl ⊢
  have HS := Lib.hid hS
  have HN := Lib.hid hnn
  have HL := Lib.hid hl
  clear hS hnn hl hLL
  go_enter Try.func12, Try.ntmps12
  go_wp2_with fail
  go_loopw [4, 9] (fun ov jv wr => ∃ (k m : Nat) (els : List El), jv = .int .i64 (k : Nat) ∧ k ≤ n ∧ m ≤ k ∧ Hid (m = els.length) ∧ Hid (Row 4 w.heap.size wr ov m (els.flatMap El.cells)) ∧ Hid (els.map El.key = listedS S ls k) ∧ Hid (∀ x ∈ els, Reads w (.slice x.da x.deps.length x.dc) x.deps) ∧ Hid (Below w.heap.size w wr)) (fun _ jv _ => n - (intOf jv).toNat)
  case atStart => exact ⟨0, 0, [], rfl, Nat.zero_le _, Nat.le_refl _, Lib.hid rfl, Lib.hid (Row.nil _ _ _), Lib.hid rfl, Lib.hid (by simp), Lib.hid (Below.refl _ _)⟩
  case round =>
    obtain ⟨k, m, els, rfl, hk, hmk, HM, HW, HK, HE, HB⟩ := hrel
    obtain ⟨oa0, oc0, rfl⟩ := HW.out.form
    by_cases hlt : k < n
    · obtain ⟨p, hp⟩ : ∃ p, S[k]? = some p := ⟨S[k]'(by rw [← HN.out]; exact hlt), by simp⟩
      obtain ⟨sb, so, rfl, hsl, hat⟩ := HS.out.at hp
      have hst := listed_step (ls := ls) hp
      obtain ⟨nm, deps⟩ := p
      obtain ⟨nt, dv, oa, ol, oc, c0, c1, c2, c3, hdr⟩ := hat
      obtain ⟨da, dc, hdv, _⟩ := hdr.form
      simp only at hdv hst c0 hdr
      subst hdv
      obtain ⟨dl, hdl⟩ : ∃ dl, dl = deps.length := ⟨_, rfl⟩
      have hdr0 := hdr
      rw [← hdl] at hdr0 c2
      have d0 := (HB.out.cell (p := ⟨sb, so + k * 4, none⟩) hsl).trans c0
      have d1 := (HB.out.cell (p := ⟨sb, so + k * 4 + 1, none⟩) hsl).trans c1
      have d2 := (HB.out.cell (p := ⟨sb, so + k * 4 + 2, none⟩) hsl).trans c2
      have d3 := (HB.out.cell (p := ⟨sb, so + k * 4 + 3, none⟩) hsl).trans c3
      have hba : Below wr.heap.size wr (wr.alloc (.cells #[.string nm, .string nt, .slice da dl dc, .slice oa ol oc] 34)) := (Below.refl _ _).alloc (Nat.le_refl _) _
      have hbwa : Below w.heap.size w (wr.alloc (.cells #[.string nm, .string nt, .slice da dl dc, .slice oa ol oc] 34)) := HB.out.trans (hba.mono HB.out.size)
      have PL := rplace_any ls (.slice la L lc) nm _ (HL.out.below hbwa)
      obtain ⟨ix, hix⟩ : ∃ ix, ix = Lib.idxOfS ls nm := ⟨_, rfl⟩
      rw [← hix] at PL hst
      have HPL := Lib.hid PL
      have HST := Lib.hid hst
      have HDR := Lib.hid hdr
      have HDL := Lib.hid hdl
      have HBWA := Lib.hid hbwa
      have HWA := Lib.hid (HW.out.below hba)
      clear PL hst hdr hdl hdr0 hba hbwa hp hix c0 c1 c2 c3
      go_wp2_with fail
      refine HPL.out.mono ?_
      rintro e w5 ⟨rfl, hb5⟩
      have hx := fun j (u : Value) (hu : #[Value.string nm, .string nt, .slice da dl dc, .slice oa ol oc][j]? = some u) => (hb5.cell (p := ⟨wr.heap.size, j, none⟩) (by simp)).trans (by rw [World.cell?_alloc_at _ _ _ _ rfl]; first | done | exact hu)
      have x0 := hx 0 _ rfl
      have x1 := hx 1 _ rfl
      have x2 := hx 2 _ rfl
      have x3 := hx 3 _ rfl
      have HW5 := Lib.hid (HWA.out.below hb5)
      have HB5 := Lib.hid (HBWA.out.trans (hb5.mono HBWA.out.size))
      clear hb5 hx
      by_cases hi : 0 ≤ ix
      · have hst : listedS S ls (k + 1) = listedS S ls k ++ [(nm, deps)] := by rw [HST.out, if_pos hi]
        have HST2 := Lib.hid hst
        have hsrc : Src Try.prog 4 22 (.slice (some ⟨w5.heap.size, 0, none⟩) 1 1) 1 [.string nm, .string nt, .slice da dl dc, .slice oa ol oc] (w5.alloc (.cells #[.string nm, .string nt, .slice da dl dc, .slice oa ol oc] 34)) := src_new Try.underlying22 [.string nm, .string nt, .slice da dl dc, .slice oa ol oc] 1 34 1 rfl (by intro u hu; simp only [List.mem_cons, List.not_mem_nil, or_false] at hu; rcases hu with rfl | rfl | rfl | rfl <;> rfl)
        have HSRC := Lib.hid hsrc
        have HRA := Lib.hid (HW5.out.alloc (.cells #[.string nm, .string nt, .slice da dl dc, .slice oa ol oc] 34))
        have hszw : w.heap.size ≤ (w5.alloc (.cells #[.string nm, .string nt, .slice da dl dc, .slice oa ol oc] 34)).heap.size := by have := HB5.out.size; simp; omega
        clear hst hsrc
        go_wp2_with (at_builtin; refine wpList_append_rowW rfl (.tmp 18) (.tmp 20) 22 22 rfl 4 34 (.agg #[.string ByteArray.empty, .string ByteArray.empty, .slice none 0 0, .slice none 0 0]) 80 Try.underlying22 infoN6 rfl w.heap.size (.slice oa0 m oc0) m (els.flatMap El.cells) (by simp [Act.eval]) HRA.out (.slice (some ⟨w5.heap.size, 0, none⟩) 1 1) (by simp [Act.eval]) 1 [.string nm, .string nt, .slice da dl dc, .slice oa ol oc] HSRC.out hszw (by omega) (by decide) ?_; intro v6 w6 hr6 ho6 hw6; obtain ⟨a6, c6, hv6⟩ := hr6.form; subst hv6; have HR6 := Lib.hid hr6; have HO6 := Lib.hid ho6; clear hr6 ho6 hw6)
        have hoa : Off (fun i => (Value.slice oa0 m oc0).ownBlock = some i) w5 w6 := ((Off.refl _ w5).alloc _).trans HO6.out
        have hb6 := HB5.out.trans (hoa.below (B := w.heap.size) (fun i hi => (HW5.out.lt i hi).1) HB5.out.size)
        have hc : El.cells ⟨nm, nt, da, dc, oa, ol, oc, deps⟩ = [.string nm, .string nt, .slice da dl dc, .slice oa ol oc] := by unfold El.cells; rw [HDL.out]
        exact ⟨⟨k + 1, m + 1, els ++ [⟨nm, nt, da, dc, oa, ol, oc, deps⟩], by go_num, by omega, by omega, Lib.hid (by rw [List.length_append, List.length_singleton, HM.out]), Lib.hid (by rw [List.flatMap_append, List.flatMap_cons, List.flatMap_nil, List.append_nil, hc]; exact HR6.out), Lib.hid (by rw [HST2.out, ← HK.out, List.map_append]; rfl), Lib.hid (fun x hx => by
          rcases List.mem_append.1 hx with hx | hx
          · exact HE.out x hx
          · rw [List.mem_singleton] at hx
            subst hx
            exact HDR.out), Lib.hid hb6⟩, by simp [intOf]; omega⟩
      · have hst : listedS S ls (k + 1) = listedS S ls k := by rw [HST.out, if_neg hi, List.append_nil]
        have HST2 := Lib.hid hst
        clear hst
        go_wp2_with fail
        exact ⟨⟨k + 1, m, els, by go_num, by omega, by omega, HM, HW5, by rw [HST2.out]; exact HK, HE, HB5⟩, by simp [intOf]; omega⟩
    · have hke : n = k := by omega
      subst hke
      have hres : SReads wr (.slice oa0 m oc0) (listedS S ls S.length) := by
        have h := els_reads (by rw [← HM.out]; exact HW.out) (fun x hx => (HE.out x hx).below HB.out)
        rw [HK.out] at h
        rw [← HN.out]
        exact h
      have HRES := Lib.hid hres
      clear hres
      go_wp2_with fail
      go_ret
      exact ⟨_, rfl, HRES.out, HB.out⟩
end Go.Proofs.Ytaemegcemmcgdaa
