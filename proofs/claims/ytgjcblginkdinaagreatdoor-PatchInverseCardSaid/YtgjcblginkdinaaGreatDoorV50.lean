/- A patch in its box. The law PatchInverse answers true. -/
import Derived.Test.YtgjcblginkdinaaGreatDoorV41
import Derived.Test.YtgjcblginkdinaaGreatDoorV45
import Derived.Test.YtgjcblginkdinaaGreatDoorV47
import Derived.Test.YtgjcblginkdinaaGreatDoorV49
import Derived.Test.YtgjcblginkdinaaGreatDoorV9
set_option linter.unusedVariables false
namespace Go.Proofs.YtgjcblginkdinaaGreatDoor
open Go.ChangeShapes Go.WideShapes Go.ChangeAt Go.RowKit

theorem nothing_reads (w : World) : PReads w ByteArray.empty (.slice none 0 0) (.slice none 0 0) ⟨ByteArray.empty, [], []⟩ := ⟨rfl, .inl ⟨rfl, _, _, rfl⟩, .inl ⟨rfl, _, _, rfl⟩⟩
abbrev PB (W : World) (b : Nat) (t : ByteArray) (dv ov : Value) : Prop := W.cell? ⟨b, 0, none⟩ = some (.string t) ∧ W.cell? ⟨b, 1, none⟩ = some dv ∧ W.cell? ⟨b, 2, none⟩ = some ov
theorem pb_call {W W2 : World} {b : Nat} {t : ByteArray} {dv ov : Value} (hb : Below W.heap.size W W2) (h : PB W b t dv ov) : PB W2 b t dv ov :=
  ⟨(hb.cell (p := ⟨b, 0, none⟩) (cell_lt h.1)).trans h.1, (hb.cell (p := ⟨b, 1, none⟩) (cell_lt h.2.1)).trans h.2.1, (hb.cell (p := ⟨b, 2, none⟩) (cell_lt h.2.2)).trans h.2.2⟩
theorem pb_new (W : World) (t : ByteArray) (dv ov : Value) (ty : TypeId) : PB (W.alloc (.cells #[.string t, dv, ov] ty)) W.heap.size t dv ov :=
  ⟨World.cell?_alloc_at _ _ _ _ rfl, World.cell?_alloc_at _ _ _ _ rfl, World.cell?_alloc_at _ _ _ _ rfl⟩

end Go.Proofs.YtgjcblginkdinaaGreatDoor
set_option linter.unusedVariables false
namespace Go.Proofs.YtgjcblginkdinaaGreatDoor
open Go.ChangeShapes Go.WideShapes Go.ChangeAt Go.RowKit

theorem inv_names {p : Pt} : tx (nameP p) ∈ (invP p).deps := ((needs_spec p (tx (nameP p))).2 _).2 (by simp [needRaw])
theorem inv_lines0 (p : Pt) : linesN (invP p).ops = 0 := by
  have e2 : (invP p).ops = invI p.deps (needsL p (tx (nameP p))) (tx (nameP p)) 0 p.ops := rfl
  rw [e2]
  have hz := invI_lines p.deps (needsL p (tx (nameP p))) (tx (nameP p)) p.ops 0
  generalize invI p.deps (needsL p (tx (nameP p))) (tx (nameP p)) 0 p.ops = l at hz
  induction l with
  | nil => rfl
  | cons o r ih => simp only [linesN]; rw [hz o (by simp), ih (fun z hh => hz z (by simp [hh]))]; rfl
theorem inv_made0 (p : Pt) : madeN (invP p).ops = 0 := by have := madeN_le (invP p).ops; rw [inv_lines0] at this; omega
theorem inv_comm (p : Pt) : commB p (invP p) = false := by
  have h : Lib.containsS (invP p).deps (tx (nameP p)) = true := (Lib.containsS_iff _ _).2 inv_names
  unfold commB
  rw [h]
  simp

noncomputable def ansI (p : Pt) : Pt := if rightP p = true ∧ rightP (invP p) = true then invP p else ⟨ByteArray.empty, [], []⟩
noncomputable def codeI (p : Pt) : Int := if rightP p = true then (if rightP (invP p) = true then 0 else 2) else 10
noncomputable def errI (p : Pt) : Value := if codeI p = 0 then .nilIface else errV (codeI p)
theorem ansI_yes {p : Pt} (h : codeI p = 0) : rightP p = true ∧ rightP (invP p) = true ∧ ansI p = invP p := by
  unfold codeI at h
  split at h
  · split at h
    · rename_i h1 h2; exact ⟨h1, h2, if_pos ⟨h1, h2⟩⟩
    · cases h
  · cases h
theorem pinv_ans (p : Pt) (dv ov : Value) (w : World) (hp : PReads w p.note dv ov p) (hf : p.fine) (ht : HasTab w) (hk : HasK w) :
    Calls Tryz.prog 23 #[ptV p.note dv ov] w fun e w' => (∃ qa ql qc oa ol oc, e = .returned (.tuple #[ptV (ansI p).note (.slice qa ql qc) (.slice oa ol oc), errI p]) ∧ PReads w' (ansI p).note (.slice qa ql qc) (.slice oa ol oc) (ansI p)) ∧ Below w.heap.size w w' := by
  refine (pinverse_any p dv ov w hp hf ht hk).mono ?_
  rintro e w' ⟨h, hb⟩
  refine ⟨?_, hb⟩
  rcases h with ⟨h1, rfl⟩ | ⟨h1, h2, rfl⟩ | ⟨h1, h2, dv', ov', rfl, hq⟩
  · have e1 : ansI p = ⟨ByteArray.empty, [], []⟩ := by unfold ansI; rw [if_neg (by simp [h1])]
    have e2 : errI p = errV 10 := by unfold errI codeI; rw [h1]; rfl
    rw [e1, e2]
    exact ⟨none, 0, 0, none, 0, 0, rfl, nothing_reads _⟩
  · have e1 : ansI p = ⟨ByteArray.empty, [], []⟩ := by unfold ansI; rw [if_neg (by simp [h2])]
    have e2 : errI p = errV 2 := by unfold errI codeI; rw [h1, h2]; rfl
    rw [e1, e2]
    exact ⟨none, 0, 0, none, 0, 0, rfl, nothing_reads _⟩
  · have e1 : ansI p = invP p := by unfold ansI; rw [if_pos ⟨h1, h2⟩]
    have e2 : errI p = .nilIface := by unfold errI codeI; rw [h1, h2]; rfl
    rw [e1, e2]
    obtain ⟨qa, qc, hqv, _⟩ := hq.deps.form
    obtain ⟨oa, oc, hov, _⟩ := hq.ops.form
    subst hqv; subst hov
    exact ⟨_, _, _, _, _, _, rfl, hq⟩
theorem rinv_ans (p : Pt) (dv ov : Value) (w : World) (hp : PReads w p.note dv ov p) (hf : p.fine) (hln : linesN p.ops ≤ 4611686018427387904) :
    Calls Tryz.prog 24 #[ptV p.note dv ov] w fun e w' => (∃ qa ql qc oa ol oc, e = .returned (.tuple #[ptV (ansI p).note (.slice qa ql qc) (.slice oa ol oc), .int .i64 (codeI p)]) ∧ PReads w' (ansI p).note (.slice qa ql qc) (.slice oa ol oc) (ansI p)) ∧ Below w.heap.size w w' := by
  refine (rinverse_any p dv ov w hp hf hln).mono ?_
  rintro e w' ⟨h, hb⟩
  refine ⟨?_, hb⟩
  rcases h with ⟨h1, rfl⟩ | ⟨h1, h2, rfl⟩ | ⟨h1, h2, dv', ov', rfl, hq⟩
  · have e1 : ansI p = ⟨ByteArray.empty, [], []⟩ := by unfold ansI; rw [if_neg (by simp [h1])]
    have e2 : codeI p = 10 := by unfold codeI; rw [h1]; rfl
    rw [e1, e2]
    exact ⟨none, 0, 0, none, 0, 0, rfl, nothing_reads _⟩
  · have e1 : ansI p = ⟨ByteArray.empty, [], []⟩ := by unfold ansI; rw [if_neg (by simp [h2])]
    have e2 : codeI p = 2 := by unfold codeI; rw [h1, h2]; rfl
    rw [e1, e2]
    exact ⟨none, 0, 0, none, 0, 0, rfl, nothing_reads _⟩
  · have e1 : ansI p = invP p := by unfold ansI; rw [if_pos ⟨h1, h2⟩]
    have e2 : codeI p = 0 := by unfold codeI; rw [h1, h2]; rfl
    rw [e1, e2]
    obtain ⟨qa, qc, hqv, _⟩ := hq.deps.form
    obtain ⟨oa, oc, hov, _⟩ := hq.ops.form
    subst hqv; subst hov
    exact ⟨_, _, _, _, _, _, rfl, hq⟩
theorem code_inv (p : Pt) (w : World) (hg : HasErr w) : Calls Tryz.prog 14 #[errI p] w fun e w' => e = .returned (.int .i64 (codeI p)) ∧ Below w.heap.size w w' := by
  unfold errI
  by_cases h : codeI p = 0
  · rw [if_pos h, h]
    exact (code_nil w).mono fun e w' ⟨he, hw⟩ => ⟨he, by rw [hw]; exact Below.refl _ _⟩
  · rw [if_neg h]
    exact code_errno _ w hg

set_option maxHeartbeats 4000000 in
set_option maxRecDepth 100000 in
theorem pilaw (p : Pt) (dv ov : Value) (w : World) (hp : PReads w p.note dv ov p) (hf : p.fine) (hl : ∀ o ∈ p.ops, o.lines.length ≤ 140737488355328) (he : Env w) (hk : HasK w) (hg : HasErr w) :
    Calls Tryz.prog 5 #[ptV p.note dv ov] w fun e w' => e = .returned (.bool true) ∧ Below w.heap.size w w' := by
  obtain ⟨da, dc, hdv, _⟩ := hp.deps.form
  obtain ⟨oa, oc, hov, _⟩ := hp.ops.form
  subst hdv; subst hov
  obtain ⟨m, hm⟩ : ∃ m, m = p.deps.length := ⟨_, rfl⟩
  obtain ⟨n, hn⟩ : ∃ n, n = p.ops.length := ⟨_, rfl⟩
  have c0 : ∀ wz, Below w.heap.size w wz → Calls Tryz.prog 8 #[] wz fun e w' => e = .returned (.bool true) ∧ Below wz.heap.size wz w' := fun wz hz => pawake_any wz (he.below hz) (hk.below hz)
  have c1 : ∀ wz, Below w.heap.size w wz → Calls Tryz.prog 9 #[ptV p.note (.slice da m dc) (.slice oa n oc)] wz fun e w' => e = .returned (.bool (smallP p)) ∧ Below wz.heap.size wz w' := fun wz hz => by
    rw [hm, hn]; exact psmall_any p _ _ wz (hp.below hz) hl
  have c2 : ∀ wz, Below w.heap.size w wz → Calls Tryz.prog 23 #[ptV p.note (.slice da m dc) (.slice oa n oc)] wz fun e w' => (∃ qa ql qc oa ol oc, e = .returned (.tuple #[ptV (ansI p).note (.slice qa ql qc) (.slice oa ol oc), errI p]) ∧ PReads w' (ansI p).note (.slice qa ql qc) (.slice oa ol oc) (ansI p)) ∧ Below wz.heap.size wz w' := fun wz hz => by
    rw [hm, hn]; exact pinv_ans p _ _ wz (hp.below hz) hf (he.tab.below hz) (hk.below hz)
  have c3 : smallP p = true → ∀ wz, Below w.heap.size w wz → Calls Tryz.prog 24 #[ptV p.note (.slice da m dc) (.slice oa n oc)] wz fun e w' => (∃ qa ql qc oa ol oc, e = .returned (.tuple #[ptV (ansI p).note (.slice qa ql qc) (.slice oa ol oc), .int .i64 (codeI p)]) ∧ PReads w' (ansI p).note (.slice qa ql qc) (.slice oa ol oc) (ansI p)) ∧ Below wz.heap.size wz w' := fun hs wz hz => by
    rw [hm, hn]; exact rinv_ans p _ _ wz (hp.below hz) hf (small_lines hs)
  have c4 : ∀ (d1 o1 d2 o2 : Value) wz, PReads wz (ansI p).note d1 o1 (ansI p) → PReads wz (ansI p).note d2 o2 (ansI p) → Calls Tryz.prog 19 #[ptV (ansI p).note d1 o1, ptV (ansI p).note d2 o2] wz fun e w' => e = .returned (.bool true) ∧ Below wz.heap.size wz w' := fun d1 o1 d2 o2 wz h1 h2 => by
    have h := rsame5_any (ansI p) (ansI p) d1 o1 d2 o2 wz h1 h2
    rw [sameP_iff.2 rfl] at h
    exact h
  have c5 : ∀ wz, Below w.heap.size w wz → Calls Tryz.prog 14 #[errI p] wz fun e w' => e = .returned (.int .i64 (codeI p)) ∧ Below wz.heap.size wz w' := fun wz hz => code_inv p wz (hg.below hz)
  have c6 : codeI p = 0 → ∀ wz, Below w.heap.size w wz → Calls Tryz.prog 12 #[ptV p.note (.slice da m dc) (.slice oa n oc)] wz fun e w' => e = .returned (.tuple #[.string (tx (nameP p)), .nilIface]) ∧ Below wz.heap.size wz w' := fun h0 wz hz => by
    have h := pname_any p _ _ wz (hp.below hz) hf (he.tab.below hz) (hk.below hz)
    have e1 : wrV p = .nilIface := if_pos (ansI_yes h0).1
    rw [e1] at h
    rw [hm, hn]; exact h
  have c7 : codeI p = 0 → ∀ d1 o1 wz, Below w.heap.size w wz → PReads wz (ansI p).note d1 o1 (ansI p) → Calls Tryz.prog 15 #[ptV (ansI p).note d1 o1] wz fun e w' => e = .returned (.bool true) ∧ Below wz.heap.size wz w' := fun h0 d1 o1 wz hz h1 => by
    obtain ⟨r1, r2, e1⟩ := ansI_yes h0
    rw [e1] at h1 ⊢
    have h := pright_any (invP p) d1 o1 wz h1 (inv_fine hf r1) (he.tab.below hz)
    rw [r2] at h
    exact h
  have c8 : codeI p = 0 → ∀ d1 o1 wz, PReads wz (ansI p).note d1 o1 (ansI p) → Calls Tryz.prog 16 #[ptV (ansI p).note d1 o1] wz fun e w' => e = .returned (.int .i64 0) ∧ Below wz.heap.size wz w' := fun h0 d1 o1 wz h1 => by
    obtain ⟨r1, r2, e1⟩ := ansI_yes h0
    rw [e1] at h1 ⊢
    have h := pmade_any (invP p) d1 o1 wz h1 (by rw [inv_lines0]; omega)
    rw [inv_made0] at h
    exact h
  have c9 : codeI p = 0 → ∃ x : Int, 0 ≤ x ∧ ∀ d1 o1 wz, PReads wz (ansI p).note d1 o1 (ansI p) → Calls Tryz.prog 25 #[d1, .string (tx (nameP p))] wz fun e w' => e = .returned (.int .i64 x) ∧ Below wz.heap.size wz w' := fun h0 => by
    obtain ⟨r1, r2, e1⟩ := ansI_yes h0
    refine ⟨Lib.idxOfS (ansI p).deps (tx (nameP p)), ?_, fun d1 o1 wz h1 => rplace_any _ _ _ wz h1.deps⟩
    rw [e1]; exact idx_mem.2 inv_names
  have cc : codeI p = 0 → ∀ d1 o1 wz, Below w.heap.size w wz → PReads wz (ansI p).note d1 o1 (ansI p) → Calls Tryz.prog 26 #[ptV p.note (.slice da m dc) (.slice oa n oc), ptV (ansI p).note d1 o1] wz fun e w' => e = .returned (.bool false) ∧ Below wz.heap.size wz w' := fun h0 d1 o1 wz hz h1 => by
    obtain ⟨r1, r2, e1⟩ := ansI_yes h0
    rw [e1] at h1 ⊢
    have h := pcommute_any p (invP p) _ _ d1 o1 wz (hp.below hz) hf h1 (inv_fine hf r1) (he.tab.below hz) (hk.below hz)
    rw [inv_comm] at h
    rw [hm, hn]; exact h
  rw [← hm, ← hn]
  obtain ⟨t, htt⟩ : ∃ t, t = p.note := ⟨_, rfl⟩
  rw [← htt] at c1 c2 c3 c6 cc ⊢
  obtain ⟨s1, hs1⟩ : ∃ s, s = smallP p := ⟨_, rfl⟩
  rw [← hs1] at c1 c3
  obtain ⟨Y, hY⟩ : ∃ X, X = tx (nameP p) := ⟨_, rfl⟩
  rw [← hY] at c6 c9
  obtain ⟨ev, hev⟩ : ∃ v, v = errI p := ⟨_, rfl⟩
  obtain ⟨kk, hkk⟩ : ∃ v, v = codeI p := ⟨_, rfl⟩
  have hcase : (kk = 0 ∧ ev = .nilIface) ∨ (kk ≠ 0 ∧ ev = errV kk) := by
    rw [hev, hkk]; unfold errI
    by_cases h : codeI p = 0
    · exact .inl ⟨h, if_pos h⟩
    · exact .inr ⟨h, if_neg h⟩
  rw [← hev] at c2 c5
  rw [← hkk] at c3 c5 c6 c7 c8 c9 cc
  obtain ⟨q, hq⟩ : ∃ q, q = ansI p := ⟨_, rfl⟩
  obtain ⟨qn, hqn⟩ : ∃ q, q = (ansI p).note := ⟨_, rfl⟩
  rw [← hqn, ← hq] at c2 c3 c4 c7 c8 c9 cc
  have HST := Lib.hid (rt_new w t (.slice da m dc) (.slice oa n oc) 25)
  have C0 := Lib.hid c0
  have C1 := Lib.hid c1
  have C2 := Lib.hid c2
  have C3 := Lib.hid c3
  have C4 := Lib.hid c4
  have C5 := Lib.hid c5
  have C6 := Lib.hid c6
  have C7 := Lib.hid c7
  have C8 := Lib.hid c8
  have C9 := Lib.hid c9
  have CC := Lib.hid cc
  have HCA := Lib.hid hcase
  have kx : (kk != kk) = false := by simp
  clear c0 c1 c2 c3 c4 c5 c6 c7 c8 c9 cc hm hn htt hp hf he hk hg hs1 hY hev hkk hcase hl hq hqn
  cases s1 with
  | false =>
    clear C2 C3 C4 C5 C6 C7 C8 C9 CC
    go_enter Tryz.func5, Tryz.ntmps5
    go_wp2_with fail
    refine (C0.out _ HST.out.2).mono ?_
    rintro e w1 ⟨rfl, hb⟩
    obtain ⟨⟨q0, q1, q2⟩, hB⟩ := rt_call hb HST.out
    have QB := Lib.hid hB
    clear hb hB
    go_wp2_with fail
    refine (C1.out _ QB.out).mono ?_
    rintro e w2 ⟨rfl, hb⟩
    have QB2 := Lib.hid (QB.out.trans (hb.mono QB.out.size))
    clear hb
    go_wp2_with fail
    go_ret
    exact ⟨rfl, QB2.out⟩
  | true =>
    go_enter Tryz.func5, Tryz.ntmps5
    go_wp2_with fail
    refine (C0.out _ HST.out.2).mono ?_
    rintro e w1 ⟨rfl, hb⟩
    have H1 := Lib.hid (rt_call hb HST.out)
    clear hb
    obtain ⟨⟨q0, q1, q2⟩, _⟩ := H1.out
    go_wp2_with fail
    refine (C1.out _ H1.out.2).mono ?_
    rintro e w2 ⟨rfl, hb⟩
    have H2 := Lib.hid (rt_call hb H1.out)
    clear hb q0 q1 q2
    obtain ⟨⟨q0, q1, q2⟩, _⟩ := H2.out
    go_wp2_with fail
    refine (C2.out _ H2.out.2).mono ?_
    rintro e w3 ⟨⟨a1, l1, c1, a2, l2, c2, rfl, hr⟩, hb⟩
    have hal : Below w3.heap.size w3 (w3.alloc (.cells #[.string qn, .slice a1 l1 c1, .slice a2 l2 c2] 25)) := (Below.refl _ _).alloc (Nat.le_refl _) _
    have H3 := Lib.hid (rt_call hal (rt_call hb H2.out))
    have P3 := Lib.hid (pb_new w3 qn (.slice a1 l1 c1) (.slice a2 l2 c2) 25)
    have R3 := Lib.hid (hr.below hal)
    clear hb q0 q1 q2 hal hr
    obtain ⟨⟨q0, q1, q2⟩, _⟩ := H3.out
    go_wp2_with fail
    refine (C3.out (by first | rfl | trivial) _ H3.out.2).mono ?_
    rintro e w4 ⟨⟨a3, l3, c3, a4, l4, c4, rfl, hr⟩, hb⟩
    have hal : Below w4.heap.size w4 (w4.alloc (.cells #[.string qn, .slice a3 l3 c3, .slice a4 l4 c4] 25)) := (Below.refl _ _).alloc (Nat.le_refl _) _
    have H4 := Lib.hid (rt_call hal (rt_call hb H3.out))
    have P4 := Lib.hid (pb_call hal (pb_call hb P3.out))
    have R4 := Lib.hid ((R3.out.below hb).below hal)
    have U4 := Lib.hid (pb_new w4 qn (.slice a3 l3 c3) (.slice a4 l4 c4) 25)
    have V4 := Lib.hid (hr.below hal)
    clear hb q0 q1 q2 hal hr
    obtain ⟨⟨q0, q1, q2⟩, _⟩ := H4.out
    obtain ⟨r0, r1, r2⟩ := P4.out
    obtain ⟨u0, u1, u2⟩ := U4.out
    go_wp2_with fail
    refine (C4.out _ _ _ _ _ R4.out V4.out).mono ?_
    rintro e w5 ⟨rfl, hb⟩
    have H5 := Lib.hid (rt_call hb H4.out)
    have P5 := Lib.hid (pb_call hb P4.out)
    have R5 := Lib.hid (R4.out.below hb)
    clear hb q0 q1 q2 r0 r1 r2 u0 u1 u2
    go_wp2_with fail
    refine (C5.out _ H5.out.2).mono ?_
    rintro e w6 ⟨rfl, hb⟩
    have H6 := Lib.hid (rt_call hb H5.out)
    have P6 := Lib.hid (pb_call hb P5.out)
    have R6 := Lib.hid (R5.out.below hb)
    clear hb
    obtain ⟨⟨q0, q1, q2⟩, _⟩ := H6.out
    obtain ⟨r0, r1, r2⟩ := P6.out
    rcases HCA.out with ⟨rfl, rfl⟩ | ⟨hk0, rfl⟩
    · obtain ⟨x, hx0, hx⟩ := C9.out (by first | rfl | trivial)
      have CX := Lib.hid hx
      clear hx
      go_wp2_with fail
      refine (C6.out (by first | rfl | trivial) _ H6.out.2).mono ?_
      rintro e w7 ⟨rfl, hb⟩
      have H7 := Lib.hid (rt_call hb H6.out)
      have P7 := Lib.hid (pb_call hb P6.out)
      have R7 := Lib.hid (R6.out.below hb)
      clear hb q0 q1 q2 r0 r1 r2
      obtain ⟨r0, r1, r2⟩ := P7.out
      go_wp2_with fail
      refine (C7.out (by first | rfl | trivial) _ _ _ H7.out.2 R7.out).mono ?_
      rintro e w8 ⟨rfl, hb⟩
      have H8 := Lib.hid (rt_call hb H7.out)
      have P8 := Lib.hid (pb_call hb P7.out)
      have R8 := Lib.hid (R7.out.below hb)
      clear hb r0 r1 r2
      obtain ⟨r0, r1, r2⟩ := P8.out
      go_wp2_with fail
      refine (C8.out (by first | rfl | trivial) _ _ _ R8.out).mono ?_
      rintro e w9 ⟨rfl, hb⟩
      have H9 := Lib.hid (rt_call hb H8.out)
      have P9 := Lib.hid (pb_call hb P8.out)
      have R9 := Lib.hid (R8.out.below hb)
      clear hb r0 r1 r2
      obtain ⟨r0, r1, r2⟩ := P9.out
      go_wp2_with fail
      refine (CX.out _ _ _ R9.out).mono ?_
      rintro e w10 ⟨rfl, hb⟩
      have H10 := Lib.hid (rt_call hb H9.out)
      have P10 := Lib.hid (pb_call hb P9.out)
      have R10 := Lib.hid (R9.out.below hb)
      clear hb r0 r1 r2
      obtain ⟨r0, r1, r2⟩ := P10.out
      obtain ⟨⟨q0, q1, q2⟩, _⟩ := H10.out
      go_wp2_with fail
      refine (CC.out (by first | rfl | trivial) _ _ _ H10.out.2 R10.out).mono ?_
      rintro e w11 ⟨rfl, hb⟩
      have H11 := Lib.hid (rt_call hb H10.out)
      clear hb
      go_wp2_with fail
      go_ret
      exact ⟨rfl, H11.out.2⟩
    · go_wp2_with fail
      go_ret
      exact ⟨rfl, H6.out.2⟩
end Go.Proofs.YtgjcblginkdinaaGreatDoor
