/- The laws are awake: the walk. The law PatchWrites answers true. -/
import Derived.Test.YtgjcblginkdinaaGreatDoorZ47
import Derived.Test.YtgjcblginkdinaaGreatDoorZ49
import Derived.Test.YtgjcblginkdinaaGreatDoorZ6
set_option linter.unusedVariables false
namespace Go.Proofs.YtgjcblginkdinaaGreatDoor
open Go.ChangeShapes Go.WideShapes Go.ChangeAt Go.RowKit
open Go.Lib (itoa)

def lay0 (w : World) : World := (((w.alloc (.cells #[.string ⟨#[97]⟩] 9)).alloc (.cells #[.int .i64 1, .int .i64 (-1), .int .i64 0, .int .i64 (-1), .int .i64 1, .slice (some ⟨w.heap.size, 0, none⟩) 1 1] 56)).alloc (.cells #[.string ⟨#[]⟩, .slice none 0 0, .slice (some ⟨w.heap.size + 1, 0, none⟩) 1 1] 25))
theorem lay0_reads (w : World) : PReads (lay0 w) p0.note (.slice none 0 0) (.slice (some ⟨w.heap.size + 1, 0, none⟩) 1 1) p0 ∧ Below w.heap.size w (lay0 w) := by
  have hb : Below w.heap.size w (lay0 w) := (((Below.refl _ _).alloc (Nat.le_refl _) _).alloc (by simp) _).alloc (by simp; omega) _
  obtain ⟨q1, q2, q3, _, qs⟩ := boxA3 (Below.refl _ (lay0 w))
  refine ⟨⟨rfl, .inl ⟨rfl, none, 0, rfl⟩, .inr ⟨by simp [p0], w.heap.size + 1, 0, 1, rfl, by simp [p0], by decide, by omega, fun j x hx => ?_⟩⟩, hb⟩
  have hj : j = 0 := by have := (List.getElem?_eq_some_iff.1 hx).1; simp [p0] at this; exact this
  subst hj
  have e : x = op0 := by simpa [p0] using hx.symm
  subst e
  refine ⟨.slice (some ⟨w.heap.size, 0, none⟩) 1 1, q2 0, q2 1, q2 2, q2 3, q2 4, q2 5, .inr ⟨by simp [op0], w.heap.size, 0, 1, rfl, by simp [op0], by decide, by omega, fun j x hx => ?_⟩⟩
  have hj : j = 0 := by have := (List.getElem?_eq_some_iff.1 hx).1; simp [op0] at this; exact this
  subst hj
  have e : x = lineA := by simpa [op0] using hx.symm
  subst e
  exact q1 0
theorem lay0_cells {w W : World} (h : Below (lay0 w).heap.size (lay0 w) W) : W.cell? ⟨w.heap.size + 1 + 1, 0, none⟩ = some (.string ⟨#[]⟩) ∧ W.cell? ⟨w.heap.size + 1 + 1, 1, none⟩ = some (.slice none 0 0) ∧ W.cell? ⟨w.heap.size + 1 + 1, 2, none⟩ = some (.slice (some ⟨w.heap.size + 1, 0, none⟩) 1 1) := by
  obtain ⟨_, _, q3, _, _⟩ := boxA3 h
  exact ⟨q3 0, q3 1, q3 2⟩
theorem bytes0 : bytesP p0 = (ptT p0).bytes := by unfold bytesP; rw [if_pos right0]
theorem read0 {s : ByteArray} (hs : s = tx (bytesP p0)) {w : World} {e : Ending} {w' : World} (h : ReadPP s w e w') : Below w.heap.size w w' ∧ ∃ dv ov, e = .returned (.tuple #[ptV p0.note dv ov, .nilIface]) ∧ PReads w' p0.note dv ov p0 := by
  obtain ⟨hb, ⟨p, dv, ov, hw, _, hr, hby, he, hp⟩ | ⟨hno, _⟩⟩ := h
  · have hT : ptT p = ptT p0 := by
      rw [hs, tx_list, bytes0] at hby
      exact (Tm.unique _ _ [] [] (ptT_ok p) (ptT_ok p0) (by rw [List.append_nil, List.append_nil]; exact hby.symm)).1
    have := ptT_inj hw p0_fine.wf hT
    subst this
    exact ⟨hb, dv, ov, he, hp⟩
  · exact absurd (by rw [hs, tx_list, bytes0]) (hno p0 p0_fine.wf right0)
theorem inv_post0 {w : World} {e : Ending} {w' : World} (h : InvPost p0 w e w') : Below w.heap.size w w' ∧ ∃ dv ov, e = .returned (.tuple #[ptV undoB dv ov, .nilIface]) ∧ PReads w' undoB dv ov (invP p0) := by
  obtain ⟨h | h | ⟨_, _, h⟩, hb⟩ := h
  · rw [right0] at h; cases h.1
  · rw [inv0.1] at h; cases h.2.1
  · exact ⟨hb, h⟩

set_option maxHeartbeats 4000000 in
set_option maxRecDepth 100000 in
theorem pawake_any (w : World) (he : Env w) (hk : HasK w) : Calls Tryz.prog 8 #[] w fun e w' => e = .returned (.bool true) ∧ Below w.heap.size w w' := by
  obtain ⟨hpr, hbl⟩ := lay0_reads w
  have c1 : ∀ wz, Below (lay0 w).heap.size (lay0 w) wz → Calls Tryz.prog 10 #[ptV ⟨#[]⟩ (.slice none 0 0) (.slice (some ⟨w.heap.size + 1, 0, none⟩) 1 1)] wz fun e w' => e = .returned (.tuple #[.string (tx (bytesP p0)), .nilIface]) ∧ Below wz.heap.size wz w' := fun wz hz => by
    have h := pwrite_any p0 _ _ wz (hpr.below hz) p0_fine ((he.tab.below hbl).below hz)
    unfold wrV at h
    rw [if_pos right0] at h
    exact h
  have c2 : ∀ wz, Below w.heap.size w wz → Calls Tryz.prog 18 #[.string (tx (bytesP p0))] wz fun e w' => (∃ dv ov, e = .returned (.tuple #[ptV ⟨#[]⟩ dv ov, .nilIface]) ∧ PReads w' ⟨#[]⟩ dv ov p0) ∧ Below wz.heap.size wz w' := fun wz hz => by
    refine (pread_any (tx (bytesP p0)) wz (by rw [ba_tx]; have := bytesP_len p0; omega) (he.below hz)).mono fun e w' h => ?_
    have h := read0 rfl h
    exact ⟨h.2, h.1⟩
  have c3 : ∀ wz, Below (lay0 w).heap.size (lay0 w) wz → Calls Tryz.prog 23 #[ptV ⟨#[]⟩ (.slice none 0 0) (.slice (some ⟨w.heap.size + 1, 0, none⟩) 1 1)] wz fun e w' => (∃ u dv ov, e = .returned (.tuple #[ptV u dv ov, .nilIface]) ∧ PReads w' u dv ov (invP p0)) ∧ Below wz.heap.size wz w' := fun wz hz =>
    (pinverse_any p0 _ _ wz (hpr.below hz) p0_fine ((he.tab.below hbl).below hz) ((hk.below hbl).below hz)).mono fun e w' h => ⟨⟨_, (inv_post0 h).2⟩, (inv_post0 h).1⟩
  have c4 : ∀ wz, Below (lay0 w).heap.size (lay0 w) wz → Calls Tryz.prog 16 #[ptV ⟨#[]⟩ (.slice none 0 0) (.slice (some ⟨w.heap.size + 1, 0, none⟩) 1 1)] wz fun e w' => e = .returned (.int .i64 1) ∧ Below wz.heap.size wz w' := fun wz hz =>
    pmade_any p0 _ _ wz (hpr.below hz) (by decide)
  obtain ⟨X, hX⟩ : ∃ X, X = tx (bytesP p0) := ⟨_, rfl⟩
  rw [← hX] at c1 c2
  have C1 := Lib.hid c1
  have C2 := Lib.hid c2
  have C3 := Lib.hid c3
  have C4 := Lib.hid c4
  have HBL := Lib.hid hbl
  clear c1 c2 c3 c4 hbl hpr he hk hX
  go_enter Tryz.func8, Tryz.ntmps8
  go_wp2_with fail
  refine (C1.out _ (Below.refl _ _)).mono ?_
  rintro e w1 ⟨rfl, hb1⟩
  have B1 := Lib.hid (show Below (lay0 w).heap.size (lay0 w) w1 from hb1)
  clear hb1
  go_wp2_with fail
  refine (C2.out _ (HBL.out.trans (B1.out.mono HBL.out.size))).mono ?_
  rintro e w2 ⟨⟨dv, ov, rfl, hq⟩, hb2⟩
  obtain ⟨dl, dc, hdv, _⟩ := hq.deps.form
  obtain ⟨ol, oc, hov, _⟩ := hq.ops.form
  have e1 : p0.deps.length = 0 := rfl
  have e2 : p0.ops.length = 1 := rfl
  rw [e1] at hdv
  rw [e2] at hov
  subst hdv
  subst hov
  have B2 := Lib.hid (B1.out.trans (hb2.mono B1.out.size))
  clear hb2 e1 e2 hq
  have B3 := Lib.hid (B2.out.alloc B2.out.size (.cells #[.string ⟨#[]⟩, .slice dl 0 dc, .slice ol 1 oc] 25))
  obtain ⟨y0, y1, y2⟩ := lay0_cells B3.out
  go_wp2_with fail
  refine (C3.out _ B3.out).mono ?_
  rintro e w4 ⟨⟨u, dv, ov, rfl, hi⟩, hb4⟩
  obtain ⟨dl', dc', hdv, _⟩ := hi.deps.form
  obtain ⟨ol', oc', hov, _⟩ := hi.ops.form
  have e2 : (invP p0).ops.length = 1 := by rw [inv0.2.2]; rfl
  have hops := hi.ops
  rw [inv0.2.1] at hdv
  rw [e2] at hov
  subst hdv
  subst hov
  rw [inv0.2.2] at hops
  obtain ⟨b, o, rfl, hone, hcl⟩ := hops.at (j := 0) (x := ⟨4, ⟨0, 0⟩, ⟨0, 0⟩, []⟩) rfl
  obtain ⟨_, i0, _⟩ := hcl.2 0 _ rfl
  rw [Nat.zero_mul, Nat.add_zero] at i0
  simp only at i0
  have qb : ∀ j, w4.cell? ⟨w2.heap.size, j, none⟩ = #[Value.string ⟨#[]⟩, .slice dl 0 dc, .slice ol 1 oc][j]? := fun j => (hb4.cell (p := ⟨w2.heap.size, j, none⟩) (by simp)).trans (World.cell?_alloc_at _ _ _ _ rfl)
  have qb2 : w4.cell? ⟨w2.heap.size, 2, none⟩ = some (.slice ol 1 oc) := qb 2
  have B4 := Lib.hid (B3.out.trans (hb4.mono B3.out.size))
  obtain ⟨z0, z1, z2⟩ := lay0_cells B4.out
  have B5 := Lib.hid (B4.out.alloc B4.out.size (.cells #[.string u, .slice dl' 1 dc', .slice (some ⟨b, o, none⟩) 1 oc'] 25))
  have hal : ∀ q j v, w4.cell? ⟨q, j, none⟩ = some v → (w4.alloc (.cells #[.string u, .slice dl' 1 dc', .slice (some ⟨b, o, none⟩) 1 oc'] 25)).cell? ⟨q, j, none⟩ = some v := fun q j v hv => (((Below.refl _ w4).alloc (Nat.le_refl _) _).cell (p := ⟨q, j, none⟩) (cell_lt hv)).trans hv
  have qa := hal _ _ _ qb2
  have ia := hal _ _ _ i0
  have za0 := hal _ _ _ z0
  have za1 := hal _ _ _ z1
  have za2 := hal _ _ _ z2
  clear hal hone hb4 hcl hops hi qb y0 y1 y2 e2 C1 C2 C3
  go_wp2_with fail
  refine (C4.out _ B5.out).mono ?_
  rintro e w6 ⟨rfl, hb6⟩
  have c6 : ∀ q j v, (w4.alloc (.cells #[.string u, .slice dl' 1 dc', .slice (some ⟨b, o, none⟩) 1 oc'] 25)).cell? ⟨q, j, none⟩ = some v → w6.cell? ⟨q, j, none⟩ = some v := fun q j v hv => (hb6.cell (p := ⟨q, j, none⟩) (cell_lt hv)).trans hv
  have ib := c6 _ _ _ ia
  have ic1 := c6 w4.heap.size 1 (.slice dl' 1 dc') (World.cell?_alloc_at _ _ _ _ rfl)
  have ic2 := c6 w4.heap.size 2 (.slice (some ⟨b, o, none⟩) 1 oc') (World.cell?_alloc_at _ _ _ _ rfl)
  have B6 := Lib.hid (HBL.out.trans ((B5.out.trans (hb6.mono B5.out.size)).mono HBL.out.size))
  clear c6 hb6
  go_wp2_with fail
  go_ret
  exact ⟨rfl, B6.out⟩
end Go.Proofs.YtgjcblginkdinaaGreatDoor
set_option linter.unusedVariables false
namespace Go.Proofs.YtgjcblginkdinaaGreatDoor
open Go.ChangeShapes Go.WideShapes Go.ChangeAt Go.RowKit

theorem code_wr (p : Pt) (w : World) (hg : HasErr w) : Calls Tryz.prog 14 #[wrV p] w fun e w' => e = .returned (.int .i64 (errP p)) ∧ Below w.heap.size w w' := by
  unfold wrV errP
  by_cases h : rightP p = true
  · rw [if_pos h, if_pos h]
    exact (code_nil w).mono fun e w' ⟨he, hw⟩ => ⟨he, by rw [hw]; exact Below.refl _ _⟩
  · rw [if_neg h, if_neg h]
    exact code_errno 10 w hg

set_option maxHeartbeats 4000000 in
set_option maxRecDepth 100000 in
theorem pwlaw (p : Pt) (dv ov : Value) (w : World) (hp : PReads w p.note dv ov p) (hf : p.fine) (hl : ∀ o ∈ p.ops, o.lines.length ≤ 140737488355328) (he : Env w) (hk : HasK w) (hg : HasErr w) :
    Calls Tryz.prog 3 #[ptV p.note dv ov] w fun e w' => e = .returned (.bool true) ∧ Below w.heap.size w w' := by
  have hb1 : ∀ o1, Below w.heap.size w (w.alloc o1) := fun o1 => (Below.refl _ _).alloc (Nat.le_refl _) _
  obtain ⟨da, dc, hdv, _⟩ := hp.deps.form
  obtain ⟨oa, oc, hov, _⟩ := hp.ops.form
  subst hdv; subst hov
  obtain ⟨m, hm⟩ : ∃ m, m = p.deps.length := ⟨_, rfl⟩
  obtain ⟨n, hn⟩ : ∃ n, n = p.ops.length := ⟨_, rfl⟩
  have c0 : ∀ wz, Below w.heap.size w wz → Calls Tryz.prog 8 #[] wz fun e w' => e = .returned (.bool true) ∧ Below wz.heap.size wz w' := fun wz hz => pawake_any wz (he.below hz) (hk.below hz)
  have c1 : ∀ wz, Below w.heap.size w wz → Calls Tryz.prog 9 #[ptV p.note (.slice da m dc) (.slice oa n oc)] wz fun e w' => e = .returned (.bool (smallP p)) ∧ Below wz.heap.size wz w' := fun wz hz => by
    rw [hm, hn]; exact psmall_any p _ _ wz (hp.below hz) hl
  have c2 : ∀ wz, Below w.heap.size w wz → Calls Tryz.prog 10 #[ptV p.note (.slice da m dc) (.slice oa n oc)] wz fun e w' => e = .returned (.tuple #[.string (tx (bytesP p)), wrV p]) ∧ Below wz.heap.size wz w' := fun wz hz => by
    rw [hm, hn]; exact pwrite_any p _ _ wz (hp.below hz) hf (he.tab.below hz)
  have c3 : smallP p = true → ∀ wz, Below w.heap.size w wz → Calls Tryz.prog 11 #[ptV p.note (.slice da m dc) (.slice oa n oc)] wz fun e w' => e = .returned (.tuple #[.string (tx (bytesP p)), .int .i64 (errP p)]) ∧ Below wz.heap.size wz w' := fun hs wz hz => by
    rw [hm, hn]; exact rpwrite_any p _ _ wz (hp.below hz) hf (small_lines hs)
  have c4 : ∀ wz, Below w.heap.size w wz → Calls Tryz.prog 12 #[ptV p.note (.slice da m dc) (.slice oa n oc)] wz fun e w' => e = .returned (.tuple #[.string (tx (nameP p)), wrV p]) ∧ Below wz.heap.size wz w' := fun wz hz => by
    rw [hm, hn]; exact pname_any p _ _ wz (hp.below hz) hf (he.tab.below hz) (hk.below hz)
  have c5 : smallP p = true → ∀ wz, Below w.heap.size w wz → Calls Tryz.prog 13 #[ptV p.note (.slice da m dc) (.slice oa n oc)] wz fun e w' => e = .returned (.tuple #[.string (tx (nameP p)), .int .i64 (errP p)]) ∧ Below wz.heap.size wz w' := fun hs wz hz => by
    rw [hm, hn]; exact rpname_any p _ _ wz (hp.below hz) hf (small_lines hs)
  have c6 : ∀ wz, Below w.heap.size w wz → Calls Tryz.prog 14 #[wrV p] wz fun e w' => e = .returned (.int .i64 (errP p)) ∧ Below wz.heap.size wz w' := fun wz hz => code_wr p wz (hg.below hz)
  have c7 : ∀ wz, Below w.heap.size w wz → Calls Tryz.prog 15 #[ptV p.note (.slice da m dc) (.slice oa n oc)] wz fun e w' => e = .returned (.bool (rightP p)) ∧ Below wz.heap.size wz w' := fun wz hz => by
    rw [hm, hn]; exact pright_any p _ _ wz (hp.below hz) hf (he.tab.below hz)
  have c8 : smallP p = true → ∀ wz, Below w.heap.size w wz → Calls Tryz.prog 16 #[ptV p.note (.slice da m dc) (.slice oa n oc)] wz fun e w' => e = .returned (.int .i64 (madeN p.ops : Nat)) ∧ Below wz.heap.size wz w' := fun hs wz hz => by
    rw [hm, hn]; exact pmade_any p _ _ wz (hp.below hz) (small_lines hs)
  have c9 : smallP p = true → ∀ wz, Below w.heap.size w wz → Calls Tryz.prog 17 #[ptV p.note (.slice da m dc) (.slice oa n oc)] wz fun e w' => e = .returned (.int .i64 (madeN p.ops : Nat)) ∧ Below wz.heap.size wz w' := fun hs wz hz => by
    rw [hm, hn]; exact rmade_any p _ _ wz (hp.below hz) (small_lines hs)
  have cr : rightP p = true → ∀ wz, Below w.heap.size w wz → Calls Tryz.prog 18 #[.string (tx (bytesP p))] wz fun e w' => (∃ dv' ov', e = .returned (.tuple #[ptV p.note dv' ov', .nilIface]) ∧ PReads w' p.note dv' ov' p) ∧ Below wz.heap.size wz w' := fun hr wz hz => by
    refine (pread_any (tx (bytesP p)) wz (by rw [ba_tx]; have := bytesP_len p; omega) (he.below hz)).mono fun e w' h => ?_
    have hbp : bytesP p = (ptT p).bytes := by unfold bytesP; rw [if_pos hr]
    obtain ⟨hb, ⟨q, dv', ov', hw, _, hrq, hby, hee, hpp⟩ | ⟨hno, _⟩⟩ := h
    · have hT : ptT q = ptT p := by
        rw [tx_list, hbp] at hby
        exact (Tm.unique _ _ [] [] (ptT_ok q) (ptT_ok p) (by rw [List.append_nil, List.append_nil]; exact hby.symm)).1
      have := ptT_inj hw hf.wf hT
      subst this
      exact ⟨⟨dv', ov', hee, hpp⟩, hb⟩
    · exact absurd (by rw [tx_list, hbp]) (hno p hf.wf hr)
  have cs : ∀ dv' ov' wz, Below w.heap.size w wz → PReads wz p.note dv' ov' p → Calls Tryz.prog 19 #[ptV p.note (.slice da m dc) (.slice oa n oc), ptV p.note dv' ov'] wz fun e w' => e = .returned (.bool true) ∧ Below wz.heap.size wz w' := fun dv' ov' wz hz hq => by
    rw [hm, hn]
    have h := rsame5_any p p _ _ dv' ov' wz (hp.below hz) hq
    rw [sameP_iff.2 rfl] at h
    exact h
  rw [← hm, ← hn]
  obtain ⟨t, htt⟩ : ∃ t, t = p.note := ⟨_, rfl⟩
  rw [← htt] at c1 c2 c3 c4 c5 c7 c8 c9 cr cs ⊢
  obtain ⟨s1, hs1⟩ : ∃ s, s = smallP p := ⟨_, rfl⟩
  rw [← hs1] at c1 c3 c5 c8 c9
  obtain ⟨X, hX⟩ : ∃ X, X = tx (bytesP p) := ⟨_, rfl⟩
  obtain ⟨Y, hY⟩ : ∃ X, X = tx (nameP p) := ⟨_, rfl⟩
  obtain ⟨M, hM⟩ : ∃ M, M = madeN p.ops := ⟨_, rfl⟩
  rw [← hX] at c2 c3 cr
  rw [← hY] at c4 c5
  rw [← hM] at c8 c9
  obtain ⟨r, hr⟩ : ∃ r, r = rightP p := ⟨_, rfl⟩
  obtain ⟨ev, hev⟩ : ∃ v, v = wrV p := ⟨_, rfl⟩
  obtain ⟨kk, hkk⟩ : ∃ v, v = errP p := ⟨_, rfl⟩
  have hcase : (r = true ∧ ev = .nilIface ∧ kk = 0) ∨ (r = false ∧ ev = errV 10 ∧ kk = 10) := by
    have hw : wrV p = if r then .nilIface else errV 10 := by unfold wrV; rw [← hr]
    have hw' : errP p = if r then 0 else 10 := by unfold errP; rw [← hr]
    rw [hev, hkk, hw, hw']
    cases r
    · exact .inr ⟨rfl, rfl, rfl⟩
    · exact .inl ⟨rfl, rfl, rfl⟩
  have hrk : r = (kk == 0) := by rcases hcase with ⟨rfl, _, rfl⟩ | ⟨rfl, _, rfl⟩ <;> rfl
  rw [← hev] at c2 c4 c6
  rw [← hkk] at c3 c5 c6
  rw [← hr] at c7 cr
  rw [hrk] at c7
  have HST := Lib.hid (rt_new w t (.slice da m dc) (.slice oa n oc) 25)
  have C0 := Lib.hid c0
  have C1 := Lib.hid c1
  have C2 := Lib.hid c2
  have C4 := Lib.hid c4
  have C6 := Lib.hid c6
  have C7 := Lib.hid c7
  have CR := Lib.hid cr
  have CS := Lib.hid cs
  cases s1 with
  | false =>
    clear c0 c1 c2 c3 c4 c5 c6 c7 c8 c9 cr cs hb1 hm hn htt hp hf he hk hg hs1 hX hY hM hr hev hkk hcase hrk hl C2 C4 C6 C7 CR CS
    go_enter Tryz.func3, Tryz.ntmps3
    go_wp2_with fail
    refine (C0.out _ HST.out.2).mono ?_
    rintro e w1 ⟨rfl, hb⟩
    obtain ⟨⟨q0, q1, q2⟩, hB⟩ := rt_call hb HST.out
    have QB := Lib.hid hB
    clear hb hB
    go_wp2_with fail
    refine (C1.out _ QB.out).mono ?_
    rintro e w2 ⟨rfl, hb⟩
    have QB2 := Lib.hid (QB.out.trans (hb.mono QB.out.size))
    clear hb
    go_wp2_with fail
    go_ret
    exact ⟨rfl, QB2.out⟩
  | true =>
    have C3 := Lib.hid (c3 rfl)
    have C5 := Lib.hid (c5 rfl)
    have C8 := Lib.hid (c8 rfl)
    have C9 := Lib.hid (c9 rfl)
    have HCA := Lib.hid hcase
    have xx : (X.toList == X.toList) = true := beq_self_eq_true _
    have yy : (Y.toList == Y.toList) = true := beq_self_eq_true _
    clear c0 c1 c2 c3 c4 c5 c6 c7 c8 c9 cr cs hb1 hm hn htt hp hf he hk hg hs1 hX hY hM hr hev hkk hcase hrk hl
    go_enter Tryz.func3, Tryz.ntmps3
    go_wp2_with fail
    refine (C0.out _ HST.out.2).mono ?_
    rintro e w1 ⟨rfl, hb⟩
    have H1 := Lib.hid (rt_call hb HST.out)
    clear hb
    obtain ⟨⟨q0, q1, q2⟩, _⟩ := H1.out
    go_wp2_with fail
    refine (C1.out _ H1.out.2).mono ?_
    rintro e w2 ⟨rfl, hb⟩
    have H2 := Lib.hid (rt_call hb H1.out)
    clear hb
    clear q0 q1 q2
    obtain ⟨⟨q0, q1, q2⟩, _⟩ := H2.out
    go_wp2_with fail
    refine (C2.out _ H2.out.2).mono ?_
    rintro e w3 ⟨rfl, hb⟩
    have H3 := Lib.hid (rt_call hb H2.out)
    clear hb
    clear q0 q1 q2
    obtain ⟨⟨q0, q1, q2⟩, _⟩ := H3.out
    go_wp2_with fail
    refine (C3.out _ H3.out.2).mono ?_
    rintro e w4 ⟨rfl, hb⟩
    have H4 := Lib.hid (rt_call hb H3.out)
    clear hb
    clear q0 q1 q2
    obtain ⟨⟨q0, q1, q2⟩, _⟩ := H4.out
    go_wp2_with fail
    refine (C4.out _ H4.out.2).mono ?_
    rintro e w5 ⟨rfl, hb⟩
    have H5 := Lib.hid (rt_call hb H4.out)
    clear hb
    clear q0 q1 q2
    obtain ⟨⟨q0, q1, q2⟩, _⟩ := H5.out
    go_wp2_with fail
    refine (C5.out _ H5.out.2).mono ?_
    rintro e w6 ⟨rfl, hb⟩
    have H6 := Lib.hid (rt_call hb H5.out)
    clear hb
    clear q0 q1 q2
    obtain ⟨⟨q0, q1, q2⟩, _⟩ := H6.out
    go_wp2_with fail
    refine wp_region_held_drew (S := (fun W => RtS w t (.slice da m dc) (.slice oa n oc) W)) (by kernel_rfl) ?_ (fun hHeld => ?_)
    · exact rt_drew H6.out
    refine wpAnyH_take (i := 0) (oi := { dst := some 38, op := Op.move (Operand.tmp 3), type := 9, pos := "law.go:89", after := #[], guard := none }) (v := ?_) rfl (by kernel_rfl) (by kernel_rfl) (by kernel_rfl) (fun _ _ _ h => h) (Or.inl ⟨by kernel_rfl, ?_⟩) (by assumption) ?_
    rotate_left
    · (intro w hSw; (try dsimp only at hSw); go_simp; try with_reducible rfl)
    try simp only [Act.put, List.setIfInBounds_toArray, List.set_cons_zero, List.set_cons_succ]
    refine wpAnyH_take (i := 1) (oi := { dst := some 39, op := Op.move (Operand.tmp 5), type := 9, pos := "law.go:89", after := #[], guard := none }) (v := ?_) rfl (by kernel_rfl) (by kernel_rfl) (by kernel_rfl) (fun _ _ _ h => h) (Or.inl ⟨by kernel_rfl, ?_⟩) (by assumption) ?_
    rotate_left
    · (intro w hSw; (try dsimp only at hSw); go_simp; try with_reducible rfl)
    try simp only [Act.put, List.setIfInBounds_toArray, List.set_cons_zero, List.set_cons_succ]
    refine wpAnyH_take (i := 2) (oi := { dst := some 40, op := Op.binOp BinOp.neq 9 (Operand.tmp 38) (Operand.tmp 39) 9, type := 4, pos := "law.go:89", after := #[{ on := 0, ground := Ground.data }, { on := 1, ground := Ground.data }], guard := none }) (v := ?_) rfl (by kernel_rfl) (by kernel_rfl) (by kernel_rfl) (fun _ _ _ h => h) (Or.inl ⟨by kernel_rfl, ?_⟩) (by assumption) ?_
    rotate_left
    · (intro w hSw; (try dsimp only at hSw); go_simp; try with_reducible rfl)
    try simp only [Act.put, List.setIfInBounds_toArray, List.set_cons_zero, List.set_cons_succ]
    refine wpAnyH_take (i := 3) (oi := { dst := some 41, op := Op.move (Operand.tmp 40), type := 4, pos := "law.go:89", after := #[{ on := 2, ground := Ground.data }], guard := none }) (v := .bool false) rfl (by kernel_rfl) (by kernel_rfl) (by kernel_rfl) (fun _ _ _ h => h) (Or.inl ⟨by kernel_rfl, ?_⟩) (by assumption) ?_
    · (intro w hSw; (try dsimp only at hSw); go_simp; try with_reducible rfl)
    try simp only [Act.put, List.setIfInBounds_toArray, List.set_cons_zero, List.set_cons_succ]
    refine wpAnyH_take (i := 4) (oi := { dst := some 42, op := Op.move (Operand.tmp 4), type := 29, pos := "law.go:89", after := #[{ on := 3, ground := Ground.guard }], guard := some (3, false) }) (v := ?_) rfl (by kernel_rfl) (by kernel_rfl) (by kernel_rfl) (fun _ _ _ h => h) (Or.inl ⟨by kernel_rfl, ?_⟩) (by assumption) ?_
    rotate_left
    · (intro w hSw; (try dsimp only at hSw); go_simp; try with_reducible rfl)
    try simp only [Act.put, List.setIfInBounds_toArray, List.set_cons_zero, List.set_cons_succ]
    refine wpAnyH_take (i := 6) (oi := { dst := some 44, op := Op.move (Operand.tmp 6), type := 3, pos := "law.go:89", after := #[{ on := 3, ground := Ground.guard }], guard := some (3, false) }) (v := ?_) rfl (by kernel_rfl) (by kernel_rfl) (by kernel_rfl) (fun _ _ _ h => h) (Or.inl ⟨by kernel_rfl, ?_⟩) (by assumption) ?_
    rotate_left
    · (intro w hSw; (try dsimp only at hSw); go_simp; try with_reducible rfl)
    try simp only [Act.put, List.setIfInBounds_toArray, List.set_cons_zero, List.set_cons_succ]
    refine wpAnyH_ready (rs := [5]) (by kernel_rfl) (by simp) ?_
    refine AllReadyH.cons (o := { dst := some 43, op := Op.call { callee := Callee.value (Operand.func 14), args := #[Operand.tmp 42], argTypes := #[29] }, type := 3, pos := "law.go:89", after := #[{ on := 4, ground := Ground.data }, { on := 3, ground := Ground.chain }, { on := 3, ground := Ground.guard }], guard := some (3, false) }) rfl (fun KK hK => ?_) AllReadyH.nil
    go_simp
    go_at_call 14; (with_reducible refine (C6.out _ (rt_drew H6.out).2).mono ?_); rintro e w7 ⟨rfl, hb⟩; have H7 := Lib.hid (rt_call hb (rt_drew H6.out)); clear hb
    refine hK.out _ _ ?_ (fun hHeld => ?_)
    · exact H7.out
    clear hK KK
    try simp only [Act.put, List.setIfInBounds_toArray, List.set_cons_zero, List.set_cons_succ]
    refine wpAnyH_take (i := 7) (oi := { dst := some 45, op := Op.binOp BinOp.neq 3 (Operand.tmp 43) (Operand.tmp 44) 3, type := 4, pos := "law.go:89", after := #[{ on := 5, ground := Ground.data }, { on := 6, ground := Ground.data }, { on := 3, ground := Ground.guard }], guard := some (3, false) }) (v := ?_) rfl (by kernel_rfl) (by kernel_rfl) (by kernel_rfl) (fun _ _ _ h => h) (Or.inl ⟨by kernel_rfl, ?_⟩) (by assumption) ?_
    rotate_left
    · (intro w hSw; (try dsimp only at hSw); go_simp; try with_reducible rfl)
    try simp only [Act.put, List.setIfInBounds_toArray, List.set_cons_zero, List.set_cons_succ]
    refine wpAnyH_take (i := 8) (oi := { dst := some 46, op := Op.pick (Operand.tmp 41) (Operand.const (Value.bool true)) (Operand.tmp 45), type := 4, pos := "law.go:89", after := #[{ on := 3, ground := Ground.data }, { on := 7, ground := Ground.data }], guard := none }) (v := ?_) rfl (by kernel_rfl) (by kernel_rfl) (by kernel_rfl) (fun _ _ _ h => h) (Or.inl ⟨by kernel_rfl, ?_⟩) (by assumption) ?_
    rotate_left
    · (intro w hSw; (try dsimp only at hSw); go_simp; try with_reducible rfl)
    try simp only [Act.put, List.setIfInBounds_toArray, List.set_cons_zero, List.set_cons_succ]
    refine wpAnyH_take (i := 9) (oi := { dst := some 47, op := Op.move (Operand.tmp 46), type := 4, pos := "law.go:89", after := #[{ on := 8, ground := Ground.data }, { on := 5, ground := Ground.chain }], guard := none }) (v := .bool false) rfl (by kernel_rfl) (by kernel_rfl) (by kernel_rfl) (fun _ _ _ h => h) (Or.inl ⟨by kernel_rfl, ?_⟩) (by assumption) ?_
    · (intro w hSw; (try dsimp only at hSw); go_simp; try with_reducible rfl)
    try simp only [Act.put, List.setIfInBounds_toArray, List.set_cons_zero, List.set_cons_succ]
    refine wpAnyH_take (i := 10) (oi := { dst := some 48, op := Op.move (Operand.tmp 7), type := 9, pos := "law.go:89", after := #[{ on := 9, ground := Ground.guard }], guard := some (9, false) }) (v := ?_) rfl (by kernel_rfl) (by kernel_rfl) (by kernel_rfl) (fun _ _ _ h => h) (Or.inl ⟨by kernel_rfl, ?_⟩) (by assumption) ?_
    rotate_left
    · (intro w hSw; (try dsimp only at hSw); go_simp; try with_reducible rfl)
    try simp only [Act.put, List.setIfInBounds_toArray, List.set_cons_zero, List.set_cons_succ]
    refine wpAnyH_take (i := 11) (oi := { dst := some 49, op := Op.move (Operand.tmp 9), type := 9, pos := "law.go:89", after := #[{ on := 9, ground := Ground.guard }], guard := some (9, false) }) (v := ?_) rfl (by kernel_rfl) (by kernel_rfl) (by kernel_rfl) (fun _ _ _ h => h) (Or.inl ⟨by kernel_rfl, ?_⟩) (by assumption) ?_
    rotate_left
    · (intro w hSw; (try dsimp only at hSw); go_simp; try with_reducible rfl)
    try simp only [Act.put, List.setIfInBounds_toArray, List.set_cons_zero, List.set_cons_succ]
    refine wpAnyH_take (i := 12) (oi := { dst := some 50, op := Op.binOp BinOp.neq 9 (Operand.tmp 48) (Operand.tmp 49) 9, type := 4, pos := "law.go:89", after := #[{ on := 10, ground := Ground.data }, { on := 11, ground := Ground.data }, { on := 9, ground := Ground.guard }], guard := some (9, false) }) (v := ?_) rfl (by kernel_rfl) (by kernel_rfl) (by kernel_rfl) (fun _ _ _ h => h) (Or.inl ⟨by kernel_rfl, ?_⟩) (by assumption) ?_
    rotate_left
    · (intro w hSw; (try dsimp only at hSw); go_simp; try with_reducible rfl)
    try simp only [Act.put, List.setIfInBounds_toArray, List.set_cons_zero, List.set_cons_succ]
    refine wpAnyH_take (i := 13) (oi := { dst := some 51, op := Op.pick (Operand.tmp 47) (Operand.const (Value.bool true)) (Operand.tmp 50), type := 4, pos := "law.go:89", after := #[{ on := 9, ground := Ground.data }, { on := 12, ground := Ground.data }], guard := none }) (v := ?_) rfl (by kernel_rfl) (by kernel_rfl) (by kernel_rfl) (fun _ _ _ h => h) (Or.inl ⟨by kernel_rfl, ?_⟩) (by assumption) ?_
    rotate_left
    · (intro w hSw; (try dsimp only at hSw); go_simp; try with_reducible rfl)
    try simp only [Act.put, List.setIfInBounds_toArray, List.set_cons_zero, List.set_cons_succ]
    refine wpAnyH_take (i := 14) (oi := { dst := some 52, op := Op.move (Operand.tmp 51), type := 4, pos := "law.go:89", after := #[{ on := 13, ground := Ground.data }, { on := 9, ground := Ground.chain }], guard := none }) (v := .bool false) rfl (by kernel_rfl) (by kernel_rfl) (by kernel_rfl) (fun _ _ _ h => h) (Or.inl ⟨by kernel_rfl, ?_⟩) (by assumption) ?_
    · (intro w hSw; (try dsimp only at hSw); go_simp; try with_reducible rfl)
    try simp only [Act.put, List.setIfInBounds_toArray, List.set_cons_zero, List.set_cons_succ]
    refine wpAnyH_take (i := 15) (oi := { dst := some 53, op := Op.move (Operand.tmp 8), type := 29, pos := "law.go:89", after := #[{ on := 14, ground := Ground.guard }], guard := some (14, false) }) (v := ?_) rfl (by kernel_rfl) (by kernel_rfl) (by kernel_rfl) (fun _ _ _ h => h) (Or.inl ⟨by kernel_rfl, ?_⟩) (by assumption) ?_
    rotate_left
    · (intro w hSw; (try dsimp only at hSw); go_simp; try with_reducible rfl)
    try simp only [Act.put, List.setIfInBounds_toArray, List.set_cons_zero, List.set_cons_succ]
    refine wpAnyH_take (i := 17) (oi := { dst := some 55, op := Op.move (Operand.tmp 10), type := 3, pos := "law.go:89", after := #[{ on := 14, ground := Ground.guard }], guard := some (14, false) }) (v := ?_) rfl (by kernel_rfl) (by kernel_rfl) (by kernel_rfl) (fun _ _ _ h => h) (Or.inl ⟨by kernel_rfl, ?_⟩) (by assumption) ?_
    rotate_left
    · (intro w hSw; (try dsimp only at hSw); go_simp; try with_reducible rfl)
    try simp only [Act.put, List.setIfInBounds_toArray, List.set_cons_zero, List.set_cons_succ]
    refine wpAnyH_ready (rs := [16]) (by kernel_rfl) (by simp) ?_
    refine AllReadyH.cons (o := { dst := some 54, op := Op.call { callee := Callee.value (Operand.func 14), args := #[Operand.tmp 53], argTypes := #[29] }, type := 3, pos := "law.go:89", after := #[{ on := 15, ground := Ground.data }, { on := 14, ground := Ground.chain }, { on := 14, ground := Ground.guard }], guard := some (14, false) }) rfl (fun KK hK => ?_) AllReadyH.nil
    go_simp
    go_at_call 14; (with_reducible refine (C6.out _ (H7.out).2).mono ?_); rintro e w8 ⟨rfl, hb⟩; have H8 := Lib.hid (rt_call hb (H7.out)); clear hb
    refine hK.out _ _ ?_ (fun hHeld => ?_)
    · exact H8.out
    clear hK KK
    try simp only [Act.put, List.setIfInBounds_toArray, List.set_cons_zero, List.set_cons_succ]
    refine wpAnyH_take (i := 18) (oi := { dst := some 56, op := Op.binOp BinOp.neq 3 (Operand.tmp 54) (Operand.tmp 55) 3, type := 4, pos := "law.go:89", after := #[{ on := 16, ground := Ground.data }, { on := 17, ground := Ground.data }, { on := 14, ground := Ground.guard }], guard := some (14, false) }) (v := ?_) rfl (by kernel_rfl) (by kernel_rfl) (by kernel_rfl) (fun _ _ _ h => h) (Or.inl ⟨by kernel_rfl, ?_⟩) (by assumption) ?_
    rotate_left
    · (intro w hSw; (try dsimp only at hSw); go_simp; try with_reducible rfl)
    try simp only [Act.put, List.setIfInBounds_toArray, List.set_cons_zero, List.set_cons_succ]
    refine wpAnyH_take (i := 19) (oi := { dst := some 57, op := Op.pick (Operand.tmp 52) (Operand.const (Value.bool true)) (Operand.tmp 56), type := 4, pos := "law.go:89", after := #[{ on := 14, ground := Ground.data }, { on := 18, ground := Ground.data }], guard := none }) (v := ?_) rfl (by kernel_rfl) (by kernel_rfl) (by kernel_rfl) (fun _ _ _ h => h) (Or.inl ⟨by kernel_rfl, ?_⟩) (by assumption) ?_
    rotate_left
    · (intro w hSw; (try dsimp only at hSw); go_simp; try with_reducible rfl)
    try simp only [Act.put, List.setIfInBounds_toArray, List.set_cons_zero, List.set_cons_succ]
    refine wpAnyH_take (i := 20) (oi := { dst := some 58, op := Op.move (Operand.tmp 57), type := 4, pos := "law.go:89", after := #[{ on := 19, ground := Ground.data }, { on := 16, ground := Ground.chain }], guard := none }) (v := .bool false) rfl (by kernel_rfl) (by kernel_rfl) (by kernel_rfl) (fun _ _ _ h => h) (Or.inl ⟨by kernel_rfl, ?_⟩) (by assumption) ?_
    · (intro w hSw; (try dsimp only at hSw); go_simp; try with_reducible rfl)
    try simp only [Act.put, List.setIfInBounds_toArray, List.set_cons_zero, List.set_cons_succ]
    refine wpAnyH_take (i := 21) (oi := { dst := some 59, op := Op.load 25 (Operand.tmp 1), type := 25, pos := "law.go:89", after := #[{ on := 20, ground := Ground.guard }], guard := some (20, false) }) (v := ?_) rfl (by kernel_rfl) (by kernel_rfl) (by kernel_rfl) (fun _ _ _ h => h) (Or.inl ⟨by kernel_rfl, ?_⟩) (by assumption) ?_
    rotate_left
    · (intro w hSw; (try dsimp only at hSw); go_simp; try with_reducible rfl)
    try simp only [Act.put, List.setIfInBounds_toArray, List.set_cons_zero, List.set_cons_succ]
    refine wpAnyH_take (i := 23) (oi := { dst := some 61, op := Op.move (Operand.tmp 6), type := 3, pos := "law.go:89", after := #[{ on := 20, ground := Ground.guard }], guard := some (20, false) }) (v := ?_) rfl (by kernel_rfl) (by kernel_rfl) (by kernel_rfl) (fun _ _ _ h => h) (Or.inl ⟨by kernel_rfl, ?_⟩) (by assumption) ?_
    rotate_left
    · (intro w hSw; (try dsimp only at hSw); go_simp; try with_reducible rfl)
    try simp only [Act.put, List.setIfInBounds_toArray, List.set_cons_zero, List.set_cons_succ]
    refine wpAnyH_take (i := 24) (oi := { dst := some 62, op := Op.binOp BinOp.eql 3 (Operand.tmp 61) (Operand.const (Value.int IntKind.i64 0)) 3, type := 4, pos := "law.go:89", after := #[{ on := 23, ground := Ground.data }, { on := 20, ground := Ground.guard }], guard := some (20, false) }) (v := ?_) rfl (by kernel_rfl) (by kernel_rfl) (by kernel_rfl) (fun _ _ _ h => h) (Or.inl ⟨by kernel_rfl, ?_⟩) (by assumption) ?_
    rotate_left
    · (intro w hSw; (try dsimp only at hSw); go_simp; try with_reducible rfl)
    try simp only [Act.put, List.setIfInBounds_toArray, List.set_cons_zero, List.set_cons_succ]
    refine wpAnyH_ready (rs := [22]) (by kernel_rfl) (by simp) ?_
    refine AllReadyH.cons (o := { dst := some 60, op := Op.call { callee := Callee.value (Operand.func 15), args := #[Operand.tmp 59], argTypes := #[25] }, type := 4, pos := "law.go:89", after := #[{ on := 21, ground := Ground.data }, { on := 20, ground := Ground.chain }, { on := 20, ground := Ground.guard }], guard := some (20, false) }) rfl (fun KK hK => ?_) AllReadyH.nil
    go_simp
    go_at_call 15; (with_reducible refine (C7.out _ (H8.out).2).mono ?_); rintro e w9 ⟨rfl, hb⟩; have H9 := Lib.hid (rt_call hb (H8.out)); clear hb
    refine hK.out _ _ ?_ (fun hHeld => ?_)
    · exact H9.out
    clear hK KK
    try simp only [Act.put, List.setIfInBounds_toArray, List.set_cons_zero, List.set_cons_succ]
    refine wpAnyH_take (i := 25) (oi := { dst := some 63, op := Op.binOp BinOp.neq 4 (Operand.tmp 60) (Operand.tmp 62) 4, type := 4, pos := "law.go:89", after := #[{ on := 22, ground := Ground.data }, { on := 24, ground := Ground.data }, { on := 20, ground := Ground.guard }], guard := some (20, false) }) (v := ?_) rfl (by kernel_rfl) (by kernel_rfl) (by kernel_rfl) (fun _ _ _ h => h) (Or.inl ⟨by kernel_rfl, ?_⟩) (by assumption) ?_
    rotate_left
    · (intro w hSw; (try dsimp only at hSw); go_simp; try with_reducible rfl)
    try simp only [Act.put, List.setIfInBounds_toArray, List.set_cons_zero, List.set_cons_succ]
    refine wpAnyH_take (i := 26) (oi := { dst := some 64, op := Op.pick (Operand.tmp 58) (Operand.const (Value.bool true)) (Operand.tmp 63), type := 4, pos := "law.go:89", after := #[{ on := 20, ground := Ground.data }, { on := 25, ground := Ground.data }], guard := none }) (v := ?_) rfl (by kernel_rfl) (by kernel_rfl) (by kernel_rfl) (fun _ _ _ h => h) (Or.inl ⟨by kernel_rfl, ?_⟩) (by assumption) ?_
    rotate_left
    · (intro w hSw; (try dsimp only at hSw); go_simp; try with_reducible rfl)
    try simp only [Act.put, List.setIfInBounds_toArray, List.set_cons_zero, List.set_cons_succ]
    refine wpAnyH_take (i := 27) (oi := { dst := some 65, op := Op.move (Operand.tmp 64), type := 4, pos := "law.go:89", after := #[{ on := 26, ground := Ground.data }, { on := 22, ground := Ground.chain }], guard := none }) (v := .bool false) rfl (by kernel_rfl) (by kernel_rfl) (by kernel_rfl) (fun _ _ _ h => h) (Or.inl ⟨by kernel_rfl, ?_⟩) (by assumption) ?_
    · (intro w hSw; (try dsimp only at hSw); go_simp; try with_reducible rfl)
    try simp only [Act.put, List.setIfInBounds_toArray, List.set_cons_zero, List.set_cons_succ]
    refine wpAnyH_take (i := 28) (oi := { dst := some 66, op := Op.load 25 (Operand.tmp 1), type := 25, pos := "law.go:89", after := #[{ on := 27, ground := Ground.guard }], guard := some (27, false) }) (v := ?_) rfl (by kernel_rfl) (by kernel_rfl) (by kernel_rfl) (fun _ _ _ h => h) (Or.inl ⟨by kernel_rfl, ?_⟩) (by assumption) ?_
    rotate_left
    · (intro w hSw; (try dsimp only at hSw); go_simp; try with_reducible rfl)
    try simp only [Act.put, List.setIfInBounds_toArray, List.set_cons_zero, List.set_cons_succ]
    refine wpAnyH_take (i := 30) (oi := { dst := some 68, op := Op.load 25 (Operand.tmp 1), type := 25, pos := "law.go:89", after := #[{ on := 27, ground := Ground.guard }], guard := some (27, false) }) (v := ?_) rfl (by kernel_rfl) (by kernel_rfl) (by kernel_rfl) (fun _ _ _ h => h) (Or.inl ⟨by kernel_rfl, ?_⟩) (by assumption) ?_
    rotate_left
    · (intro w hSw; (try dsimp only at hSw); go_simp; try with_reducible rfl)
    try simp only [Act.put, List.setIfInBounds_toArray, List.set_cons_zero, List.set_cons_succ]
    refine wpAnyH_ready (rs := [29]) (by kernel_rfl) (by simp) ?_
    refine AllReadyH.cons (o := { dst := some 67, op := Op.call { callee := Callee.value (Operand.func 16), args := #[Operand.tmp 66], argTypes := #[25] }, type := 3, pos := "law.go:89", after := #[{ on := 28, ground := Ground.data }, { on := 27, ground := Ground.chain }, { on := 27, ground := Ground.guard }], guard := some (27, false) }) rfl (fun KK hK => ?_) AllReadyH.nil
    go_simp
    go_at_call 16; (with_reducible refine (C8.out _ (H9.out).2).mono ?_); rintro e w10 ⟨rfl, hb⟩; have H10 := Lib.hid (rt_call hb (H9.out)); clear hb
    refine hK.out _ _ ?_ (fun hHeld => ?_)
    · exact H10.out
    clear hK KK
    try simp only [Act.put, List.setIfInBounds_toArray, List.set_cons_zero, List.set_cons_succ]
    refine wpAnyH_ready (rs := [31]) (by kernel_rfl) (by simp) ?_
    refine AllReadyH.cons (o := { dst := some 69, op := Op.call { callee := Callee.value (Operand.func 17), args := #[Operand.tmp 68], argTypes := #[25] }, type := 3, pos := "law.go:89", after := #[{ on := 30, ground := Ground.data }, { on := 29, ground := Ground.chain }, { on := 27, ground := Ground.guard }], guard := some (27, false) }) rfl (fun KK hK => ?_) AllReadyH.nil
    go_simp
    go_at_call 17; (with_reducible refine (C9.out _ (H10.out).2).mono ?_); rintro e w11 ⟨rfl, hb⟩; have H11 := Lib.hid (rt_call hb (H10.out)); clear hb
    refine hK.out _ _ ?_ (fun hHeld => ?_)
    · exact H11.out
    clear hK KK
    try simp only [Act.put, List.setIfInBounds_toArray, List.set_cons_zero, List.set_cons_succ]
    refine wpAnyH_take (i := 32) (oi := { dst := some 70, op := Op.binOp BinOp.neq 3 (Operand.tmp 67) (Operand.tmp 69) 3, type := 4, pos := "law.go:89", after := #[{ on := 29, ground := Ground.data }, { on := 31, ground := Ground.data }, { on := 27, ground := Ground.guard }], guard := some (27, false) }) (v := ?_) rfl (by kernel_rfl) (by kernel_rfl) (by kernel_rfl) (fun _ _ _ h => h) (Or.inl ⟨by kernel_rfl, ?_⟩) (by assumption) ?_
    rotate_left
    · (intro w hSw; (try dsimp only at hSw); go_simp; try with_reducible rfl)
    try simp only [Act.put, List.setIfInBounds_toArray, List.set_cons_zero, List.set_cons_succ]
    refine wpAnyH_take (i := 33) (oi := { dst := some 71, op := Op.pick (Operand.tmp 65) (Operand.const (Value.bool true)) (Operand.tmp 70), type := 4, pos := "law.go:89", after := #[{ on := 27, ground := Ground.data }, { on := 32, ground := Ground.data }], guard := none }) (v := ?_) rfl (by kernel_rfl) (by kernel_rfl) (by kernel_rfl) (fun _ _ _ h => h) (Or.inl ⟨by kernel_rfl, ?_⟩) (by assumption) ?_
    rotate_left
    · (intro w hSw; (try dsimp only at hSw); go_simp; try with_reducible rfl)
    try simp only [Act.put, List.setIfInBounds_toArray, List.set_cons_zero, List.set_cons_succ]
    refine wpAnyH_done (by kernel_rfl) ?_ _
    clear q0 q1 q2
    obtain ⟨⟨q0, q1, q2⟩, _⟩ := H11.out
    clear hHeld
    rcases HCA.out with ⟨rfl, rfl, rfl⟩ | ⟨rfl, rfl, rfl⟩
    · have DR := Lib.hid (CR.out rfl)
      go_wp2_with fail
      refine (DR.out _ H11.out.2).mono ?_
      rintro e w12 ⟨⟨dv', ov', rfl, hq⟩, hb⟩
      obtain ⟨da', dc', hdv', _⟩ := hq.deps.form
      obtain ⟨oa', oc', hov', _⟩ := hq.ops.form
      obtain ⟨m', hm'⟩ : ∃ m, m = p.deps.length := ⟨_, rfl⟩
      obtain ⟨n', hn'⟩ : ∃ m, m = p.ops.length := ⟨_, rfl⟩
      rw [← hm'] at hdv'
      rw [← hn'] at hov'
      subst hdv'; subst hov'
      have hal : Below w12.heap.size w12 (w12.alloc (.cells #[.string t, .slice da' m' dc', .slice oa' n' oc'] 25)) := (Below.refl _ _).alloc (Nat.le_refl _) _
      have H12 := Lib.hid (rt_call hal (rt_call hb H11.out))
      have HQ := Lib.hid (hq.below hal)
      clear hb hq q0 q1 q2 hal hm' hn'
      obtain ⟨⟨q0, q1, q2⟩, _⟩ := H12.out
      go_wp2_with fail
      refine (CS.out _ _ _ H12.out.2 HQ.out).mono ?_
      rintro e w13 ⟨rfl, hb⟩
      have H13 := Lib.hid (rt_call hb H12.out)
      clear hb
      go_wp2_with fail
      go_ret
      exact ⟨rfl, H13.out.2⟩
    · go_wp2_with fail
      go_ret
      exact ⟨rfl, H11.out.2⟩
end Go.Proofs.YtgjcblginkdinaaGreatDoor
