/- The laws are awake: a line at the top. The laws are awake: the walk. A patch in its box. The law PatchReads answers true. -/
import Derived.Test.YtgjcblginkdinaaGreatDoorZ41
import Derived.Test.YtgjcblginkdinaaGreatDoorZ42
import Derived.Test.YtgjcblginkdinaaGreatDoorZ45
import Derived.Test.YtgjcblginkdinaaGreatDoorZ46
import Derived.Test.YtgjcblginkdinaaGreatDoorZ49
import Derived.Test.YtgjcblginkdinaaGreatDoorZ7
set_option linter.unusedVariables false
namespace Go.Proofs.YtgjcblginkdinaaGreatDoor
open Go.ChangeShapes Go.WideShapes Go.ChangeAt Go.RowKit
open Go.Lib (itoa)

def lineA : ByteArray := ⟨#[97]⟩
def op0 : Opp := ⟨1, ⟨-1, 0⟩, ⟨-1, 1⟩, [lineA]⟩
def p0 : Pt := ⟨⟨#[]⟩, [], [op0]⟩
theorem p0_fine : p0.fine := by
  refine ⟨fun o ho => ?_, by decide, fun x hx => by simp [p0] at hx, fun o ho x hx => ?_⟩
  · have e : o = op0 := by simpa [p0] using ho
    subst e
    exact ⟨wfI_small (by decide) (by decide), ⟨wfI_small (by decide) (by decide), wfI_small (by decide) (by decide)⟩, ⟨wfI_small (by decide) (by decide), wfI_small (by decide) (by decide)⟩⟩
  · have e : o = op0 := by simpa [p0] using ho
    subst e
    have e : x = lineA := by simpa [op0] using hx
    subst e
    decide
theorem small_right {p : Pt} (hw : p.wf) (h1 : p.note.size ≤ 100) (h2 : p.ops.length ≤ 1) (h3 : risB p.deps = true) (hd : p.deps.length ≤ 1) (hdz : ∀ x ∈ p.deps, x.size ≤ 64) (h4 : opsR p.deps.length 0 p.ops = true) (h5 : linesN p.ops ≤ 1) (hl : ∀ o ∈ p.ops, ∀ x ∈ o.lines, x.size ≤ 500) : rightP p = true := by
  have hm := madeN_le p.ops
  rw [rightP_of h1 (by omega) h3 h4 (by omega), decide_eq_true_eq]
  have hb := Tm.bytes_le (ptT p)
  have ht := ptT_texts hw h1 hdz hl
  have hp := ptT_parts p
  omega
theorem right0 : rightP p0 = true := by
  refine small_right p0_fine.wf (by decide) (by decide) (risB_iff.2 ⟨by decide, fun j hj => by simp [p0] at hj⟩) (by decide) (fun x hx => by simp [p0] at hx) (by decide) (by decide) (fun o ho x hx => ?_)
  have e : o = op0 := by simpa [p0] using ho
  subst e
  have e : x = lineA := by simpa [op0] using hx
  subst e
  decide
theorem needs0 (nm : ByteArray) : needsL p0 nm = [nm] := by
  obtain ⟨h1, h2⟩ := needs_spec p0 nm
  have hr : needRaw p0 nm = [nm] := by simp [needRaw, p0, op0, needRs, namedR]
  have e : (needsL p0 nm).map (fun s => s.data.toList) = [nm.data.toList] := by
    refine asc_unique h1 (List.pairwise_singleton _ _) (fun x => ?_)
    rw [List.mem_map, List.mem_singleton]
    constructor
    · rintro ⟨s, hs, rfl⟩
      have := (h2 s).1 hs
      rw [hr, List.mem_singleton] at this
      rw [this]
    · rintro rfl
      exact ⟨nm, (h2 nm).2 (by rw [hr]; simp), rfl⟩
  have := congrArg (List.map tx) e
  rw [List.map_map] at this
  have e2 : (tx ∘ fun s : ByteArray => s.data.toList) = id := by funext s; exact tx_data s
  rw [e2, List.map_id] at this
  rw [this, List.map_singleton, tx_data]
theorem nameP_right (p : Pt) (h : rightP p = true) : rightL (tx (nameP p)).data.toList = true := by
  rw [tx_list]
  unfold nameP nameL
  rw [if_pos h]
  unfold rightL
  rw [raw_hex, hexL_len, sumL_len]
  rfl
theorem inv0_ops (nm : ByteArray) : invI [] [nm] nm 0 [op0] = [⟨4, ⟨0, 0⟩, ⟨0, 0⟩, []⟩] := by
  have e : Lib.idxOfS [nm] nm = 0 := by simp [Lib.idxOfS, Lib.idxFromS]
  simp [invI, oneI, op0, delI, lineI, e]
theorem inv0 : rightP (invP p0) = true ∧ (invP p0).deps.length = 1 ∧ (invP p0).ops = [⟨4, ⟨0, 0⟩, ⟨0, 0⟩, []⟩] := by
  have hd : (invP p0).deps = [tx (nameP p0)] := needs0 _
  have ho : (invP p0).ops = [⟨4, ⟨0, 0⟩, ⟨0, 0⟩, []⟩] := by
    show invI p0.deps (needsL p0 (tx (nameP p0))) (tx (nameP p0)) 0 p0.ops = _
    rw [needs0]
    exact inv0_ops _
  have hf := inv_fine p0_fine right0
  refine ⟨small_right hf.wf (by decide) (by rw [ho]; decide) ?_ (by rw [hd]; decide) (fun x hx => ?_) (by rw [hd, ho]; decide) (by rw [ho]; decide) (fun o h x hx => ?_), by rw [hd]; rfl, ho⟩
  · rw [hd]
    refine risB_iff.2 ⟨by decide, fun j hj x hx => ?_⟩
    have hj0 : j = 0 := by simpa using hj
    subst hj0
    have e : x = tx (nameP p0) := by simpa using hx.symm
    subst e
    exact ⟨nameP_right _ right0, fun i y e => by omega⟩
  · rw [hd, List.mem_singleton] at hx
    subst hx
    exact nameP_size _
  · rw [ho, List.mem_singleton] at h
    subst h
    simp at hx
end Go.Proofs.YtgjcblginkdinaaGreatDoor
set_option linter.unusedVariables false
namespace Go.Proofs.YtgjcblginkdinaaGreatDoor
open Go.ChangeShapes Go.WideShapes Go.ChangeAt Go.RowKit
open Go.Lib (itoa)

def lay0 (w : World) : World := (((w.alloc (.cells #[.string ⟨#[97]⟩] 9)).alloc (.cells #[.int .i64 1, .int .i64 (-1), .int .i64 0, .int .i64 (-1), .int .i64 1, .slice (some ⟨w.heap.size, 0, none⟩) 1 1] 56)).alloc (.cells #[.string ⟨#[]⟩, .slice none 0 0, .slice (some ⟨w.heap.size + 1, 0, none⟩) 1 1] 25))
theorem lay0_reads (w : World) : PReads (lay0 w) p0.note (.slice none 0 0) (.slice (some ⟨w.heap.size + 1, 0, none⟩) 1 1) p0 ∧ Below w.heap.size w (lay0 w) := by
  have hb : Below w.heap.size w (lay0 w) := (((Below.refl _ _).alloc (Nat.le_refl _) _).alloc (by simp) _).alloc (by simp; omega) _
  obtain ⟨q1, q2, q3, _, qs⟩ := boxA3 (Below.refl _ (lay0 w))
  refine ⟨⟨rfl, .inl ⟨rfl, none, 0, rfl⟩, .inr ⟨by simp [p0], w.heap.size + 1, 0, 1, rfl, by simp [p0], by decide, by omega, fun j x hx => ?_⟩⟩, hb⟩
  have hj : j = 0 := by have := (List.getElem?_eq_some_iff.1 hx).1; simp [p0] at this; exact this
  subst hj
  have e : x = op0 := by simpa [p0] using hx.symm
  subst e
  refine ⟨.slice (some ⟨w.heap.size, 0, none⟩) 1 1, q2 0, q2 1, q2 2, q2 3, q2 4, q2 5, .inr ⟨by simp [op0], w.heap.size, 0, 1, rfl, by simp [op0], by decide, by omega, fun j x hx => ?_⟩⟩
  have hj : j = 0 := by have := (List.getElem?_eq_some_iff.1 hx).1; simp [op0] at this; exact this
  subst hj
  have e : x = lineA := by simpa [op0] using hx.symm
  subst e
  exact q1 0
theorem lay0_cells {w W : World} (h : Below (lay0 w).heap.size (lay0 w) W) : W.cell? ⟨w.heap.size + 1 + 1, 0, none⟩ = some (.string ⟨#[]⟩) ∧ W.cell? ⟨w.heap.size + 1 + 1, 1, none⟩ = some (.slice none 0 0) ∧ W.cell? ⟨w.heap.size + 1 + 1, 2, none⟩ = some (.slice (some ⟨w.heap.size + 1, 0, none⟩) 1 1) := by
  obtain ⟨_, _, q3, _, _⟩ := boxA3 h
  exact ⟨q3 0, q3 1, q3 2⟩
theorem bytes0 : bytesP p0 = (ptT p0).bytes := by unfold bytesP; rw [if_pos right0]
theorem read0 {s : ByteArray} (hs : s = tx (bytesP p0)) {w : World} {e : Ending} {w' : World} (h : ReadPP s w e w') : Below w.heap.size w w' ∧ ∃ dv ov, e = .returned (.tuple #[ptV p0.note dv ov, .nilIface]) ∧ PReads w' p0.note dv ov p0 := by
  obtain ⟨hb, ⟨p, dv, ov, hw, _, hr, hby, he, hp⟩ | ⟨hno, _⟩⟩ := h
  · have hT : ptT p = ptT p0 := by
      rw [hs, tx_list, bytes0] at hby
      exact (Tm.unique _ _ [] [] (ptT_ok p) (ptT_ok p0) (by rw [List.append_nil, List.append_nil]; exact hby.symm)).1
    have := ptT_inj hw p0_fine.wf hT
    subst this
    exact ⟨hb, dv, ov, he, hp⟩
  · exact absurd (by rw [hs, tx_list, bytes0]) (hno p0 p0_fine.wf right0)
theorem inv_post0 {w : World} {e : Ending} {w' : World} (h : InvPost p0 w e w') : Below w.heap.size w w' ∧ ∃ dv ov, e = .returned (.tuple #[ptV undoB dv ov, .nilIface]) ∧ PReads w' undoB dv ov (invP p0) := by
  obtain ⟨h | h | ⟨_, _, h⟩, hb⟩ := h
  · rw [right0] at h; cases h.1
  · rw [inv0.1] at h; cases h.2.1
  · exact ⟨hb, h⟩

set_option maxHeartbeats 4000000 in
set_option maxRecDepth 100000 in
theorem pawake_any (w : World) (he : Env w) (hk : HasK w) : Calls Tryz.prog 8 #[] w fun e w' => e = .returned (.bool true) ∧ Below w.heap.size w w' := by
  obtain ⟨hpr, hbl⟩ := lay0_reads w
  have c1 : ∀ wz, Below (lay0 w).heap.size (lay0 w) wz → Calls Tryz.prog 10 #[ptV ⟨#[]⟩ (.slice none 0 0) (.slice (some ⟨w.heap.size + 1, 0, none⟩) 1 1)] wz fun e w' => e = .returned (.tuple #[.string (tx (bytesP p0)), .nilIface]) ∧ Below wz.heap.size wz w' := fun wz hz => by
    have h := pwrite_any p0 _ _ wz (hpr.below hz) p0_fine ((he.tab.below hbl).below hz)
    unfold wrV at h
    rw [if_pos right0] at h
    exact h
  have c2 : ∀ wz, Below w.heap.size w wz → Calls Tryz.prog 18 #[.string (tx (bytesP p0))] wz fun e w' => (∃ dv ov, e = .returned (.tuple #[ptV ⟨#[]⟩ dv ov, .nilIface]) ∧ PReads w' ⟨#[]⟩ dv ov p0) ∧ Below wz.heap.size wz w' := fun wz hz => by
    refine (pread_any (tx (bytesP p0)) wz (by rw [ba_tx]; have := bytesP_len p0; omega) (he.below hz)).mono fun e w' h => ?_
    have h := read0 rfl h
    exact ⟨h.2, h.1⟩
  have c3 : ∀ wz, Below (lay0 w).heap.size (lay0 w) wz → Calls Tryz.prog 23 #[ptV ⟨#[]⟩ (.slice none 0 0) (.slice (some ⟨w.heap.size + 1, 0, none⟩) 1 1)] wz fun e w' => (∃ u dv ov, e = .returned (.tuple #[ptV u dv ov, .nilIface]) ∧ PReads w' u dv ov (invP p0)) ∧ Below wz.heap.size wz w' := fun wz hz =>
    (pinverse_any p0 _ _ wz (hpr.below hz) p0_fine ((he.tab.below hbl).below hz) ((hk.below hbl).below hz)).mono fun e w' h => ⟨⟨_, (inv_post0 h).2⟩, (inv_post0 h).1⟩
  have c4 : ∀ wz, Below (lay0 w).heap.size (lay0 w) wz → Calls Tryz.prog 16 #[ptV ⟨#[]⟩ (.slice none 0 0) (.slice (some ⟨w.heap.size + 1, 0, none⟩) 1 1)] wz fun e w' => e = .returned (.int .i64 1) ∧ Below wz.heap.size wz w' := fun wz hz =>
    pmade_any p0 _ _ wz (hpr.below hz) (by decide)
  obtain ⟨X, hX⟩ : ∃ X, X = tx (bytesP p0) := ⟨_, rfl⟩
  rw [← hX] at c1 c2
  have C1 := Lib.hid c1
  have C2 := Lib.hid c2
  have C3 := Lib.hid c3
  have C4 := Lib.hid c4
  have HBL := Lib.hid hbl
  clear c1 c2 c3 c4 hbl hpr he hk hX
  go_enter Tryz.func8, Tryz.ntmps8
  go_wp2_with fail
  refine (C1.out _ (Below.refl _ _)).mono ?_
  rintro e w1 ⟨rfl, hb1⟩
  have B1 := Lib.hid (show Below (lay0 w).heap.size (lay0 w) w1 from hb1)
  clear hb1
  go_wp2_with fail
  refine (C2.out _ (HBL.out.trans (B1.out.mono HBL.out.size))).mono ?_
  rintro e w2 ⟨⟨dv, ov, rfl, hq⟩, hb2⟩
  obtain ⟨dl, dc, hdv, _⟩ := hq.deps.form
  obtain ⟨ol, oc, hov, _⟩ := hq.ops.form
  have e1 : p0.deps.length = 0 := rfl
  have e2 : p0.ops.length = 1 := rfl
  rw [e1] at hdv
  rw [e2] at hov
  subst hdv
  subst hov
  have B2 := Lib.hid (B1.out.trans (hb2.mono B1.out.size))
  clear hb2 e1 e2 hq
  have B3 := Lib.hid (B2.out.alloc B2.out.size (.cells #[.string ⟨#[]⟩, .slice dl 0 dc, .slice ol 1 oc] 25))
  obtain ⟨y0, y1, y2⟩ := lay0_cells B3.out
  go_wp2_with fail
  refine (C3.out _ B3.out).mono ?_
  rintro e w4 ⟨⟨u, dv, ov, rfl, hi⟩, hb4⟩
  obtain ⟨dl', dc', hdv, _⟩ := hi.deps.form
  obtain ⟨ol', oc', hov, _⟩ := hi.ops.form
  have e2 : (invP p0).ops.length = 1 := by rw [inv0.2.2]; rfl
  have hops := hi.ops
  rw [inv0.2.1] at hdv
  rw [e2] at hov
  subst hdv
  subst hov
  rw [inv0.2.2] at hops
  obtain ⟨b, o, rfl, hone, hcl⟩ := hops.at (j := 0) (x := ⟨4, ⟨0, 0⟩, ⟨0, 0⟩, []⟩) rfl
  obtain ⟨_, i0, _⟩ := hcl.2 0 _ rfl
  rw [Nat.zero_mul, Nat.add_zero] at i0
  simp only at i0
  have qb : ∀ j, w4.cell? ⟨w2.heap.size, j, none⟩ = #[Value.string ⟨#[]⟩, .slice dl 0 dc, .slice ol 1 oc][j]? := fun j => (hb4.cell (p := ⟨w2.heap.size, j, none⟩) (by simp)).trans (World.cell?_alloc_at _ _ _ _ rfl)
  have qb2 : w4.cell? ⟨w2.heap.size, 2, none⟩ = some (.slice ol 1 oc) := qb 2
  have B4 := Lib.hid (B3.out.trans (hb4.mono B3.out.size))
  obtain ⟨z0, z1, z2⟩ := lay0_cells B4.out
  have B5 := Lib.hid (B4.out.alloc B4.out.size (.cells #[.string u, .slice dl' 1 dc', .slice (some ⟨b, o, none⟩) 1 oc'] 25))
  have hal : ∀ q j v, w4.cell? ⟨q, j, none⟩ = some v → (w4.alloc (.cells #[.string u, .slice dl' 1 dc', .slice (some ⟨b, o, none⟩) 1 oc'] 25)).cell? ⟨q, j, none⟩ = some v := fun q j v hv => (((Below.refl _ w4).alloc (Nat.le_refl _) _).cell (p := ⟨q, j, none⟩) (cell_lt hv)).trans hv
  have qa := hal _ _ _ qb2
  have ia := hal _ _ _ i0
  have za0 := hal _ _ _ z0
  have za1 := hal _ _ _ z1
  have za2 := hal _ _ _ z2
  clear hal hone hb4 hcl hops hi qb y0 y1 y2 e2 C1 C2 C3
  go_wp2_with fail
  refine (C4.out _ B5.out).mono ?_
  rintro e w6 ⟨rfl, hb6⟩
  have c6 : ∀ q j v, (w4.alloc (.cells #[.string u, .slice dl' 1 dc', .slice (some ⟨b, o, none⟩) 1 oc'] 25)).cell? ⟨q, j, none⟩ = some v → w6.cell? ⟨q, j, none⟩ = some v := fun q j v hv => (hb6.cell (p := ⟨q, j, none⟩) (cell_lt hv)).trans hv
  have ib := c6 _ _ _ ia
  have ic1 := c6 w4.heap.size 1 (.slice dl' 1 dc') (World.cell?_alloc_at _ _ _ _ rfl)
  have ic2 := c6 w4.heap.size 2 (.slice (some ⟨b, o, none⟩) 1 oc') (World.cell?_alloc_at _ _ _ _ rfl)
  have B6 := Lib.hid (HBL.out.trans ((B5.out.trans (hb6.mono B5.out.size)).mono HBL.out.size))
  clear c6 hb6
  go_wp2_with fail
  go_ret
  exact ⟨rfl, B6.out⟩
end Go.Proofs.YtgjcblginkdinaaGreatDoor
set_option linter.unusedVariables false
namespace Go.Proofs.YtgjcblginkdinaaGreatDoor
open Go.ChangeShapes Go.WideShapes Go.ChangeAt Go.RowKit

theorem nothing_reads (w : World) : PReads w ByteArray.empty (.slice none 0 0) (.slice none 0 0) ⟨ByteArray.empty, [], []⟩ := ⟨rfl, .inl ⟨rfl, _, _, rfl⟩, .inl ⟨rfl, _, _, rfl⟩⟩
abbrev PB (W : World) (b : Nat) (t : ByteArray) (dv ov : Value) : Prop := W.cell? ⟨b, 0, none⟩ = some (.string t) ∧ W.cell? ⟨b, 1, none⟩ = some dv ∧ W.cell? ⟨b, 2, none⟩ = some ov
theorem pb_call {W W2 : World} {b : Nat} {t : ByteArray} {dv ov : Value} (hb : Below W.heap.size W W2) (h : PB W b t dv ov) : PB W2 b t dv ov :=
  ⟨(hb.cell (p := ⟨b, 0, none⟩) (cell_lt h.1)).trans h.1, (hb.cell (p := ⟨b, 1, none⟩) (cell_lt h.2.1)).trans h.2.1, (hb.cell (p := ⟨b, 2, none⟩) (cell_lt h.2.2)).trans h.2.2⟩
theorem pb_new (W : World) (t : ByteArray) (dv ov : Value) (ty : TypeId) : PB (W.alloc (.cells #[.string t, dv, ov] ty)) W.heap.size t dv ov :=
  ⟨World.cell?_alloc_at _ _ _ _ rfl, World.cell?_alloc_at _ _ _ _ rfl, World.cell?_alloc_at _ _ _ _ rfl⟩

end Go.Proofs.YtgjcblginkdinaaGreatDoor
set_option linter.unusedVariables false
namespace Go.Proofs.YtgjcblginkdinaaGreatDoor
open Go.ChangeShapes Go.WideShapes Go.ChangeAt Go.RowKit

def YesP (p : Pt) (x : Value) (w : World) (e : Ending) (w' : World) : Prop := (∃ qa ql qc oa ol oc, e = .returned (.tuple #[ptV p.note (.slice qa ql qc) (.slice oa ol oc), x]) ∧ PReads w' p.note (.slice qa ql qc) (.slice oa ol oc) p) ∧ Below w.heap.size w w'
theorem same_bytes {p q : Pt} {l : List UInt8} (hp : p.wf) (hq : q.wf) (h1 : l = (ptT p).bytes) (h2 : l = (ptT q).bytes) : q = p :=
  ptT_inj hq hp (Tm.unique _ _ [] [] (ptT_ok q) (ptT_ok p) (by rw [List.append_nil, List.append_nil, ← h1, ← h2])).1
theorem pread_yes (s : ByteArray) (p : Pt) (w : World) (hs : s.size ≤ 140737488355328) (he : Env w) (hw : p.wf) (hr : rightP p = true) (hb : s.data.toList = (ptT p).bytes) :
    Calls Tryz.prog 18 #[.string s] w (YesP p .nilIface w) := by
  refine (pread_any s w hs he).mono ?_
  rintro e w' ⟨hB, ⟨q, dv, ov, hqw, _, hqr, hqb, rfl, hp⟩ | ⟨hno, _⟩⟩
  · obtain rfl := same_bytes hw hqw hb hqb
    obtain ⟨qa, qc, hqv, _⟩ := hp.deps.form
    obtain ⟨oa, oc, hov, _⟩ := hp.ops.form
    subst hqv; subst hov
    exact ⟨⟨_, _, _, _, _, _, rfl, hp⟩, hB⟩
  · exact absurd hb (hno p hw hr)
theorem rread_yes (s : ByteArray) (p : Pt) (w : World) (hs : s.size ≤ 65536) (hw : p.wf) (hr : rightP p = true) (hb : s.data.toList = (ptT p).bytes) :
    Calls Tryz.prog 20 #[.string s] w (YesP p (.int .i64 0) w) := by
  refine (rread5 s w hs).mono ?_
  rintro e w' ⟨hB, ⟨q, dv, ov, hqw, _, hqr, hqb, rfl, hp⟩ | ⟨hno, _⟩⟩
  · obtain rfl := same_bytes hw hqw hb hqb
    obtain ⟨qa, qc, hqv, _⟩ := hp.deps.form
    obtain ⟨oa, oc, hov, _⟩ := hp.ops.form
    subst hqv; subst hov
    exact ⟨⟨_, _, _, _, _, _, rfl, hp⟩, hB⟩
  · exact absurd hb (hno p hw hr)

set_option maxHeartbeats 4000000 in
set_option maxRecDepth 100000 in
theorem prlaw_yes (s : ByteArray) (p : Pt) (w : World) (hs : s.size ≤ 3000) (hw : p.wf) (hr : rightP p = true) (hbt : s.data.toList = (ptT p).bytes) (he : Env w) (hk : HasK w) :
    Calls Tryz.prog 4 #[.string s] w fun e w' => e = .returned (.bool true) ∧ Below w.heap.size w w' := by
  have hf : p.fine := pt_fine (by omega) hbt hw
  have c0 : ∀ wz, Below w.heap.size w wz → Calls Tryz.prog 8 #[] wz fun e w' => e = .returned (.bool true) ∧ Below wz.heap.size wz w' := fun wz hz => pawake_any wz (he.below hz) (hk.below hz)
  have c1 : ∀ wz, Below w.heap.size w wz → Calls Tryz.prog 18 #[.string s] wz (YesP p .nilIface wz) := fun wz hz => pread_yes s p wz (by omega) (he.below hz) hw hr hbt
  have c2 : ∀ wz, Calls Tryz.prog 20 #[.string s] wz (YesP p (.int .i64 0) wz) := fun wz => rread_yes s p wz (by omega) hw hr hbt
  have c4 : ∀ (d1 o1 d2 o2 : Value) wz, PReads wz p.note d1 o1 p → PReads wz p.note d2 o2 p → Calls Tryz.prog 19 #[ptV p.note d1 o1, ptV p.note d2 o2] wz fun e w' => e = .returned (.bool true) ∧ Below wz.heap.size wz w' := fun d1 o1 d2 o2 wz h1 h2 => by
    have h := rsame5_any p p d1 o1 d2 o2 wz h1 h2
    rw [sameP_iff.2 rfl] at h
    exact h
  have c5 : ∀ wz, Calls Tryz.prog 14 #[.nilIface] wz fun e w' => e = .returned (.int .i64 0) ∧ Below wz.heap.size wz w' := fun wz => (code_nil wz).mono fun e w' ⟨h1, h2⟩ => ⟨h1, by rw [h2]; exact Below.refl _ _⟩
  have c6 : ∀ (d1 o1 : Value) wz, Below w.heap.size w wz → PReads wz p.note d1 o1 p → Calls Tryz.prog 10 #[ptV p.note d1 o1] wz fun e w' => e = .returned (.tuple #[.string s, .nilIface]) ∧ Below wz.heap.size wz w' := fun d1 o1 wz hz h1 => by
    have h := pwrite_any p d1 o1 wz h1 hf (he.tab.below hz)
    have e1 : wrV p = .nilIface := if_pos hr
    have e2 : tx (bytesP p) = s := by unfold bytesP; rw [if_pos hr, ← hbt, tx_data]
    rw [e1, e2] at h
    exact h
  have xx : (s.toList == s.toList) = true := beq_self_eq_true _
  have n1 : ¬ (3000 : Int) < s.size := by omega
  obtain ⟨qn, hqn⟩ : ∃ q, q = p.note := ⟨_, rfl⟩
  unfold YesP at c1 c2
  rw [← hqn] at c1 c2 c4 c6
  have C0 := Lib.hid c0
  have C1 := Lib.hid c1
  have C2 := Lib.hid c2
  have C4 := Lib.hid c4
  have C5 := Lib.hid c5
  have C6 := Lib.hid c6
  clear c0 c1 c2 c4 c5 c6 he hk hw hr hbt hf hqn hs
  go_enter Tryz.func4, Tryz.ntmps4
  go_wp2_with fail
  refine (C0.out _ (Below.refl _ _)).mono ?_
  rintro e w1 ⟨rfl, hb⟩
  have H1 := Lib.hid hb
  clear hb
  go_wp2_with fail
  refine (C1.out _ H1.out).mono ?_
  rintro e w3 ⟨⟨a1, l1, c1, a2, l2, c2, rfl, hr⟩, hb⟩
  have hal : Below w3.heap.size w3 (w3.alloc (.cells #[.string qn, .slice a1 l1 c1, .slice a2 l2 c2] 25)) := (Below.refl _ _).alloc (Nat.le_refl _) _
  have H3 := Lib.hid ((H1.out.trans (hb.mono H1.out.size)).trans (hal.mono (Nat.le_trans H1.out.size hb.size)))
  have P3 := Lib.hid (pb_new w3 qn (.slice a1 l1 c1) (.slice a2 l2 c2) 25)
  have R3 := Lib.hid (hr.below hal)
  clear hb hal hr
  go_wp2_with fail
  refine (C2.out _).mono ?_
  rintro e w4 ⟨⟨a3, l3, c3, a4, l4, c4, rfl, hr⟩, hb⟩
  have hal : Below w4.heap.size w4 (w4.alloc (.cells #[.string qn, .slice a3 l3 c3, .slice a4 l4 c4] 25)) := (Below.refl _ _).alloc (Nat.le_refl _) _
  have H4 := Lib.hid ((H3.out.trans (hb.mono H3.out.size)).trans (hal.mono (Nat.le_trans H3.out.size hb.size)))
  have P4 := Lib.hid (pb_call hal (pb_call hb P3.out))
  have R4 := Lib.hid ((R3.out.below hb).below hal)
  have U4 := Lib.hid (pb_new w4 qn (.slice a3 l3 c3) (.slice a4 l4 c4) 25)
  have V4 := Lib.hid (hr.below hal)
  clear hb hal hr
  obtain ⟨r0, r1, r2⟩ := P4.out
  obtain ⟨u0, u1, u2⟩ := U4.out
  go_wp2_with fail
  refine (C4.out _ _ _ _ _ R4.out V4.out).mono ?_
  rintro e w5 ⟨rfl, hb⟩
  have H5 := Lib.hid (H4.out.trans (hb.mono H4.out.size))
  have P5 := Lib.hid (pb_call hb P4.out)
  have R5 := Lib.hid (R4.out.below hb)
  clear hb r0 r1 r2 u0 u1 u2
  go_wp2_with fail
  refine (C5.out _).mono ?_
  rintro e w6 ⟨rfl, hb⟩
  have H6 := Lib.hid (H5.out.trans (hb.mono H5.out.size))
  have P6 := Lib.hid (pb_call hb P5.out)
  have R6 := Lib.hid (R5.out.below hb)
  clear hb
  obtain ⟨r0, r1, r2⟩ := P6.out
  go_wp2_with fail
  refine (C6.out _ _ _ H6.out R6.out).mono ?_
  rintro e w7 ⟨rfl, hb⟩
  have H7 := Lib.hid (H6.out.trans (hb.mono H6.out.size))
  clear hb
  go_wp2_with fail
  go_ret
  exact ⟨rfl, H7.out⟩

set_option maxHeartbeats 4000000 in
set_option maxRecDepth 100000 in
theorem prlaw_no (s : ByteArray) (w : World) (hs : s.size ≤ 3000) (hno : ∀ p : Pt, p.wf → rightP p = true → s.data.toList ≠ (ptT p).bytes) (he : Env w) (hk : HasK w) (hg : HasErr w) :
    Calls Tryz.prog 4 #[.string s] w fun e w' => e = .returned (.bool true) ∧ Below w.heap.size w w' := by
  have c0 : ∀ wz, Below w.heap.size w wz → Calls Tryz.prog 8 #[] wz fun e w' => e = .returned (.bool true) ∧ Below wz.heap.size wz w' := fun wz hz => pawake_any wz (he.below hz) (hk.below hz)
  have c1 : ∀ wz, Below w.heap.size w wz → Calls Tryz.prog 18 #[.string s] wz fun e w' => (∃ B, e = .returned (.tuple #[noPt, .iface 41 (.pointer (some ⟨B, 0, none⟩))]) ∧ w'.cell? ⟨B, 0, none⟩ = some (.string ⟨#[112, 97, 116, 99, 104]⟩) ∧ w'.cell? ⟨B, 1, none⟩ = some (errV 10)) ∧ Below wz.heap.size wz w' := fun wz hz => by
    refine (pread_any s wz (by omega) (he.below hz)).mono ?_
    rintro e w' ⟨hB, ⟨q, dv, ov, hqw, _, hqr, hqb, _⟩ | ⟨_, v, rfl, B, rfl, h0, h1⟩⟩
    · exact absurd hqb (hno q hqw hqr)
    · exact ⟨⟨B, rfl, h0, h1⟩, hB⟩
  have c2 : ∀ wz, Calls Tryz.prog 20 #[.string s] wz fun e w' => e = .returned (.tuple #[noPt, .int .i64 10]) ∧ Below wz.heap.size wz w' := fun wz => by
    refine (rread5 s wz (by omega)).mono ?_
    rintro e w' ⟨hB, ⟨q, dv, ov, hqw, _, hqr, hqb, _⟩ | ⟨_, rfl⟩⟩
    · exact absurd hqb (hno q hqw hqr)
    · exact ⟨rfl, hB⟩
  have c4 : ∀ wz, Calls Tryz.prog 19 #[noPt, noPt] wz fun e w' => e = .returned (.bool true) ∧ Below wz.heap.size wz w' := fun wz => by
    have h := rsame5_any ⟨ByteArray.empty, [], []⟩ ⟨ByteArray.empty, [], []⟩ _ _ _ _ wz (nothing_reads wz) (nothing_reads wz)
    rw [sameP_iff.2 rfl] at h
    exact h
  have c5 : ∀ B wz, Below w.heap.size w wz → wz.cell? ⟨B, 1, none⟩ = some (errV 10) → Calls Tryz.prog 14 #[.iface 41 (.pointer (some ⟨B, 0, none⟩))] wz fun e w' => e = .returned (.int .i64 10) ∧ Below wz.heap.size wz w' := fun B wz hz h1 => code_fault B 10 wz (hg.below hz) h1
  have c6 : ∀ (B : Nat) (t : Addr) (old : Value) wz, Below w.heap.size w wz → wz.cell? t = some old → wz.frozen? t = false → Calls Tryz.prog 21 #[.iface 41 (.pointer (some ⟨B, 0, none⟩)), .iface 43 (.pointer (some t))] wz fun ev w' => ev = .returned (.bool true) ∧ ∃ W1, Below wz.heap.size wz W1 ∧ w' = W1.setCell t (.pointer (some ⟨B, 0, none⟩)) := fun B t old wz hz h1 h2 => as_fault' ⟨B, 0, none⟩ t old wz (hg.below hz) h1 h2
  have c7 : ∀ (B : Nat) (j : Int) wz, wz.cell? ⟨B, 1, none⟩ = some (errV 10) → Calls Tryz.prog 22 #[.iface 41 (.pointer (some ⟨B, 0, none⟩)), .iface 47 (.int .i64 j)] wz fun ev w' => ev = .returned (.bool ((10 : Int) == j)) ∧ w' = wz := fun B j wz h1 => is_through B 10 j wz h1
  have n1 : ¬ (3000 : Int) < s.size := by omega
  have C0 := Lib.hid c0
  have C1 := Lib.hid c1
  have C2 := Lib.hid c2
  have C4 := Lib.hid c4
  have C5 := Lib.hid c5
  have C6 := Lib.hid c6
  have C7 := Lib.hid c7
  clear c0 c1 c2 c4 c5 c6 c7 he hk hg hno hs
  go_enter Tryz.func4, Tryz.ntmps4
  go_wp2_with fail
  refine (C0.out _ (Below.refl _ _)).mono ?_
  rintro e w1 ⟨rfl, hb⟩
  have H1 := Lib.hid hb
  clear hb
  go_wp2_with fail
  refine (C1.out _ H1.out).mono ?_
  rintro e w3 ⟨⟨B, rfl, h0, h1⟩, hb⟩
  have hal : Below w3.heap.size w3 (w3.alloc (.cells #[.string ByteArray.empty, .slice none 0 0, .slice none 0 0] 25)) := (Below.refl _ _).alloc (Nat.le_refl _) _
  have H3 := Lib.hid ((H1.out.trans (hb.mono H1.out.size)).trans (hal.mono (Nat.le_trans H1.out.size hb.size)))
  have P3 := Lib.hid (pb_new w3 ByteArray.empty (.slice none 0 0) (.slice none 0 0) 25)
  have F3 := Lib.hid (And.intro ((hal.cell (p := ⟨B, 0, none⟩) (cell_lt h0)).trans h0) ((hal.cell (p := ⟨B, 1, none⟩) (cell_lt h1)).trans h1))
  clear hb hal h0 h1
  go_wp2_with fail
  refine (C2.out _).mono ?_
  rintro e w4 ⟨rfl, hb⟩
  have hal : Below w4.heap.size w4 (w4.alloc (.cells #[.string ByteArray.empty, .slice none 0 0, .slice none 0 0] 25)) := (Below.refl _ _).alloc (Nat.le_refl _) _
  have hb4 := hb.trans (hal.mono hb.size)
  have H4 := Lib.hid (H3.out.trans (hb4.mono H3.out.size))
  have P4 := Lib.hid (pb_call hb4 P3.out)
  have U4 := Lib.hid (pb_new w4 ByteArray.empty (.slice none 0 0) (.slice none 0 0) 25)
  have F4 := Lib.hid (And.intro ((hb4.cell (p := ⟨B, 0, none⟩) (cell_lt F3.out.1)).trans F3.out.1) ((hb4.cell (p := ⟨B, 1, none⟩) (cell_lt F3.out.2)).trans F3.out.2))
  clear hb hal hb4
  obtain ⟨r0, r1, r2⟩ := P4.out
  obtain ⟨u0, u1, u2⟩ := U4.out
  go_wp2_with fail
  refine (C4.out _).mono ?_
  rintro e w5 ⟨rfl, hb⟩
  have H5 := Lib.hid (H4.out.trans (hb.mono H4.out.size))
  have F5 := Lib.hid (And.intro ((hb.cell (p := ⟨B, 0, none⟩) (cell_lt F4.out.1)).trans F4.out.1) ((hb.cell (p := ⟨B, 1, none⟩) (cell_lt F4.out.2)).trans F4.out.2))
  clear hb r0 r1 r2 u0 u1 u2
  go_wp2_with fail
  refine (C5.out B _ H5.out F5.out.2).mono ?_
  rintro e w6 ⟨rfl, hb⟩
  have hal : Below w6.heap.size w6 (w6.alloc (.cells #[.pointer none] 41)) := (Below.refl _ _).alloc (Nat.le_refl _) _
  have hb6 := hb.trans (hal.mono hb.size)
  have HW6 : Hid (w.heap.size ≤ w6.heap.size) := Lib.hid (Nat.le_trans H5.out.size hb.size)
  have H6 := Lib.hid (H5.out.trans (hb6.mono H5.out.size))
  have F6 := Lib.hid (And.intro ((hb6.cell (p := ⟨B, 0, none⟩) (cell_lt F5.out.1)).trans F5.out.1) ((hb6.cell (p := ⟨B, 1, none⟩) (cell_lt F5.out.2)).trans F5.out.2))
  have hBlt : B < w6.heap.size := Nat.lt_of_lt_of_le (cell_lt F5.out.1) hb.size
  have T6 : Hid ((w6.alloc (.cells #[.pointer none] 41)).cell? ⟨w6.heap.size, 0, none⟩ = some (.pointer none)) := Lib.hid (World.cell?_alloc_at _ _ _ _ rfl)
  have Z6 : Hid ((w6.alloc (.cells #[.pointer none] 41)).frozen? ⟨w6.heap.size, 0, none⟩ = false) := Lib.hid (World.frozen?_alloc_at _ _ _ _ rfl)
  clear hb hal hb6
  go_wp2_with fail
  refine (C6.out B _ _ _ H6.out T6.out Z6.out).mono ?_
  rintro e w7 ⟨rfl, W1, hb, rfl⟩
  have t1 : W1.cell? ⟨w6.heap.size, 0, none⟩ = some (.pointer none) := (hb.cell (p := ⟨w6.heap.size, 0, none⟩) (cell_lt T6.out)).trans T6.out
  have t7 : (W1.setCell ⟨w6.heap.size, 0, none⟩ (.pointer (some ⟨B, 0, none⟩))).cell? ⟨w6.heap.size, 0, none⟩ = some (.pointer (some ⟨B, 0, none⟩)) := World.cell?_setCell_same _ _ _ t1
  have kk : ∀ j v, (w6.alloc (.cells #[.pointer none] 41)).cell? ⟨B, j, none⟩ = some v → (W1.setCell ⟨w6.heap.size, 0, none⟩ (.pointer (some ⟨B, 0, none⟩))).cell? ⟨B, j, none⟩ = some v := fun j v hv => by
    rw [World.cell?_setCell_other _ _ _ _ (by intro e; injection e with e; omega)]
    exact (hb.cell (p := ⟨B, j, none⟩) (cell_lt hv)).trans hv
  have b0 := kk _ _ F6.out.1
  have G1 := Lib.hid (kk _ _ F6.out.2)
  have hwle := HW6.out
  have HB7 := Lib.hid ((H6.out.trans (hb.mono H6.out.size)).setCell (p := ⟨w6.heap.size, 0, none⟩) hwle (.pointer (some ⟨B, 0, none⟩)))
  have kp : ((⟨#[112, 97, 116, 99, 104]⟩ : ByteArray).toList == [112, 97, 116, 99, 104]) = true := by rw [ByteArray.toList_eq]; rfl
  clear hb kk t1 hwle
  go_wp2_with fail
  refine (C7.out B 10 _ G1.out).mono ?_
  rintro e w8 ⟨rfl, rfl⟩
  go_wp2_with fail
  refine (C7.out B 2 _ G1.out).mono ?_
  rintro e w9 ⟨rfl, rfl⟩
  go_wp2_with fail
  go_ret
  exact ⟨rfl, HB7.out⟩

theorem prlaw (s : ByteArray) (w : World) (hz : s.size ≤ maxLen) (he : Env w) (hk : HasK w) (hg : HasErr w) :
    Calls Tryz.prog 4 #[.string s] w fun e w' => e = .returned (.bool true) ∧ Below w.heap.size w w' := by
  by_cases hs : s.size ≤ 3000
  · by_cases h : ∃ p : Pt, p.wf ∧ rightP p = true ∧ s.data.toList = (ptT p).bytes
    · obtain ⟨p, h1, h2, h3⟩ := h
      exact prlaw_yes s p w hs h1 h2 h3 he hk
    · exact prlaw_no s w hs (fun p h1 h2 h3 => h ⟨p, h1, h2, h3⟩) he hk hg
  · have c0 := pawake_any w he hk
    unfold maxLen at hz
    have n1 : (3000 : Int) < s.size := by omega
    have C0 := Lib.hid c0
    clear c0 he hk hg
    go_enter Tryz.func4, Tryz.ntmps4
    go_wp2_with fail
    refine C0.out.mono ?_
    rintro e w1 ⟨rfl, hb⟩
    have H1 := Lib.hid hb
    clear hb
    go_wp2_with fail
    go_ret
    exact ⟨rfl, H1.out⟩
end Go.Proofs.YtgjcblginkdinaaGreatDoor
