/- The contract of the laws' Small. The laws are awake: a line at the top. The laws are awake: the walk. -/
import Derived.Test.YtgjcblginkdinaaGreatDoorU39
import Derived.Test.YtgjcblginkdinaaGreatDoorU40
import Derived.Test.YtgjcblginkdinaaGreatDoorU41
import Derived.Test.YtgjcblginkdinaaGreatDoorU44
set_option linter.unusedVariables false
namespace Go.Proofs.YtgjcblginkdinaaGreatDoor
open Go.ChangeShapes Go.WideShapes Go.ChangeAt Go.RowKit

def smallP (p : Pt) : Bool := decide (p.deps.length ≤ 200) && decide (p.ops.length ≤ 1000) && decide (linesN p.ops ≤ 2000)
set_option maxHeartbeats 2000000 in
set_option maxRecDepth 100000 in
theorem psmall_any (p : Pt) (dv ov : Value) (w : World) (hp : PReads w p.note dv ov p) (hl : ∀ o ∈ p.ops, o.lines.length ≤ 140737488355328) :
    Calls Tryz.prog 9 #[ptV p.note dv ov] w fun e w' => e = .returned (.bool (smallP p)) ∧ Below w.heap.size w w' := by
  obtain ⟨hnt, hd, ho⟩ := hp
  obtain ⟨da, dc, rfl, hdn⟩ := hd.form
  obtain ⟨oa, oc, rfl, hon⟩ := ho.form
  obtain ⟨t, ht⟩ : ∃ t, t = p.note := ⟨_, rfl⟩
  obtain ⟨n, hnn⟩ : ∃ n, n = p.ops.length := ⟨_, rfl⟩
  obtain ⟨m, hmm⟩ : ∃ m, m = p.deps.length := ⟨_, rfl⟩
  have hb1 : ∀ o1, Below w.heap.size w (w.alloc o1) := fun o1 => (Below.refl _ _).alloc (Nat.le_refl _) _
  rw [← hnn] at ho hon ⊢
  rw [← hmm] at hdn ⊢
  rw [← ht]
  have hsm : smallP p = (decide (m ≤ 200) && decide (n ≤ 1000) && decide (linesN p.ops ≤ 2000)) := by rw [hmm, hnn]; rfl
  have HO := Lib.hid ho
  have HN := Lib.hid hnn
  have HB1 := Lib.hid hb1
  have HL := Lib.hid hl
  have HSM := Lib.hid hsm
  clear ho hnn hmm ht hb1 hl hsm hnt hd
  by_cases hg : m ≤ 200 ∧ n ≤ 1000
  · obtain ⟨g1, g2⟩ := hg
    have e1 : ¬ (200 : Int) < m := by omega
    have e2 : ¬ (1000 : Int) < n := by omega
    go_enter Tryz.func9, Tryz.ntmps9
    go_wp2_with fail
    go_loopw [3, 19] (fun s i wr => ∃ (k N : Nat), k ≤ n ∧ i = .int .i64 (k : Nat) ∧ s = .int .i64 (N : Nat) ∧ N ≤ 2000 ∧ Hid (N = linesN (p.ops.take k)) ∧ Hid (Below w.heap.size w wr)) (fun _ i _ => n - (intOf i).toNat)
    case atStart => exact ⟨0, 0, Nat.zero_le _, rfl, rfl, by omega, Lib.hid (by simp [linesN]), HB1.out _ |> Lib.hid⟩
    case round =>
      obtain ⟨k, N, hk, rfl, rfl, hN, HNN, HB⟩ := hrel
      by_cases hlt : k < n
      · obtain ⟨x, hx⟩ : ∃ x, p.ops[k]? = some x := ⟨p.ops[k]'(by rw [← HN.out]; exact hlt), by simp⟩
        obtain ⟨b, o, rfl, hnl, hcl⟩ := HO.out.at hx
        clear hnl
        obtain ⟨lv, d0, d1, d2, d3, d4, d5, d6⟩ := (hcl.below HB.out).2 k x hx
        obtain ⟨la, lc, hlv, _⟩ := d6.form
        obtain ⟨L, hL⟩ : ∃ L, L = x.lines.length := ⟨_, rfl⟩
        rw [← hL] at hlv
        subst hlv
        have hL2 : L ≤ 140737488355328 := by rw [hL]; exact HL.out x (List.mem_of_getElem? hx)
        have hsn : linesN (p.ops.take (k + 1)) = N + L := by rw [linesN_snoc hx, ← HNN.out, hL]
        have HSN := Lib.hid hsn
        have HBA := Lib.hid (show ∀ o1, Below w.heap.size w (wr.alloc o1) from fun o1 => HB.out.alloc HB.out.size _)
        clear hx hcl d6 hL hsn
        obtain ⟨K, ⟨x1, y1⟩, ⟨x2, y2⟩, ls⟩ := x
        simp only at d0 d1 d2 d3 d4
        by_cases hbig : 2000 < N + L
        · have e3 : (2000 : Int) < (N : Int) + L := by omega
          have hno : smallP p = false := by
            rw [HSM.out]
            have h1 := linesN_take p.ops (k + 1)
            have h2 : ¬ linesN p.ops ≤ 2000 := by have := HSN.out; omega
            simp [h2]
          have HNO := Lib.hid hno
          clear hno
          go_wp2_with fail
          go_ret
          exact ⟨ret_bool HNO.out.symm, HBA.out _⟩
        · have e3 : ¬ (2000 : Int) < (N : Int) + L := by omega
          go_wp2_with fail
          exact ⟨⟨k + 1, N + L, by omega, by go_num, by go_num, by omega, Lib.hid HSN.out.symm, Lib.hid (HBA.out _)⟩, by simp [intOf]; omega⟩
      · obtain rfl : k = n := by omega
        have hyes : smallP p = true := by
          rw [HSM.out]
          have h1 : linesN p.ops = N := by rw [HNN.out, List.take_of_length_le (by rw [← HN.out]; exact Nat.le_refl _)]
          simp [g1, g2, h1, hN]
        have HY := Lib.hid hyes
        clear hyes
        go_wp2_with fail
        go_ret
        exact ⟨ret_bool HY.out.symm, HB.out⟩
  · have hs : smallP p = false := by
      rw [HSM.out]
      by_cases g1 : m ≤ 200
      · have g2 : ¬ n ≤ 1000 := fun h => hg ⟨g1, h⟩
        simp [g2]
      · simp [g1]
    have HS := Lib.hid hs
    clear hs
    go_enter Tryz.func9, Tryz.ntmps9
    go_wp2_with fail
    all_goals first
      | (exfalso; omega)
      | (go_ret; exact ⟨ret_bool HS.out.symm, HB1.out _⟩)
end Go.Proofs.YtgjcblginkdinaaGreatDoor
set_option linter.unusedVariables false
namespace Go.Proofs.YtgjcblginkdinaaGreatDoor
open Go.ChangeShapes Go.WideShapes Go.ChangeAt Go.RowKit
open Go.Lib (itoa)

def lineA : ByteArray := ⟨#[97]⟩
def op0 : Opp := ⟨1, ⟨-1, 0⟩, ⟨-1, 1⟩, [lineA]⟩
def p0 : Pt := ⟨⟨#[]⟩, [], [op0]⟩
theorem p0_fine : p0.fine := by
  refine ⟨fun o ho => ?_, by decide, fun x hx => by simp [p0] at hx, fun o ho x hx => ?_⟩
  · have e : o = op0 := by simpa [p0] using ho
    subst e
    exact ⟨wfI_small (by decide) (by decide), ⟨wfI_small (by decide) (by decide), wfI_small (by decide) (by decide)⟩, ⟨wfI_small (by decide) (by decide), wfI_small (by decide) (by decide)⟩⟩
  · have e : o = op0 := by simpa [p0] using ho
    subst e
    have e : x = lineA := by simpa [op0] using hx
    subst e
    decide
theorem small_right {p : Pt} (hw : p.wf) (h1 : p.note.size ≤ 100) (h2 : p.ops.length ≤ 1) (h3 : risB p.deps = true) (hd : p.deps.length ≤ 1) (hdz : ∀ x ∈ p.deps, x.size ≤ 64) (h4 : opsR p.deps.length 0 p.ops = true) (h5 : linesN p.ops ≤ 1) (hl : ∀ o ∈ p.ops, ∀ x ∈ o.lines, x.size ≤ 500) : rightP p = true := by
  have hm := madeN_le p.ops
  rw [rightP_of h1 (by omega) h3 h4 (by omega), decide_eq_true_eq]
  have hb := Tm.bytes_le (ptT p)
  have ht := ptT_texts hw h1 hdz hl
  have hp := ptT_parts p
  omega
theorem right0 : rightP p0 = true := by
  refine small_right p0_fine.wf (by decide) (by decide) (risB_iff.2 ⟨by decide, fun j hj => by simp [p0] at hj⟩) (by decide) (fun x hx => by simp [p0] at hx) (by decide) (by decide) (fun o ho x hx => ?_)
  have e : o = op0 := by simpa [p0] using ho
  subst e
  have e : x = lineA := by simpa [op0] using hx
  subst e
  decide
theorem needs0 (nm : ByteArray) : needsL p0 nm = [nm] := by
  obtain ⟨h1, h2⟩ := needs_spec p0 nm
  have hr : needRaw p0 nm = [nm] := by simp [needRaw, p0, op0, needRs, namedR]
  have e : (needsL p0 nm).map (fun s => s.data.toList) = [nm.data.toList] := by
    refine asc_unique h1 (List.pairwise_singleton _ _) (fun x => ?_)
    rw [List.mem_map, List.mem_singleton]
    constructor
    · rintro ⟨s, hs, rfl⟩
      have := (h2 s).1 hs
      rw [hr, List.mem_singleton] at this
      rw [this]
    · rintro rfl
      exact ⟨nm, (h2 nm).2 (by rw [hr]; simp), rfl⟩
  have := congrArg (List.map tx) e
  rw [List.map_map] at this
  have e2 : (tx ∘ fun s : ByteArray => s.data.toList) = id := by funext s; exact tx_data s
  rw [e2, List.map_id] at this
  rw [this, List.map_singleton, tx_data]
theorem nameP_right (p : Pt) (h : rightP p = true) : rightL (tx (nameP p)).data.toList = true := by
  rw [tx_list]
  unfold nameP nameL
  rw [if_pos h]
  unfold rightL
  rw [raw_hex, hexL_len, sumL_len]
  rfl
theorem inv0_ops (nm : ByteArray) : invI [] [nm] nm 0 [op0] = [⟨4, ⟨0, 0⟩, ⟨0, 0⟩, []⟩] := by
  have e : Lib.idxOfS [nm] nm = 0 := by simp [Lib.idxOfS, Lib.idxFromS]
  simp [invI, oneI, op0, delI, lineI, e]
theorem inv0 : rightP (invP p0) = true ∧ (invP p0).deps.length = 1 ∧ (invP p0).ops = [⟨4, ⟨0, 0⟩, ⟨0, 0⟩, []⟩] := by
  have hd : (invP p0).deps = [tx (nameP p0)] := needs0 _
  have ho : (invP p0).ops = [⟨4, ⟨0, 0⟩, ⟨0, 0⟩, []⟩] := by
    show invI p0.deps (needsL p0 (tx (nameP p0))) (tx (nameP p0)) 0 p0.ops = _
    rw [needs0]
    exact inv0_ops _
  have hf := inv_fine p0_fine right0
  refine ⟨small_right hf.wf (by decide) (by rw [ho]; decide) ?_ (by rw [hd]; decide) (fun x hx => ?_) (by rw [hd, ho]; decide) (by rw [ho]; decide) (fun o h x hx => ?_), by rw [hd]; rfl, ho⟩
  · rw [hd]
    refine risB_iff.2 ⟨by decide, fun j hj x hx => ?_⟩
    have hj0 : j = 0 := by simpa using hj
    subst hj0
    have e : x = tx (nameP p0) := by simpa using hx.symm
    subst e
    exact ⟨nameP_right _ right0, fun i y e => by omega⟩
  · rw [hd, List.mem_singleton] at hx
    subst hx
    exact nameP_size _
  · rw [ho, List.mem_singleton] at h
    subst h
    simp at hx
end Go.Proofs.YtgjcblginkdinaaGreatDoor
set_option linter.unusedVariables false
namespace Go.Proofs.YtgjcblginkdinaaGreatDoor
open Go.ChangeShapes Go.WideShapes Go.ChangeAt Go.RowKit
open Go.Lib (itoa)

def lay0 (w : World) : World := (((w.alloc (.cells #[.string ⟨#[97]⟩] 9)).alloc (.cells #[.int .i64 1, .int .i64 (-1), .int .i64 0, .int .i64 (-1), .int .i64 1, .slice (some ⟨w.heap.size, 0, none⟩) 1 1] 56)).alloc (.cells #[.string ⟨#[]⟩, .slice none 0 0, .slice (some ⟨w.heap.size + 1, 0, none⟩) 1 1] 25))
theorem lay0_reads (w : World) : PReads (lay0 w) p0.note (.slice none 0 0) (.slice (some ⟨w.heap.size + 1, 0, none⟩) 1 1) p0 ∧ Below w.heap.size w (lay0 w) := by
  have hb : Below w.heap.size w (lay0 w) := (((Below.refl _ _).alloc (Nat.le_refl _) _).alloc (by simp) _).alloc (by simp; omega) _
  obtain ⟨q1, q2, q3, _, qs⟩ := boxA3 (Below.refl _ (lay0 w))
  refine ⟨⟨rfl, .inl ⟨rfl, none, 0, rfl⟩, .inr ⟨by simp [p0], w.heap.size + 1, 0, 1, rfl, by simp [p0], by decide, by omega, fun j x hx => ?_⟩⟩, hb⟩
  have hj : j = 0 := by have := (List.getElem?_eq_some_iff.1 hx).1; simp [p0] at this; exact this
  subst hj
  have e : x = op0 := by simpa [p0] using hx.symm
  subst e
  refine ⟨.slice (some ⟨w.heap.size, 0, none⟩) 1 1, q2 0, q2 1, q2 2, q2 3, q2 4, q2 5, .inr ⟨by simp [op0], w.heap.size, 0, 1, rfl, by simp [op0], by decide, by omega, fun j x hx => ?_⟩⟩
  have hj : j = 0 := by have := (List.getElem?_eq_some_iff.1 hx).1; simp [op0] at this; exact this
  subst hj
  have e : x = lineA := by simpa [op0] using hx.symm
  subst e
  exact q1 0
theorem lay0_cells {w W : World} (h : Below (lay0 w).heap.size (lay0 w) W) : W.cell? ⟨w.heap.size + 1 + 1, 0, none⟩ = some (.string ⟨#[]⟩) ∧ W.cell? ⟨w.heap.size + 1 + 1, 1, none⟩ = some (.slice none 0 0) ∧ W.cell? ⟨w.heap.size + 1 + 1, 2, none⟩ = some (.slice (some ⟨w.heap.size + 1, 0, none⟩) 1 1) := by
  obtain ⟨_, _, q3, _, _⟩ := boxA3 h
  exact ⟨q3 0, q3 1, q3 2⟩
theorem bytes0 : bytesP p0 = (ptT p0).bytes := by unfold bytesP; rw [if_pos right0]
theorem read0 {s : ByteArray} (hs : s = tx (bytesP p0)) {w : World} {e : Ending} {w' : World} (h : ReadPP s w e w') : Below w.heap.size w w' ∧ ∃ dv ov, e = .returned (.tuple #[ptV p0.note dv ov, .nilIface]) ∧ PReads w' p0.note dv ov p0 := by
  obtain ⟨hb, ⟨p, dv, ov, hw, _, hr, hby, he, hp⟩ | ⟨hno, _⟩⟩ := h
  · have hT : ptT p = ptT p0 := by
      rw [hs, tx_list, bytes0] at hby
      exact (Tm.unique _ _ [] [] (ptT_ok p) (ptT_ok p0) (by rw [List.append_nil, List.append_nil]; exact hby.symm)).1
    have := ptT_inj hw p0_fine.wf hT
    subst this
    exact ⟨hb, dv, ov, he, hp⟩
  · exact absurd (by rw [hs, tx_list, bytes0]) (hno p0 p0_fine.wf right0)
theorem inv_post0 {w : World} {e : Ending} {w' : World} (h : InvPost p0 w e w') : Below w.heap.size w w' ∧ ∃ dv ov, e = .returned (.tuple #[ptV undoB dv ov, .nilIface]) ∧ PReads w' undoB dv ov (invP p0) := by
  obtain ⟨h | h | ⟨_, _, h⟩, hb⟩ := h
  · rw [right0] at h; cases h.1
  · rw [inv0.1] at h; cases h.2.1
  · exact ⟨hb, h⟩

set_option maxHeartbeats 4000000 in
set_option maxRecDepth 100000 in
theorem pawake_any (w : World) (he : Env w) (hk : HasK w) : Calls Tryz.prog 8 #[] w fun e w' => e = .returned (.bool true) ∧ Below w.heap.size w w' := by
  obtain ⟨hpr, hbl⟩ := lay0_reads w
  have c1 : ∀ wz, Below (lay0 w).heap.size (lay0 w) wz → Calls Tryz.prog 10 #[ptV ⟨#[]⟩ (.slice none 0 0) (.slice (some ⟨w.heap.size + 1, 0, none⟩) 1 1)] wz fun e w' => e = .returned (.tuple #[.string (tx (bytesP p0)), .nilIface]) ∧ Below wz.heap.size wz w' := fun wz hz => by
    have h := pwrite_any p0 _ _ wz (hpr.below hz) p0_fine ((he.tab.below hbl).below hz)
    unfold wrV at h
    rw [if_pos right0] at h
    exact h
  have c2 : ∀ wz, Below w.heap.size w wz → Calls Tryz.prog 18 #[.string (tx (bytesP p0))] wz fun e w' => (∃ dv ov, e = .returned (.tuple #[ptV ⟨#[]⟩ dv ov, .nilIface]) ∧ PReads w' ⟨#[]⟩ dv ov p0) ∧ Below wz.heap.size wz w' := fun wz hz => by
    refine (pread_any (tx (bytesP p0)) wz (by rw [ba_tx]; have := bytesP_len p0; omega) (he.below hz)).mono fun e w' h => ?_
    have h := read0 rfl h
    exact ⟨h.2, h.1⟩
  have c3 : ∀ wz, Below (lay0 w).heap.size (lay0 w) wz → Calls Tryz.prog 23 #[ptV ⟨#[]⟩ (.slice none 0 0) (.slice (some ⟨w.heap.size + 1, 0, none⟩) 1 1)] wz fun e w' => (∃ u dv ov, e = .returned (.tuple #[ptV u dv ov, .nilIface]) ∧ PReads w' u dv ov (invP p0)) ∧ Below wz.heap.size wz w' := fun wz hz =>
    (pinverse_any p0 _ _ wz (hpr.below hz) p0_fine ((he.tab.below hbl).below hz) ((hk.below hbl).below hz)).mono fun e w' h => ⟨⟨_, (inv_post0 h).2⟩, (inv_post0 h).1⟩
  have c4 : ∀ wz, Below (lay0 w).heap.size (lay0 w) wz → Calls Tryz.prog 16 #[ptV ⟨#[]⟩ (.slice none 0 0) (.slice (some ⟨w.heap.size + 1, 0, none⟩) 1 1)] wz fun e w' => e = .returned (.int .i64 1) ∧ Below wz.heap.size wz w' := fun wz hz =>
    pmade_any p0 _ _ wz (hpr.below hz) (by decide)
  obtain ⟨X, hX⟩ : ∃ X, X = tx (bytesP p0) := ⟨_, rfl⟩
  rw [← hX] at c1 c2
  have C1 := Lib.hid c1
  have C2 := Lib.hid c2
  have C3 := Lib.hid c3
  have C4 := Lib.hid c4
  have HBL := Lib.hid hbl
  clear c1 c2 c3 c4 hbl hpr he hk hX
  go_enter Tryz.func8, Tryz.ntmps8
  go_wp2_with fail
  refine (C1.out _ (Below.refl _ _)).mono ?_
  rintro e w1 ⟨rfl, hb1⟩
  have B1 := Lib.hid (show Below (lay0 w).heap.size (lay0 w) w1 from hb1)
  clear hb1
  go_wp2_with fail
  refine (C2.out _ (HBL.out.trans (B1.out.mono HBL.out.size))).mono ?_
  rintro e w2 ⟨⟨dv, ov, rfl, hq⟩, hb2⟩
  obtain ⟨dl, dc, hdv, _⟩ := hq.deps.form
  obtain ⟨ol, oc, hov, _⟩ := hq.ops.form
  have e1 : p0.deps.length = 0 := rfl
  have e2 : p0.ops.length = 1 := rfl
  rw [e1] at hdv
  rw [e2] at hov
  subst hdv
  subst hov
  have B2 := Lib.hid (B1.out.trans (hb2.mono B1.out.size))
  clear hb2 e1 e2 hq
  have B3 := Lib.hid (B2.out.alloc B2.out.size (.cells #[.string ⟨#[]⟩, .slice dl 0 dc, .slice ol 1 oc] 25))
  obtain ⟨y0, y1, y2⟩ := lay0_cells B3.out
  go_wp2_with fail
  refine (C3.out _ B3.out).mono ?_
  rintro e w4 ⟨⟨u, dv, ov, rfl, hi⟩, hb4⟩
  obtain ⟨dl', dc', hdv, _⟩ := hi.deps.form
  obtain ⟨ol', oc', hov, _⟩ := hi.ops.form
  have e2 : (invP p0).ops.length = 1 := by rw [inv0.2.2]; rfl
  have hops := hi.ops
  rw [inv0.2.1] at hdv
  rw [e2] at hov
  subst hdv
  subst hov
  rw [inv0.2.2] at hops
  obtain ⟨b, o, rfl, hone, hcl⟩ := hops.at (j := 0) (x := ⟨4, ⟨0, 0⟩, ⟨0, 0⟩, []⟩) rfl
  obtain ⟨_, i0, _⟩ := hcl.2 0 _ rfl
  rw [Nat.zero_mul, Nat.add_zero] at i0
  simp only at i0
  have qb : ∀ j, w4.cell? ⟨w2.heap.size, j, none⟩ = #[Value.string ⟨#[]⟩, .slice dl 0 dc, .slice ol 1 oc][j]? := fun j => (hb4.cell (p := ⟨w2.heap.size, j, none⟩) (by simp)).trans (World.cell?_alloc_at _ _ _ _ rfl)
  have qb2 : w4.cell? ⟨w2.heap.size, 2, none⟩ = some (.slice ol 1 oc) := qb 2
  have B4 := Lib.hid (B3.out.trans (hb4.mono B3.out.size))
  obtain ⟨z0, z1, z2⟩ := lay0_cells B4.out
  have B5 := Lib.hid (B4.out.alloc B4.out.size (.cells #[.string u, .slice dl' 1 dc', .slice (some ⟨b, o, none⟩) 1 oc'] 25))
  have hal : ∀ q j v, w4.cell? ⟨q, j, none⟩ = some v → (w4.alloc (.cells #[.string u, .slice dl' 1 dc', .slice (some ⟨b, o, none⟩) 1 oc'] 25)).cell? ⟨q, j, none⟩ = some v := fun q j v hv => (((Below.refl _ w4).alloc (Nat.le_refl _) _).cell (p := ⟨q, j, none⟩) (cell_lt hv)).trans hv
  have qa := hal _ _ _ qb2
  have ia := hal _ _ _ i0
  have za0 := hal _ _ _ z0
  have za1 := hal _ _ _ z1
  have za2 := hal _ _ _ z2
  clear hal hone hb4 hcl hops hi qb y0 y1 y2 e2 C1 C2 C3
  go_wp2_with fail
  refine (C4.out _ B5.out).mono ?_
  rintro e w6 ⟨rfl, hb6⟩
  have c6 : ∀ q j v, (w4.alloc (.cells #[.string u, .slice dl' 1 dc', .slice (some ⟨b, o, none⟩) 1 oc'] 25)).cell? ⟨q, j, none⟩ = some v → w6.cell? ⟨q, j, none⟩ = some v := fun q j v hv => (hb6.cell (p := ⟨q, j, none⟩) (cell_lt hv)).trans hv
  have ib := c6 _ _ _ ia
  have ic1 := c6 w4.heap.size 1 (.slice dl' 1 dc') (World.cell?_alloc_at _ _ _ _ rfl)
  have ic2 := c6 w4.heap.size 2 (.slice (some ⟨b, o, none⟩) 1 oc') (World.cell?_alloc_at _ _ _ _ rfl)
  have B6 := Lib.hid (HBL.out.trans ((B5.out.trans (hb6.mono B5.out.size)).mono HBL.out.size))
  clear c6 hb6
  go_wp2_with fail
  go_ret
  exact ⟨rfl, B6.out⟩
end Go.Proofs.YtgjcblginkdinaaGreatDoor
