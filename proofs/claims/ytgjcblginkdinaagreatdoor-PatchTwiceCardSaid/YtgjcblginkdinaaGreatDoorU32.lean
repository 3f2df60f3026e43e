/- The contract of the inverter's all: a range over slices.Backward. -/
import Derived.Test.YtgjcblginkdinaaGreatDoorU31
set_option linter.unusedVariables false
namespace Go.Proofs.YtgjcblginkdinaaGreatDoor
open Go.ChangeShapes Go.WideShapes Go.ChangeAt Go.RowKit Go.Shelf
attribute [local go_sem] Oper.semAt_some

def nilOps (os : List Opp) : List OE := os.map fun o => (o, .slice none 0 0)
theorem nilOps_app (a b : List Opp) : nilOps (a ++ b) = nilOps a ++ nilOps b := by simp [nilOps]
structure OutO (B : Nat) (w : World) (v : Value) (os : List Opp) : Prop where
  row : Row 6 B w v os.length (ocells (nilOps os))
  pos : ∀ b, v.ownBlock = some b → 0 < os.length
theorem OutO.nil (B : Nat) (w : World) : OutO B w (.slice none 0 0) [] := ⟨Row.nil _ _ _, by intro b h; cases h⟩
theorem OutO.cells {B : Nat} {w : World} {v : Value} {os : List Opp} (h : OutO B w v os) {b : Nat} (hb : v.ownBlock = some b) : ∃ u, w.cell? ⟨b, 0, none⟩ = some u := by
  obtain ⟨b', cap, hv, _, _, hc, _, hf, _⟩ := h.row.pos (h.pos b hb)
  rw [hv] at hb
  injection hb with hb
  subst hb
  exact Option.isSome_iff_exists.1 (hf 0 (by have := h.pos b' (by rw [hv]; rfl); omega)).1
theorem OutO.off {B : Nat} {Z : Nat → Prop} {w w' : World} {v : Value} {os : List Opp} (h : OutO B w v os) (ho : Off Z w w') (hz : ∀ b, v.ownBlock = some b → ¬ Z b) : OutO B w' v os := ⟨h.row.off ho hz, h.pos⟩
theorem OutO.below {B : Nat} {w w' : World} {v : Value} {os : List Opp} (h : OutO B w v os) (hb : Below w.heap.size w w') : OutO B w' v os := ⟨h.row.below hb, h.pos⟩
theorem OutO.kept {B : Nat} {w w' : World} {row : Option Nat} {v : Value} {os : List Opp} (h : OutO B w v os) (hg : w.grownBy w' row) (hr : ∀ r, row = some r → ∃ o : Obj, w.heap[r]? = some o ∧ o.isCells = false) : OutO B w' v os := by
  refine ⟨h.row.carry hg.size fun b hb => ?_, h.pos⟩
  obtain ⟨u, hu⟩ := h.cells hb
  obtain ⟨o, ho, hc⟩ := cells_of_cell hu
  exact grownBy_keeps_cells hg hr ho hc
theorem keeps_off {w w' : World} {v : Value} (ho : Off (fun i => v.ownBlock = some i) w w') (hc : ∀ b, v.ownBlock = some b → ∃ u, w.cell? ⟨b, 0, none⟩ = some u) : KeepsOthers w w' :=
  ⟨ho.size, fun k o hk hn => by
    refine (ho.block k (Array.getElem?_eq_some_iff.1 hk).1 (fun e => ?_)).trans hk
    obtain ⟨u, hu⟩ := hc k e
    obtain ⟨o', ho', hc'⟩ := cells_of_cell hu
    have : o' = o := Option.some.inj (ho'.symm.trans hk)
    subst this
    rw [hn] at hc'; cases hc'⟩
theorem keeps_below {w w' : World} (h : Below w.heap.size w w') : KeepsOthers w w' :=
  ⟨h.size, fun k o hk hn => (h.block k (Array.getElem?_eq_some_iff.1 hk).1).trans hk⟩
theorem OutO.push {B : Nat} {w' : World} {v' : Value} {os : List Opp} {x : Opp} (hr : Row 6 B w' v' (os.length + 1) (ocells (nilOps os) ++ [.int .i64 x.kind, .int .i64 x.a.at_, .int .i64 x.a.n, .int .i64 x.b.at_, .int .i64 x.b.n, .slice none 0 0])) : OutO B w' v' (os ++ [x]) := by
  refine ⟨?_, fun b _ => by simp⟩
  rw [List.length_append, nilOps_app, ocells_app]
  simpa [nilOps, ocells] using hr
theorem OutO.reads {B : Nat} {w : World} {v : Value} {os : List Opp} (h : OutO B w v os) (hl : ∀ o ∈ os, o.lines = []) : OReads w v os := by
  have hm : MadeO B w v (nilOps os) := ⟨by simpa [nilOps] using h.row, fun p hp => by
    obtain ⟨o, ho, rfl⟩ := List.mem_map.1 hp
    exact .inl ⟨hl o ho, none, 0, rfl⟩⟩
  have := hm.reads
  have e : (nilOps os).map (·.1) = os := by unfold nilOps; rw [List.map_map]; exact List.map_id os
  rwa [e] at this

theorem invI_lines (deps needs : Lb) (nm : ByteArray) : ∀ (l : List Opp) (m : Nat), ∀ o ∈ invI deps needs nm m l, o.lines = []
  | [], m, o, h => by simp [invI] at h
  | z :: r, m, o, h => by
    simp only [invI, List.mem_append] at h
    rcases h with h | h
    · exact invI_lines deps needs nm r _ o h
    · unfold oneI at h
      split at h
      · obtain ⟨j, _, rfl⟩ := List.mem_map.1 h; rfl
      · rw [List.mem_singleton] at h
        subst h
        unfold opI
        split
        · rfl
        · split
          · rfl
          · split <;> rfl

abbrev OpAt (W : World) (b k : Nat) (x : OV) : Prop := W.cell? ⟨b, k, none⟩ = some (.int .i64 x.1.kind) ∧ W.cell? ⟨b, k + 1, none⟩ = some (.int .i64 x.1.a.at_) ∧ W.cell? ⟨b, k + 2, none⟩ = some (.int .i64 x.1.a.n) ∧
  W.cell? ⟨b, k + 3, none⟩ = some (.int .i64 x.1.b.at_) ∧ W.cell? ⟨b, k + 4, none⟩ = some (.int .i64 x.1.b.n) ∧ W.cell? ⟨b, k + 5, none⟩ = some (.slice x.2.1 x.1.lines.length x.2.2)
def AllC (h B3 : Nat) (dv : Value) (nm : ByteArray) (nv : Value) (os : List Opp) (m : Int) (B : Nat) (W : World) : Prop :=
  (W.cell? ⟨h, 0, none⟩ = some dv ∧ W.cell? ⟨h, 1, none⟩ = some (.string nm) ∧ W.cell? ⟨h, 2, none⟩ = some nv) ∧ (∃ v, W.cell? ⟨h + 1 + 1, 0, none⟩ = some v ∧ OutO B W v os) ∧ W.frozen? ⟨h + 1 + 1, 0, none⟩ = false ∧
  (W.cell? ⟨B3, 0, none⟩ = some (.int .i64 m) ∧ W.frozen? ⟨B3, 0, none⟩ = false) ∧ B ≤ W.heap.size
theorem AllC.kept {h B3 B : Nat} {dv nv : Value} {nm : ByteArray} {os : List Opp} {m : Int} {W W' : World} {row : Option Nat} (hs : AllC h B3 dv nm nv os m B W) (hg : W.grownBy W' row) (hr : ∀ r, row = some r → ∃ o : Obj, W.heap[r]? = some o ∧ o.isCells = false) : AllC h B3 dv nm nv os m B W' := by
  obtain ⟨⟨a0, a1, a2⟩, ⟨v, hv, ho⟩, hf, ⟨hm, hmf⟩, hBz⟩ := hs
  exact ⟨⟨cell_kept a0 hg hr, cell_kept a1 hg hr, cell_kept a2 hg hr⟩, ⟨v, cell_kept hv hg hr, ho.kept hg hr⟩, (frozen_kept hv hg hr).trans hf, ⟨cell_kept hm hg hr, (frozen_kept hm hg hr).trans hmf⟩, Nat.le_trans hBz hg.size⟩
theorem AllC.setMade {h B3 B : Nat} {dv nv : Value} {nm : ByteArray} {os : List Opp} {m : Int} {W : World} (hs : AllC h B3 dv nm nv os m B W) (h3 : h + 1 + 1 < B3) (hB : B3 < B) (m' : Int) : AllC h B3 dv nm nv os m' B (W.setCell ⟨B3, 0, none⟩ (.int .i64 m')) := by
  obtain ⟨⟨a0, a1, a2⟩, ⟨v, hv, ho⟩, hf, ⟨hm, hmf⟩, hBz⟩ := hs
  have s : ∀ q j u, q ≠ B3 → W.cell? ⟨q, j, none⟩ = some u → (W.setCell ⟨B3, 0, none⟩ (.int .i64 m')).cell? ⟨q, j, none⟩ = some u := fun q j u hq hu => by
    rw [World.cell?_setCell_other _ _ _ _ (by intro e; injection e with e; exact hq e.symm)]; exact hu
  refine ⟨⟨s _ _ _ (by omega) a0, s _ _ _ (by omega) a1, s _ _ _ (by omega) a2⟩, ⟨v, s _ _ _ (by omega) hv, ⟨ho.row.setOther (p := ⟨B3, 0, none⟩) (fun e => by have := (ho.row.lt _ e).1; simp only at this; omega) _, ho.pos⟩⟩, by rw [World.frozen?_setCell]; exact hf, ⟨World.cell?_setCell_same _ _ _ hm, by rw [World.frozen?_setCell]; exact hmf⟩, by simpa [World.setCell] using hBz⟩
theorem AllC.below {h B3 B : Nat} {dv nv : Value} {nm : ByteArray} {os : List Opp} {m : Int} {W W' : World} (hs : AllC h B3 dv nm nv os m B W) (hb : Below W.heap.size W W') : AllC h B3 dv nm nv os m B W' := by
  obtain ⟨⟨a0, a1, a2⟩, ⟨v, hv, ho⟩, hf, ⟨hm, hmf⟩, hBz⟩ := hs
  have c : ∀ q u, W.cell? ⟨q, 0, none⟩ = some u → W'.cell? ⟨q, 0, none⟩ = some u := fun q u hu => (hb.cell (p := ⟨q, 0, none⟩) (cell_lt hu)).trans hu
  exact ⟨⟨c _ _ a0, (hb.cell (p := ⟨h, 1, none⟩) (cell_lt a1)).trans a1, (hb.cell (p := ⟨h, 2, none⟩) (cell_lt a2)).trans a2⟩, ⟨v, c _ _ hv, ho.below hb⟩, (hb.frozen (p := ⟨h + 1 + 1, 0, none⟩) (cell_lt hv)).trans hf, ⟨c _ _ hm, (hb.frozen (p := ⟨B3, 0, none⟩) (cell_lt hm)).trans hmf⟩, Nat.le_trans hBz hb.size⟩
theorem all_push {w W w2 : World} {h B3 B : Nat} {dv nv : Value} {nm : ByteArray} {os : List Opp} {m : Int} {va : Option Addr} {ol vc : Nat} (x : Opp) (hs : AllC h B3 dv nm nv os m B W) (hv : W.cell? ⟨h + 1 + 1, 0, none⟩ = some (.slice va ol vc)) (hol : ol = os.length) (hlen : os.length ≤ 1000000)
    (hh : h = w.heap.size) (h3 : h + 1 + 1 < B3) (hB : B = B3 + 2) (hBW : Below w.heap.size w W) (hb2 : Below W.drew.heap.size W.drew w2) :
    w2.cell? ⟨h + 1 + 1, 0, none⟩ = some (.slice va ol vc) ∧ (w2.alloc (.cells #[.int .i64 x.kind, .int .i64 x.a.at_, .int .i64 x.a.n, .int .i64 x.b.at_, .int .i64 x.b.n, .slice none 0 0] 56)).cell? ⟨h + 1 + 1, 0, none⟩ = some (.slice va ol vc) ∧
    ∃ a6 c6 w6, (Builtin.append_ #[23, 23] 23 #[.slice va ol vc, .slice (some ⟨w2.heap.size, 0, none⟩) 1 1]).run Tryz.prog (w2.alloc (.cells #[.int .i64 x.kind, .int .i64 x.a.at_, .int .i64 x.a.n, .int .i64 x.b.at_, .int .i64 x.b.n, .slice none 0 0] 56)) = .ok (.slice a6 (ol + 1) c6) w6 ∧
      w6.cell? ⟨h + 1 + 1, 0, none⟩ = some (.slice va ol vc) ∧ w6.frozen? ⟨h + 1 + 1, 0, none⟩ = false ∧
      AllC h B3 dv nm nv (os ++ [x]) m B (w6.setCell ⟨h + 1 + 1, 0, none⟩ (.slice a6 (ol + 1) c6)) ∧ Off (fun i => w.heap.size ≤ i ∧ i ≠ B3 + 1) W (w6.setCell ⟨h + 1 + 1, 0, none⟩ (.slice a6 (ol + 1) c6)) ∧
      KeepsOthers W (w6.setCell ⟨h + 1 + 1, 0, none⟩ (.slice a6 (ol + 1) c6)) ∧ Below w.heap.size w (w6.setCell ⟨h + 1 + 1, 0, none⟩ (.slice a6 (ol + 1) c6)) := by
  have hb : Below W.heap.size W (w2.alloc (.cells #[.int .i64 x.kind, .int .i64 x.a.at_, .int .i64 x.a.n, .int .i64 x.b.at_, .int .i64 x.b.n, .slice none 0 0] 56)) := (((Below.refl _ W).drew).trans hb2).alloc hb2.size _
  have hv20 : w2.cell? ⟨h + 1 + 1, 0, none⟩ = some (.slice va ol vc) := (hb2.cell (p := ⟨h + 1 + 1, 0, none⟩) (cell_lt hv)).trans hv
  have hA := hs.below hb
  obtain ⟨⟨a0, a1, a2⟩, ⟨v, hv1, ho⟩, hf, ⟨hm, hmf⟩, hBz⟩ := hA
  have hv2 := (hb.cell (p := ⟨h + 1 + 1, 0, none⟩) (cell_lt hv)).trans hv
  rw [hv2] at hv1
  injection hv1 with hv1
  subst hv1
  obtain ⟨W2, hW2⟩ : ∃ W2, W2 = w2.alloc (.cells #[.int .i64 x.kind, .int .i64 x.a.at_, .int .i64 x.a.n, .int .i64 x.b.at_, .int .i64 x.b.n, .slice none 0 0] 56) := ⟨_, rfl⟩
  have hsrc := src_new (P := Tryz.prog) (w := w2) (k := 6) Tryz.underlying23 [.int .i64 x.kind, .int .i64 x.a.at_, .int .i64 x.a.n, .int .i64 x.b.at_, .int .i64 x.b.n, .slice none 0 0] 1 56 1 rfl (by intro u hu; simp only [List.mem_cons, List.not_mem_nil, or_false] at hu; rcases hu with rfl | rfl | rfl | rfl | rfl | rfl <;> rfl)
  have hsrc' : Src Tryz.prog 6 23 (.slice (some ⟨w2.heap.size, 0, none⟩) 1 1) 1 [.int .i64 x.kind, .int .i64 x.a.at_, .int .i64 x.a.n, .int .i64 x.b.at_, .int .i64 x.b.n, .slice none 0 0] W2 := by rw [hW2]; exact hsrc
  rw [← hW2] at hb a0 a1 a2 ho hf hm hmf hv2 hBz ⊢
  clear hsrc hW2
  have hrow := ho.row
  rw [← hol] at hrow
  obtain ⟨v', w6, hr6, hrow6, ho6, hw6⟩ := run_append_row (P := Tryz.prog) (w := W2) 23 23 23 56 (.agg #[.int .i64 0, .int .i64 0, .int .i64 0, .int .i64 0, .int .i64 0, .slice none 0 0]) 64 Tryz.underlying23 Tryz.infoOp rfl hrow _ _ _ hsrc' hBz (by omega) (by decide)
  obtain ⟨a6, c6, hv6⟩ := hrow6.form
  subst hv6
  have hown : ∀ q, q < B → ¬ (Value.slice va ol vc).ownBlock = some q := fun q hq e => by have := (hrow.lt q e).1; omega
  have c : ∀ q j u, q < B → W2.cell? ⟨q, j, none⟩ = some u → w6.cell? ⟨q, j, none⟩ = some u := fun q j u hq hu => (ho6.cell (p := ⟨q, j, none⟩) (cell_lt hu) (hown q hq)).trans hu
  have f : ∀ q j u, q < B → W2.cell? ⟨q, j, none⟩ = some u → w6.frozen? ⟨q, j, none⟩ = W2.frozen? ⟨q, j, none⟩ := fun q j u hq hu => ho6.frozen (p := ⟨q, j, none⟩) (cell_lt hu) (hown q hq)
  have s : ∀ q j u, q ≠ h + 1 + 1 → w6.cell? ⟨q, j, none⟩ = some u → (w6.setCell ⟨h + 1 + 1, 0, none⟩ (.slice a6 (ol + 1) c6)).cell? ⟨q, j, none⟩ = some u := fun q j u hq hu => by
    rw [World.cell?_setCell_other _ _ _ _ (by intro e; injection e with e; exact hq e.symm)]; exact hu
  have hc6 := c _ _ _ (by omega) hv2
  have ho7 : Off (fun i => (Value.slice va ol vc).ownBlock = some i) W w6 := (Off.of_below hb).trans ho6
  have hz : ∀ i, (Value.slice va ol vc).ownBlock = some i → w.heap.size ≤ i ∧ i ≠ B3 + 1 := fun i hi => by have := (hrow.lt i hi).1; omega
  have hoz : Off (fun i => w.heap.size ≤ i ∧ i ≠ B3 + 1) W w6 := ho7.mono hz
  have hset : Off (fun i => w.heap.size ≤ i ∧ i ≠ B3 + 1) W (w6.setCell ⟨h + 1 + 1, 0, none⟩ (.slice a6 (ol + 1) c6)) := Off.setCell (Z := fun i => w.heap.size ≤ i ∧ i ≠ B3 + 1) hoz (p := ⟨h + 1 + 1, 0, none⟩) (.inr (by show w.heap.size ≤ h + 1 + 1 ∧ h + 1 + 1 ≠ B3 + 1; omega)) _
  refine ⟨hv20, hv2, a6, c6, w6, hr6, hc6, (f _ _ _ (by omega) hv2).trans hf, ⟨⟨s _ _ _ (by omega) (c _ _ _ (by omega) a0), s _ _ _ (by omega) (c _ _ _ (by omega) a1), s _ _ _ (by omega) (c _ _ _ (by omega) a2)⟩, ⟨.slice a6 (ol + 1) c6, World.cell?_setCell_same _ _ _ hc6, ?_⟩, ?_, ⟨s _ _ _ (by omega) (c _ _ _ (by omega) hm), ?_⟩, ?_⟩, hset, ?_, ?_⟩
  · refine OutO.push ?_
    rw [← hol]
    exact hrow6.setOther (p := ⟨h + 1 + 1, 0, none⟩) (fun e => by have := (hrow6.lt _ e).1; simp only at this; omega) _
  · rw [World.frozen?_setCell]; exact (f _ _ _ (by omega) hv2).trans hf
  · rw [World.frozen?_setCell]; exact (f _ _ _ (by omega) hm).trans hmf
  · have := ho6.size; simp only [World.setCell, Array.size_modify]; omega
  · exact ((keeps_below hb).trans (keeps_off ho6 (fun b hb => ho.cells hb))).trans (KeepsOthers.setCell _ _ _)
  · exact hBW.trans (hset.below (fun i hi => hi.1) hBW.size)

attribute [-go_sem] Builtin.append_
set_option maxHeartbeats 4000000 in
set_option maxRecDepth 100000 in
theorem piall_any (p : Pt) (needs : Lb) (dv ov nv : Value) (nm : ByteArray) (w : World) (hp : PReads w p.note dv ov p) (hr : Reads w nv needs) (hok : ∀ z ∈ p.ops, z.kind ≠ 1 → z.a.okR p.deps.length ∧ (z.kind = 2 ∨ z.kind = 3 → z.b.okR p.deps.length))
    (hn : p.ops.length ≤ 400) (hl : linesN p.ops ≤ 300) :
    Calls Tryz.prog 52 #[ivV dv nm nv, ptV p.note dv ov] w fun e w' => (∃ v, e = .returned v ∧ OReads w' v (invI p.deps needs nm 0 p.ops) ∧ ∀ g, v.ownBlock = some g → w.heap.size < g) ∧ Below w.heap.size w w' := by
  have hb3 : ∀ o1 o2 o3, Below w.heap.size w (((w.alloc o1).alloc o2).alloc o3) := fun o1 o2 o3 => (((Below.refl _ _).alloc (Nat.le_refl _) _).alloc (by simp) _).alloc (by simp; omega) _
  obtain ⟨oa, oc, hov, hon⟩ := hp.ops.form
  subst hov
  obtain ⟨da, dc, hdv, hdn⟩ := hp.deps.form
  subst hdv
  obtain ⟨na, nc, hnv, _⟩ := hr.form
  subst hnv
  have hmade : ∀ wz, Below w.heap.size w wz → Calls Tryz.prog 16 #[ptV p.note (.slice da p.deps.length dc) (.slice oa p.ops.length oc)] wz fun e w' => e = .returned (.int .i64 (madeN p.ops : Nat)) ∧ Below wz.heap.size wz w' := fun wz hz => pmade_any p _ _ wz (hp.below hz) (by omega)
  obtain ⟨_, lvs, hlv, hlx⟩ := oreads_list hp.ops
  obtain ⟨n, hnn⟩ : ∃ n, n = p.ops.length := ⟨_, rfl⟩
  obtain ⟨dn, hdl⟩ : ∃ n, n = p.deps.length := ⟨_, rfl⟩
  obtain ⟨nn, hnl⟩ : ∃ n, n = needs.length := ⟨_, rfl⟩
  obtain ⟨t, htt⟩ : ∃ t, t = p.note := ⟨_, rfl⟩
  obtain ⟨M, hM⟩ : ∃ M, M = madeN p.ops := ⟨_, rfl⟩
  rw [← hnn, ← hdl, ← htt, ← hM] at hmade
  rw [← hnn, ← hdl, ← hnl, ← htt]
  obtain ⟨zs, hzs⟩ : ∃ zs : List OV, zs = p.ops.zip lvs := ⟨_, rfl⟩
  have hzl : zs.length = n := by rw [hzs, List.length_zip, hlv, hnn]; omega
  have hzm : zs.map (·.1) = p.ops := by rw [hzs]; exact List.map_fst_zip (by rw [hlv]; exact Nat.le_refl _)
  have hzx : ∀ (j : Nat) x, zs[j]? = some x → p.ops[j]? = some x.1 ∧ lvs[j]? = some x.2 := fun j x hx => by
    rw [hzs, List.getElem?_zip_eq_some] at hx
    exact hx
  have hlz : ∀ (j : Nat) x, zs[j]? = some x → ∃ b o, oa = some ⟨b, o, none⟩ ∧ b < w.heap.size ∧ w.cell? ⟨b, o + j * 6, none⟩ = some (.int .i64 x.1.kind) ∧ w.cell? ⟨b, o + j * 6 + 1, none⟩ = some (.int .i64 x.1.a.at_) ∧ w.cell? ⟨b, o + j * 6 + 2, none⟩ = some (.int .i64 x.1.a.n) ∧
      w.cell? ⟨b, o + j * 6 + 3, none⟩ = some (.int .i64 x.1.b.at_) ∧ w.cell? ⟨b, o + j * 6 + 4, none⟩ = some (.int .i64 x.1.b.n) ∧ w.cell? ⟨b, o + j * 6 + 5, none⟩ = some (.slice x.2.1 x.1.lines.length x.2.2) := fun j x hx => by
    obtain ⟨b, o, e1, e2, _, _, e3⟩ := hlx j x.1 x.2 (hzx j x hx).1 (hzx j x hx).2
    exact ⟨b, o, e1, e2, e3⟩
  have hzk : ∀ x ∈ zs, x.1 ∈ p.ops := fun x hx => by rw [← hzm]; exact List.mem_map_of_mem hx
  have hzo : ∀ x ∈ zs, (x.1.kind ≠ 1 → x.1.a.okR dn ∧ (x.1.kind = 2 ∨ x.1.kind = 3 → x.1.b.okR dn)) ∧ x.1.lines.length ≤ 300 := fun x hx => by
    rw [hdl]
    exact ⟨hok x.1 (hzk x hx), Nat.le_trans (lines_mem (hzk x hx)) hl⟩
  have hMle : M ≤ 300 := by rw [hM]; have := madeN_le p.ops; omega
  have hn4 : n ≤ 400 := by rw [hnn]; exact hn
  have hop : ∀ (z : Opp) (la : Option Addr) (ln lc : Nat) wz, Below w.heap.size w wz → z.a.okR dn → (z.kind = 2 ∨ z.kind = 3 → z.b.okR dn) → Calls Tryz.prog 94 #[ivV (.slice da dn dc) nm (.slice na nn nc), opV z (.slice la ln lc)] wz fun e w' => e = .returned (opV (opI p.deps needs nm z) (.slice none 0 0)) ∧ Below wz.heap.size wz w' := fun z la ln lc wz hz h1 h2 => by
    rw [hdl, hnl]; rw [hdl] at h1 h2
    exact piop_any p.deps needs _ _ nm z la ln lc wz (hp.deps.below hz) (hr.below hz) h1 h2
  have hrf : ∀ (k : Int) wz, Below w.heap.size w wz → Calls Tryz.prog 95 #[ivV (.slice da dn dc) nm (.slice na nn nc), .agg #[.int .i64 (-2), .int .i64 k]] wz fun e w' => e = .returned (rfV (lineI needs nm k)) ∧ Below wz.heap.size wz w' := fun k wz hz => by
    rw [hdl, hnl]
    exact piref_any p.deps needs _ _ nm ⟨-2, k⟩ wz (hp.deps.below hz) (hr.below hz) (.inr (.inl rfl))
  have hfin : ∀ B W v, OutO B W v (zs.map (·.1) |>.reverse.foldl (stepI p.deps needs nm) ([], (M : Int))).1 → OReads W v (invI p.deps needs nm 0 p.ops) := fun B W v h => by
    have hf := foldI p.deps needs nm p.ops 0
    rw [Nat.zero_add, ← hM] at hf
    rw [hzm, hf] at h
    exact h.reads (invI_lines _ _ _ _ _)
  have HMADE := Lib.hid hmade
  have HB3 := Lib.hid hb3
  have HZL := Lib.hid hzl
  have HLZ := Lib.hid hlz
  have HZO := Lib.hid hzo
  have HOP := Lib.hid hop
  have HRF := Lib.hid hrf
  have HFIN := Lib.hid hfin
  clear hmade hb3 hzl hlz hzo hop hrf hfin hzs hzm hzx hzk hlx hlv hp hr hok hn hl hon hdn hnn hdl hnl htt hM
  refine (callsIn_wide (n := 6)).1 ?_
  refine callsIn_of_wp_marks Tryz.func52 rfl trivial ?_ rfl
  simp only [Tryz.ntmps52, List.size_toArray, List.length_cons, List.length_nil, Nat.reduceAdd, Nat.reduceSub, Array.replicate_succ, Array.replicate_zero, List.push_toArray, List.append_toArray, List.nil_append, List.cons_append]
  gi_wp2_with fail
  refine ⟨trivial, (callsIn_wide.2 (HMADE.out _ (HB3.out _ _ _))).mono ?_⟩
  rintro e w1 ⟨rfl, hb⟩
  have hfz1 : ∀ q j, q < (((w.alloc (.cells #[.slice da dn dc, .string nm, .slice na nn nc] 95)).alloc (.cells #[.string t, .slice da dn dc, .slice oa n oc] 25)).alloc (.cells #[.slice none 0 0] 23)).heap.size → w1.frozen? ⟨q, j, none⟩ = _ := fun q j hq => hb.frozen (p := ⟨q, j, none⟩) hq
  have hfz := hfz1 (w.heap.size + 1 + 1) 0 (by simp)
  rw [World.frozen?_alloc_at _ _ _ _ (by simp)] at hfz
  obtain ⟨q1, q2, q3, qb, qs⟩ := boxA3 hb
  have y0 := (q1 0).trans rfl
  have y1 := (q1 1).trans rfl
  have y2 := (q1 2).trans rfl
  have y3 := (q2 2).trans rfl
  have y4 : w1.cell? ⟨w.heap.size + 1 + 1, 0, none⟩ = some (.slice none 0 0) := (q3 0).trans rfl
  have QB := Lib.hid qb
  have hal : ∀ o q j v, w1.cell? ⟨q, j, none⟩ = some v → (w1.alloc o).cell? ⟨q, j, none⟩ = some v := fun o q j v hv => (((Below.refl _ w1).alloc (Nat.le_refl _) o).cell (p := ⟨q, j, none⟩) (cell_lt hv)).trans hv
  have y3a := hal (.cells #[.int .i64 (M : Nat)] 3) _ _ _ y3
  have y0a := hal (.cells #[.int .i64 (M : Nat)] 3) _ _ _ y0
  have y1a := hal (.cells #[.int .i64 (M : Nat)] 3) _ _ _ y1
  have y2a := hal (.cells #[.int .i64 (M : Nat)] 3) _ _ _ y2
  have y4a := hal (.cells #[.int .i64 (M : Nat)] 3) _ _ _ y4
  have hfza : (w1.alloc (.cells #[.int .i64 (M : Nat)] 3)).frozen? ⟨w.heap.size + 1 + 1, 0, none⟩ = false := (((Below.refl _ w1).alloc (Nat.le_refl _) _).frozen (p := ⟨w.heap.size + 1 + 1, 0, none⟩) (cell_lt y4)).trans hfz
  have hlt1 := cell_lt y4
  clear hb q1 q2 q3 hfz1 hal qb
  gi_wp2_with fail
  refine ⟨trivial, (callsIn_wide.2 (backward_in _ _ _ _)).mono ?_⟩
  rintro e w2 ⟨rfl, rfl⟩
  gi_wp2_with fail
  obtain ⟨B3, hB3⟩ : ∃ B3, B3 = w1.heap.size := ⟨_, rfl⟩
  have hsz : ((w1.alloc (.cells #[.int .i64 (M : Nat)] 3)).alloc (.cells #[.slice oa n oc] 23)).heap.size = B3 + 2 := by rw [hB3]; simp
  have hal2 : ∀ q j v, (w1.alloc (.cells #[.int .i64 (M : Nat)] 3)).cell? ⟨q, j, none⟩ = some v → ((w1.alloc (.cells #[.int .i64 (M : Nat)] 3)).alloc (.cells #[.slice oa n oc] 23)).cell? ⟨q, j, none⟩ = some v := fun q j v hv => (((Below.refl _ _).alloc (Nat.le_refl _) _).cell (p := ⟨q, j, none⟩) (cell_lt hv)).trans hv
  have hBM : (w1.alloc (.cells #[.int .i64 (M : Nat)] 3)).cell? ⟨B3, 0, none⟩ = some (.int .i64 (M : Nat)) := World.cell?_alloc_at _ _ _ _ hB3
  have hBMz : (w1.alloc (.cells #[.int .i64 (M : Nat)] 3)).frozen? ⟨B3, 0, none⟩ = false := World.frozen?_alloc_at _ _ _ _ hB3
  have hBs : ((w1.alloc (.cells #[.int .i64 (M : Nat)] 3)).alloc (.cells #[.slice oa n oc] 23)).cell? ⟨B3 + 1, 0, none⟩ = some (.slice oa n oc) := World.cell?_alloc_at _ _ _ _ (by rw [hB3]; simp)
  have hfz2 : ∀ q j v, (w1.alloc (.cells #[.int .i64 (M : Nat)] 3)).cell? ⟨q, j, none⟩ = some v → ((w1.alloc (.cells #[.int .i64 (M : Nat)] 3)).alloc (.cells #[.slice oa n oc] 23)).frozen? ⟨q, j, none⟩ = (w1.alloc (.cells #[.int .i64 (M : Nat)] 3)).frozen? ⟨q, j, none⟩ := fun q j v hv => ((Below.refl _ _).alloc (Nat.le_refl _) _).frozen (p := ⟨q, j, none⟩) (cell_lt hv)
  have hBel : Below w.heap.size w ((w1.alloc (.cells #[.int .i64 (M : Nat)] 3)).alloc (.cells #[.slice oa n oc] 23)) := (QB.out.alloc QB.out.size _).alloc (by have := QB.out.size; simp; omega) _
  have hAll : AllC w.heap.size B3 (.slice da dn dc) nm (.slice na nn nc) [] (M : Nat) (B3 + 2) ((w1.alloc (.cells #[.int .i64 (M : Nat)] 3)).alloc (.cells #[.slice oa n oc] 23)) :=
    ⟨⟨hal2 _ _ _ y0a, hal2 _ _ _ y1a, hal2 _ _ _ y2a⟩, ⟨_, hal2 _ _ _ y4a, OutO.nil _ _⟩, (hfz2 _ _ _ y4a).trans hfza, ⟨hal2 _ _ _ hBM, (hfz2 _ _ _ hBM).trans hBMz⟩, by rw [hsz]; exact Nat.le_refl _⟩
  have hlz2 : ∀ (j : Nat) x, zs[j]? = some x → ∃ b o, oa = some ⟨b, o, none⟩ ∧ b < w.heap.size ∧ OpAt ((w1.alloc (.cells #[.int .i64 (M : Nat)] 3)).alloc (.cells #[.slice oa n oc] 23)) b (o + j * 6) x := fun j x hx => by
    obtain ⟨b, o, e, hb, c0, c1, c2, c3, c4, c5⟩ := HLZ.out j x hx
    have k : ∀ i v, w.cell? ⟨b, i, none⟩ = some v → ((w1.alloc (.cells #[.int .i64 (M : Nat)] 3)).alloc (.cells #[.slice oa n oc] 23)).cell? ⟨b, i, none⟩ = some v := fun i v hv => (hBel.cell (p := ⟨b, i, none⟩) hb).trans hv
    exact ⟨b, o, e, hb, k _ _ c0, k _ _ c1, k _ _ c2, k _ _ c3, k _ _ c4, k _ _ c5⟩
  have hlt3 : w.heap.size + 1 + 1 < B3 := by rw [hB3]; exact hlt1
  obtain ⟨W0, hW0⟩ : ∃ W0, (w1.alloc (.cells #[.int .i64 (M : Nat)] 3)).alloc (.cells #[.slice oa n oc] 23) = W0 := ⟨_, rfl⟩
  rw [hW0] at hsz hBs hBel hAll hlz2 ⊢
  rw [← hB3]
  clear hW0 hal2 hfz2 hBM hBMz y0 y1 y2 y3 y4 y0a y1a y2a y3a y4a hfz hfza hlt1 hB3 QB HMADE HB3 qs
  obtain ⟨st, hst⟩ : ∃ st : List (IX zs) → List Opp × Int, st = fun pre => (pre.map fun x => (zs[x.1]'x.2).1).foldl (stepI p.deps needs nm) ([], (M : Int)) := ⟨_, rfl⟩
  have hst0 : st [] = ([], (M : Int)) := by rw [hst]; rfl
  have hsts : ∀ pre x, st (pre ++ [x]) = stepI p.deps needs nm (st pre) (zs[x.1]'x.2).1 := fun pre x => by rw [hst]; simp
  have hstb : ∀ pre : List (IX zs), pre.length ≤ n → (st pre).1.length ≤ 120400 ∧ -120000 ≤ (st pre).2 ∧ (st pre).2 ≤ 300 := fun pre hpl => by
    have h := st_bounds p.deps needs nm (M : Int) (pre.map fun x => (zs[x.1]'x.2).1) (fun z hz => by
      obtain ⟨x, _, rfl⟩ := List.mem_map.1 hz
      exact (HZO.out _ (List.getElem_mem _)).2)
    rw [List.length_map] at h
    rw [hst]
    simp only
    omega
  have hstf : ∀ B W v, OutO B W v (st (ixs zs zs.length)).1 → OReads W v (invI p.deps needs nm 0 p.ops) := fun B W v h => by
    refine HFIN.out B W v ?_
    rw [hst] at h
    simp only [ixs_map] at h
    exact h
  clear hst
  have HSTS := Lib.hid hsts
  have HSTB := Lib.hid hstb
  have HSTF := Lib.hid hstf
  have HST0 := Lib.hid hst0
  clear hsts hstb hstf hst0 HFIN
  refine wpIn_rangeFunc_ownH rfl (by omega) (gf := 124) (lb := #[.pointer (some ⟨B3 + 1, 0, none⟩)]) rfl trivial (enters_of Tryz.func124 (by kernel_rfl) rfl)
    (back_stops Fence.wide _ trivial rfl (by omega) (B3 + 1) w.heap.size oa n oc zs HZL.out.symm (by rw [HZL.out]; omega) W0 hBel.size hBs hlz2) (fun h k => Off.trans h k) (fun W l o o' hl ho _ _ => by
      have hg := grownBy_putObj' W l o'
      exact ⟨hg.os, hg.tape, hg.output, hg.size, fun i hi hz => hg.block i hi (fun e => hz (by injection e with e; have := hBel.size; omega))⟩) (Below.refl _ _) (fun _ => rfl)
    (fun pre W => AllC w.heap.size B3 (.slice da dn dc) nm (.slice na nn nc) (st pre).1 (st pre).2 (B3 + 2) W ∧ Below w.heap.size w W)
    (fun _ _ _ => False)
    (OwnFrom.and (Own.from (fun pre X Y row hs hg hr => hs.kept hg hr) _) (ownFrom_below (Nat.le_refl _) (by have := hBel.size; omega)))
    (fun _ _ _ _ _ hs _ _ => hs)
    (by rw [HST0.out]; exact ⟨hAll, hBel⟩)
    (fun x a' W => ∃ Bx, (W.cell? ⟨Bx, 0, none⟩ = some (.int .i64 (zs[x.1]'x.2).1.kind) ∧ W.cell? ⟨Bx, 1, none⟩ = some (.int .i64 (zs[x.1]'x.2).1.a.at_) ∧ W.cell? ⟨Bx, 2, none⟩ = some (.int .i64 (zs[x.1]'x.2).1.a.n) ∧ W.cell? ⟨Bx, 3, none⟩ = some (.int .i64 (zs[x.1]'x.2).1.b.at_) ∧ W.cell? ⟨Bx, 4, none⟩ = some (.int .i64 (zs[x.1]'x.2).1.b.n) ∧ W.cell? ⟨Bx, 5, none⟩ = some (.slice (zs[x.1]'x.2).2.1 (zs[x.1]'x.2).1.lines.length (zs[x.1]'x.2).2.2)) ∧
      a' = { tmps := #[ivV (.slice da dn dc) nm (.slice na nn nc), ptV t (.slice da dn dc) (.slice oa n oc), .pointer (some ⟨w.heap.size, 0, none⟩), .pointer (some ⟨w.heap.size + 1, 0, none⟩), .slice none 0 0, .pointer (some ⟨w.heap.size + 1 + 1, 0, none⟩), .pointer (some ⟨B3, 0, none⟩), undef, .pointer (some ⟨Bx, 0, none⟩),
        .agg #[.string t, .slice da dn dc, .slice oa n oc], .int .i64 M, .pointer (some ⟨w.heap.size + 1, 0 + 2, none⟩), .slice oa n oc, .func (.func 124) #[] #[.pointer (some ⟨B3 + 1, 0, none⟩)], .int .i64 (x.1 : Nat), ovV (zs[x.1]'x.2),
        undef, undef, undef, undef, undef, undef, undef, undef, undef, undef, undef, undef, undef, undef, undef, undef, undef, undef, undef, undef, undef, undef, undef, undef, undef, undef], defers := [] })
    (fun x a' _ X Y row hs hg hr => by
      obtain ⟨Bx, ⟨c0, c1, c2, c3, c4, c5⟩, h3⟩ := hs
      have hr' : ∀ r, row = some r → ∃ o : Obj, X.heap[r]? = some o ∧ o.isCells = false := fun r e => (hr r e).2
      exact ⟨Bx, ⟨cell_kept c0 hg hr', cell_kept c1 hg hr', cell_kept c2 hg hr', cell_kept c3 hg hr', cell_kept c4 hg hr', cell_kept c5 hg hr'⟩, h3⟩)
    ?assign ?body ?done ?stop
  case assign =>
    rintro l pre x W K ⟨hA1, hB1⟩ hK
    have HK := Lib.hid hK
    have HA1 := Lib.hid hA1
    have HB1 := Lib.hid hB1
    clear hK hA1 hB1
    gi_wp2_with fail
    refine HK.out _ _ ((KeepsOthers.alloc _ _).from _) ((Off.refl _ W).alloc _) ⟨HA1.out.below ((Below.refl _ W).alloc (Nat.le_refl _) _), HB1.out.alloc HB1.out.size _⟩ ⟨W.heap.size, ⟨?_, ?_, ?_, ?_, ?_, ?_⟩, rfl⟩
    all_goals exact World.cell?_alloc_at _ _ _ _ rfl
  case body =>
    rintro l pre x a' W hl ⟨r, hlr⟩ ⟨hA1, hB1⟩ ⟨Bx, ⟨c0, c1, c2, c3, c4, c5⟩, rfl⟩ hplt
    obtain ⟨⟨z, la, lc⟩, hzz⟩ : ∃ z, z = zs[x.1]'x.2 := ⟨_, rfl⟩
    rw [← hzz] at c0 c1 c2 c3 c4 c5 ⊢
    simp only at c0 c1 c2 c3 c4 c5
    have hmx : Tryz.prog.follows .mixedOrders = true := by kernel_rfl
    have hzo := HZO.out _ (List.getElem_mem x.2)
    rw [← hzz] at hzo
    obtain ⟨⟨a0, a1, a2⟩, ⟨v, hv, ho⟩, hf, ⟨hm, hmf⟩, hBz⟩ := hA1
    obtain ⟨va, vc, hvv, _, _⟩ := ho.row.form'
    subst hvv
    have hstx := HSTS.out pre x
    rw [← hzz] at hstx
    have HO := Lib.hid ho
    have HBW := Lib.hid hB1
    have HZZ := Lib.hid hzo
    have HSX := Lib.hid hstx
    obtain ⟨⟨os, mm⟩, hos⟩ : ∃ q, q = st pre := ⟨_, rfl⟩
    rw [← hos] at HO HSX hv hm ho
    simp only at HO HSX hv hm ho
    have hbnd := HSTB.out pre (by rw [← HZL.out]; omega)
    rw [← hos] at hbnd
    have HBND := Lib.hid hbnd
    clear hbnd
    obtain ⟨ol, hol⟩ : ∃ ol, ol = os.length := ⟨_, rfl⟩
    rw [← hol] at hv ho
    have HO := Lib.hid ho
    obtain ⟨zl, hzll⟩ : ∃ zl, zl = z.lines.length := ⟨_, rfl⟩
    rw [← hzll] at c5
    have HOL := Lib.hid hol
    have HZLL := Lib.hid hzll
    have HZZ2 := Lib.hid hzz
    clear ho hB1 hzo hstx hos hol hzll hzz
    by_cases k1 : z.kind = 1
    · have n1 := eqI k1
      have hfin : st (pre ++ [x]) = (os ++ (List.range zl).map (fun j => delI needs nm (mm - 1 - (j : Nat))), mm - zl) := by rw [HSX.out, HZLL.out]; unfold stepI; rw [if_pos k1]
      have hzl3 : zl ≤ 300 := by rw [HZLL.out]; exact HZZ.out.2
      have hA0 : AllC w.heap.size B3 (.slice da dn dc) nm (.slice na nn nc) os mm (B3 + 2) W := ⟨⟨a0, a1, a2⟩, ⟨_, hv, HO.out⟩, hf, ⟨hm, hmf⟩, hBz⟩
      have HF := Lib.hid hfin
      have HA0 := Lib.hid hA0
      clear hfin hA0
      gi_wp2_with fail
      gi_loopw [28] (fun i wr => ∃ (j : Nat) (u : Int) (os' : List Opp), j ≤ zl ∧ i = .int .i64 (j : Nat) ∧ (-120400 ≤ u ∧ u ≤ 300) ∧ Hid (u = mm - (j : Nat)) ∧ Hid (os' = os ++ (List.range j).map (fun i => delI needs nm (mm - 1 - (i : Nat)))) ∧ Hid (AllC w.heap.size B3 (.slice da dn dc) nm (.slice na nn nc) os' u (B3 + 2) wr) ∧
        Hid (Off (fun i => w.heap.size ≤ i ∧ i ≠ B3 + 1) W wr) ∧ Hid (KeepsOthers W wr) ∧ Hid (Below w.heap.size w wr)) (fun i _ => zl - (intOf i).toNat)
      case atStart => exact ⟨0, mm, os, Nat.zero_le _, rfl, ⟨by have := HBND.out.2; omega, by have := HBND.out.2; omega⟩, Lib.hid (by simp), Lib.hid (by simp), HA0, Lib.hid (Off.refl _ _), Lib.hid (KeepsOthers.refl _), HBW⟩
      case round =>
        obtain ⟨j, u, os', hj, rfl, ⟨hu1, hu2⟩, HU, HOS, HAW, HOW, HKW, HBWr⟩ := hrel
        by_cases hjl : j < zl
        · have hAW := HAW.out
          obtain ⟨⟨b0, b1, b2⟩, ⟨v', hv', ho'⟩, hf', ⟨hm', hmf'⟩, hBz'⟩ := hAW
          have hA9 := HAW.out.setMade hlt3 (by omega) (u - 1)
          clear ho' b0 b1 b2 hv' hf' hBz'
          gi_wp2_with fail
          have hO3 : Off (fun i => w.heap.size ≤ i ∧ i ≠ B3 + 1) W (wr.setCell ⟨B3, 0, none⟩ (.int .i64 (u - 1))) := Off.setCell (Z := fun i => w.heap.size ≤ i ∧ i ≠ B3 + 1) HOW.out (p := ⟨B3, 0, none⟩) (.inr (by show w.heap.size ≤ B3 ∧ B3 ≠ B3 + 1; omega)) _
          have hK3 : KeepsOthers W (wr.setCell ⟨B3, 0, none⟩ (.int .i64 (u - 1))) := HKW.out.trans (KeepsOthers.setCell _ _ _)
          have hB3w : Below w.heap.size w (wr.setCell ⟨B3, 0, none⟩ (.int .i64 (u - 1))) := HBW.out.trans (hO3.below (fun i hi => hi.1) HBW.out.size)
          obtain ⟨W3, hW3⟩ : ∃ W3, wr.setCell ⟨B3, 0, none⟩ (.int .i64 (u - 1)) = W3 := ⟨_, rfl⟩
          rw [hW3] at hA9 hO3 hK3 hB3w ⊢
          clear hW3
          have HA9 := Lib.hid hA9
          obtain ⟨⟨b0, b1, b2⟩, ⟨v', hv', ho'⟩, hf', ⟨hm', hmf'⟩, hBz'⟩ := hA9
          obtain ⟨va', vc', hvv', _, _⟩ := ho'.row.form'
          subst hvv'
          have hol' : os'.length ≤ 120700 := by have e := HBND.out.1; rw [HOS.out, List.length_append, List.length_map, List.length_range]; omega
          obtain ⟨ol', hol2⟩ : ∃ ol', ol' = os'.length := ⟨_, rfl⟩
          rw [← hol2] at hv' hol'
          have hcall : Calls Tryz.prog 95 #[ivV (.slice da dn dc) nm (.slice na nn nc), .agg #[.int .i64 (-2), .int .i64 (u - 1)]] W3.drew fun e w' => e = .returned (rfV (lineI needs nm (u - 1))) ∧ Below W3.drew.heap.size W3.drew w' := HRF.out (u - 1) _ hB3w.drew
          have HCALL := Lib.hid hcall
          have hpush := fun w2 (hb2 : Below W3.drew.heap.size W3.drew w2) => all_push (w := w) (delI needs nm (u - 1)) HA9.out hv' hol2 (by omega) rfl hlt3 rfl hB3w hb2
          have HPUSH := Lib.hid hpush
          have HO3 := Lib.hid hO3
          have HK3 := Lib.hid hK3
          have HB3w := Lib.hid hB3w
          have HOL2 := Lib.hid hol2
          have hfn : j < zl → u = mm - (j : Nat) → -120400 ≤ u - 1 := fun h1 h2 => by have e := HBND.out.2.1; omega
          have HFN := Lib.hid hfn
          clear hfn hcall hpush ho' hol2 hO3 hK3 hB3w HA9 HAW HOW HKW HBWr
          unfold delI at HPUSH
          obtain ⟨⟨x1, y1⟩, hxy⟩ : ∃ q, q = lineI needs nm (u - 1) := ⟨_, rfl⟩
          rw [← hxy] at HPUSH HCALL
          simp only at HPUSH
          have HXY := Lib.hid hxy
          clear hxy
          gi_region_with_o (first
            | (refine ⟨trivial, ?_⟩; gi_at_call 95; refine (CallsIn.inRound l (callsIn_wide.2 HCALL.out)).mono ?_; rintro e w2 ⟨rfl, hb2⟩; obtain ⟨hv2, hv2a, a6, c6, w6, hr6, hc6, hf6, hq1, hq2, hq3, hq4⟩ := HPUSH.out w2 hb2; have HR6 := Lib.hid hr6; have HQ1 := Lib.hid hq1; have HQ2 := Lib.hid hq2; have HQ3 := Lib.hid hq3; have HQ4 := Lib.hid hq4; clear hr6 hq1 hq2 hq3 hq4)
            | rw [HR6.out])
          all_goals gi_wp2_with fail
          all_goals exact ⟨⟨j + 1, u - 1, os' ++ [⟨4, ⟨x1, y1⟩, ⟨0, 0⟩, []⟩], by omega, rfl, ⟨HFN.out hjl HU.out, by omega⟩, Lib.hid (by rw [HU.out]; simp only [Int.natCast_add, Int.natCast_one]; omega), Lib.hid (by
              have e : delI needs nm (mm - 1 - (j : Nat)) = ⟨4, ⟨x1, y1⟩, ⟨0, 0⟩, []⟩ := by unfold delI; rw [HXY.out, HU.out, show mm - 1 - (j : Int) = mm - (j : Int) - 1 by omega]
              rw [List.range_succ, List.map_append, ← List.append_assoc, ← HOS.out, List.map_cons, List.map_nil, e]), Lib.hid HQ1.out, Lib.hid (HO3.out.trans HQ2.out), Lib.hid (HK3.out.trans HQ3.out), Lib.hid HQ4.out⟩, by simp only [intOf]; omega⟩
        · obtain rfl : j = zl := by omega
          gi_wp2_with fail
          exact ⟨HKW.out.from _, HOW.out, by have e := HF.out; rw [← HOS.out, ← HU.out] at e; simp only [e]; exact ⟨HAW.out, HBWr.out⟩⟩
    · have n1 := neI k1
      gi_wp2_with fail
      have hzp := HZZ.out.1 k1
      have HZP := Lib.hid hzp
      clear hzp
      have hcall : Calls Tryz.prog 94 #[ivV (.slice da dn dc) nm (.slice na nn nc), opV z (.slice la zl lc)] W.drew fun e w' => e = .returned (opV (opI p.deps needs nm z) (.slice none 0 0)) ∧ Below W.drew.heap.size W.drew w' := HOP.out z la zl lc _ HBW.out.drew HZP.out.1 HZP.out.2
      have HCALL := Lib.hid hcall
      obtain ⟨y, hy⟩ : ∃ y, y = opI p.deps needs nm z := ⟨_, rfl⟩
      rw [← hy] at HCALL
      have hpush := fun w2 (hb2 : Below W.drew.heap.size W.drew w2) => all_push (w := w) y (⟨⟨a0, a1, a2⟩, ⟨_, hv, HO.out⟩, hf, ⟨hm, hmf⟩, hBz⟩ : AllC w.heap.size B3 (.slice da dn dc) nm (.slice na nn nc) os mm (B3 + 2) W) hv HOL.out (by have := HBND.out.1; omega) rfl hlt3 rfl HBW.out hb2
      have HPUSH := Lib.hid hpush
      have hfin : st (pre ++ [x]) = (os ++ [y], mm) := by rw [HSX.out, hy]; unfold stepI; rw [if_neg k1]
      have HF := Lib.hid hfin
      clear hcall hpush hy hfin
      obtain ⟨K1, ⟨x1, y1⟩, ⟨x2, y2⟩, ls1⟩ := y
      simp only at HPUSH
      gi_region_with_o (first
        | (refine ⟨trivial, ?_⟩; gi_at_call 94; refine (CallsIn.inRound l (callsIn_wide.2 HCALL.out)).mono ?_; rintro e w2 ⟨rfl, hb2⟩; obtain ⟨hv2, hv2a, a6, c6, w6, hr6, hc6, hf6, hq1, hq2, hq3, hq4⟩ := HPUSH.out w2 hb2; have HR6 := Lib.hid hr6; have HQ1 := Lib.hid hq1; have HQ2 := Lib.hid hq2; have HQ3 := Lib.hid hq3; have HQ4 := Lib.hid hq4; clear hr6 hq1 hq2 hq3 hq4)
        | rw [HR6.out])
      all_goals gi_wp2_with fail
      all_goals exact ⟨HQ3.out.from _, HQ2.out, by simp only [HF.out]; exact ⟨HQ1.out, HQ4.out⟩⟩
  case done =>
    rintro D ys W hD rfl ⟨⟨⟨a0, a1, a2⟩, ⟨v, hv, ho⟩, hf, ⟨hm, hmf⟩, hBz⟩, hB⟩ hK
    have hg := grownBy_putObj' W D (.deferred none)
    have HRD := Lib.hid (HSTF.out _ (W.putObj D (.deferred none)) v (ho.kept hg (fun r e => by injection e with e; subst e; exact ⟨_, hK, rfl⟩)))
    have hOD : Off (fun i => i = D) W (W.putObj D (.deferred none)) := ⟨hg.os, hg.tape, hg.output, hg.size, fun i hi hz => hg.block i hi (fun e => hz (by injection e))⟩
    have HOW := Lib.hid (show ∀ g, v.ownBlock = some g → w.heap.size < g from fun g hg => by have := (ho.row.lt g hg).1; omega)
    have HBD := Lib.hid (hB.trans (hOD.below (fun i hi => by have := hBel.size; omega) hB.size))
    obtain ⟨va, vc, hvv, _, _⟩ := ho.row.form'
    subst hvv
    clear ho hB a0 a1 a2 hm hmf hf hg hOD
    gi_wp2_with fail
    refine ⟨by simp, .inl ⟨_, _, rfl, run_takeDeferred hK, ?_⟩⟩
    refine ⟨_, results_tmp rfl _ _ _, ⟨_, rfl, ?_⟩, HBD.out⟩
    exact ⟨HRD.out, HOW.out⟩
  case stop =>
    rintro D c pre W _ _ h _
    exact h.elim
end Go.Proofs.YtgjcblginkdinaaGreatDoor
