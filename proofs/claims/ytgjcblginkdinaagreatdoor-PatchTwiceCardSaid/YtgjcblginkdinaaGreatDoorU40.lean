/- The contract of Inverse. -/
import Derived.Test.YtgjcblginkdinaaGreatDoorU32
import Derived.Test.YtgjcblginkdinaaGreatDoorU39
set_option linter.unusedVariables false
namespace Go.Proofs.YtgjcblginkdinaaGreatDoor
open Go.ChangeShapes Go.WideShapes Go.ChangeAt Go.RowKit Go.Shelf

theorem refB_okR {n m : Nat} {r : Rf} (h : refB n m r = true) : r.okR n := by
  unfold refB at h
  split at h
  · exact .inl ‹_›
  · split at h
    · exact .inr (.inl ‹_›)
    · simp only [Bool.and_eq_true, decide_eq_true_eq] at h
      exact .inr (.inr ⟨h.1.1.1, h.1.1.2⟩)
theorem betwB_refs {n m : Nat} {a b : Rf} (h : betwB n m a b = true) : a.okR n ∧ b.okR n := by
  unfold betwB at h
  simp only [Bool.and_eq_true] at h
  exact ⟨refB_okR h.1.1.1.1, refB_okR h.1.1.1.2⟩
theorem opR_refs {n m : Nat} {o : Opp} (h : opR n m o = true) : (∀ r ∈ namedR o, r.okR n) ∧ (o.kind ≠ 1 → o.a.okR n ∧ (o.kind = 2 ∨ o.kind = 3 → o.b.okR n)) := by
  unfold opR at h
  by_cases k1 : o.kind = 1
  · refine ⟨fun r hr => ?_, fun e => absurd k1 e⟩
    unfold namedR at hr
    rw [if_neg (by omega), if_neg (by omega)] at hr
    cases hr
  · rw [if_neg k1] at h
    by_cases k2 : o.kind = 2 ∨ o.kind = 3
    · rw [if_pos k2] at h
      simp only [Bool.and_eq_true] at h
      have hb := betwB_refs h.2
      refine ⟨fun r hr => ?_, fun _ => ⟨hb.1, fun _ => hb.2⟩⟩
      unfold namedR at hr
      rw [if_pos k2] at hr
      rcases List.mem_cons.1 hr with rfl | hr
      · exact hb.1
      · rw [List.mem_singleton] at hr; subst hr; exact hb.2
    · rw [if_neg k2] at h
      by_cases k4 : o.kind = 4 ∨ o.kind = 5
      · rw [if_pos k4] at h
        simp only [Bool.and_eq_true] at h
        have hb := refB_okR h.2
        refine ⟨fun r hr => ?_, fun _ => ⟨hb, fun e => absurd e k2⟩⟩
        unfold namedR at hr
        rw [if_neg k2, if_pos k4, List.mem_singleton] at hr
        subst hr; exact hb
      · rw [if_neg k4] at h; cases h
theorem opsB_mem {n : Nat} : ∀ (l : List Opp) (m : Nat), opsB n m l = true → ∀ o ∈ l, ∃ m', opR n m' o = true
  | [], _, _, o, h => by cases h
  | x :: r, m, h, o, ho => by
    simp only [opsB, opB, Bool.and_eq_true] at h
    rcases List.mem_cons.1 ho with rfl | ho
    · exact ⟨m, h.1.1⟩
    · exact opsB_mem r _ h.2 o ho
theorem sound_ops {p : Pt} (h : soundB p = true) : opsB p.deps.length 0 p.ops = true := by
  unfold soundB at h
  simp only [Bool.and_eq_true] at h
  exact h.2
theorem right_sound {p : Pt} (h : rightP p = true) : soundB p = true := by unfold rightP at h; simp only [Bool.and_eq_true] at h; exact h.1
theorem right_refs {p : Pt} (h : rightP p = true) : ∀ o ∈ p.ops, (∀ r ∈ namedR o, r.okR p.deps.length) ∧ (o.kind ≠ 1 → o.a.okR p.deps.length ∧ (o.kind = 2 ∨ o.kind = 3 → o.b.okR p.deps.length)) := fun o ho => by
  obtain ⟨m, hm⟩ := opsB_mem _ _ (sound_ops (right_sound h)) o ho
  exact opR_refs hm

abbrev undoB : ByteArray := ⟨#[117, 110, 100, 111]⟩
noncomputable def invP (p : Pt) : Pt := ⟨undoB, needsL p (tx (nameP p)), invI p.deps (needsL p (tx (nameP p))) (tx (nameP p)) 0 p.ops⟩

theorem lineI_wf {needs : Lb} (h : needs.length ≤ 1000000) (x : ByteArray) {n : Int} (hn : wfI n) : (lineI needs x n).wf := by
  have := idx_bounds needs x
  refine ⟨⟨?_, ?_⟩, hn⟩
  · show -9223372036854775808 ≤ Lib.idxOfS needs x; omega
  · show Lib.idxOfS needs x ≤ 9223372036854775807; omega
theorem refI_wf {deps needs : Lb} (h : needs.length ≤ 1000000) (nm : ByteArray) {r : Rf} (hr : r.wf) : (refI deps needs nm r).wf := by
  unfold refI
  split
  · exact hr
  · split
    · exact lineI_wf h _ hr.2
    · exact lineI_wf h _ hr.2
theorem wfI_small {n : Int} (h : -1000000000 ≤ n) (k : n ≤ 1000000000) : wfI n := ⟨by omega, by omega⟩
theorem zero_wf : (⟨0, 0⟩ : Rf).wf := ⟨wfI_small (by decide) (by decide), wfI_small (by decide) (by decide)⟩
theorem invI_wf {deps needs : Lb} (h : needs.length ≤ 1000000) (nm : ByteArray) : ∀ (l : List Opp) (m : Nat), (∀ z ∈ l, z.wf) → m + madeN l ≤ 1000000 → ∀ o ∈ invI deps needs nm m l, o.wf
  | [], m, _, _, o, ho => by simp [invI] at ho
  | z :: r, m, hz, hm, o, ho => by
    simp only [madeN] at hm
    simp only [invI, List.mem_append] at ho
    rcases ho with ho | ho
    · exact invI_wf h nm r _ (fun y hy => hz y (by simp [hy])) (by omega) o ho
    · have hzz := hz z (by simp)
      unfold oneI at ho
      split at ho
      · rename_i k
        rw [if_pos k] at hm
        obtain ⟨j, hj, rfl⟩ := List.mem_map.1 ho
        have := List.mem_range.1 hj
        refine ⟨wfI_small (by simp [delI]) (by simp [delI]), lineI_wf h _ (wfI_small (by omega) (by omega)), zero_wf⟩
      · rw [List.mem_singleton] at ho
        subst ho
        have ha := refI_wf (deps := deps) h nm hzz.2.1
        have hb := refI_wf (deps := deps) h nm hzz.2.2
        unfold opI
        split
        · exact ⟨wfI_small (by simp) (by simp), ha, hb⟩
        · split
          · exact ⟨wfI_small (by simp) (by simp), ha, hb⟩
          · split <;> exact ⟨wfI_small (by simp) (by simp), ha, zero_wf⟩
theorem right_small {p : Pt} (h : rightP p = true) : p.ops.length ≤ 400 ∧ p.deps.length ≤ 64 ∧ linesN p.ops ≤ 300 := by
  obtain ⟨_, h1, h2, h3⟩ := sound_parts (right_sound h)
  exact ⟨h1, h2, h3⟩
theorem nameP_size (p : Pt) : (tx (nameP p)).size ≤ 64 := by
  rw [ba_tx]
  unfold nameP
  split
  · unfold nameL
    rw [hexL_len, sumL_len]
    decide
  · simp
theorem inv_fine {p : Pt} (hf : p.fine) (h : rightP p = true) : (invP p).fine := by
  obtain ⟨h1, h2, h3⟩ := right_small h
  have hl := needs_len p (tx (nameP p))
  have hm := madeN_le p.ops
  refine ⟨invI_wf (by omega) _ _ _ hf.wf (by omega), (by decide : undoB.size ≤ 140737488355328), fun x hx => ?_, fun o ho x hx => ?_⟩
  · have hx := (needs_spec p (tx (nameP p))).2 x |>.1 hx
    rcases need_mem p _ x hx with rfl | rfl | hd
    · have := nameP_size p; omega
    · decide
    · exact hf.deps x hd
  · rw [invI_lines _ _ _ _ _ o ho] at hx
    cases hx

theorem frozen2 {w wz : World} {x1 x2 : Array Value} {t1 t2 : TypeId} (h : Below ((w.alloc (.cells x1 t1)).alloc (.cells x2 t2)).heap.size ((w.alloc (.cells x1 t1)).alloc (.cells x2 t2)) wz) (j : Nat) :
    wz.frozen? ⟨w.heap.size + 1, j, none⟩ = false :=
  (h.frozen (p := ⟨w.heap.size + 1, j, none⟩) (by simp)).trans (World.frozen?_alloc_at _ _ _ _ (by simp))

abbrev noPt : Value := ptV ByteArray.empty (.slice none 0 0) (.slice none 0 0)
def InvPost (p : Pt) (w : World) (e : Ending) (w' : World) : Prop :=
  ((rightP p = false ∧ e = .returned (.tuple #[noPt, errV 10])) ∨ (rightP p = true ∧ rightP (invP p) = false ∧ e = .returned (.tuple #[noPt, errV 2])) ∨
    (rightP p = true ∧ rightP (invP p) = true ∧ ∃ dv ov, e = .returned (.tuple #[ptV undoB dv ov, .nilIface]) ∧ PReads w' undoB dv ov (invP p))) ∧ Below w.heap.size w w'

theorem Reads.offZ {Z : Nat → Prop} {w w' : World} {v : Value} {xs : Lb} (h : Reads w v xs) (ho : Off Z w w') (hz : ∀ g, v.ownBlock = some g → ¬ Z g) : Reads w' v xs := by
  rcases h with h | ⟨hn, b, o, c, rfl, hc, hm, hb, hx⟩
  · exact .inl h
  · exact .inr ⟨hn, b, o, c, rfl, hc, hm, Nat.lt_of_lt_of_le hb ho.size, fun j x hx' => (ho.cell (p := ⟨b, o + j, none⟩) hb (hz b rfl)).trans (hx j x hx')⟩
theorem Off.set3 (w : World) (b : Nat) (u0 u1 u2 : Value) : Off (fun i => i = b) w (((w.setCell ⟨b, 0, none⟩ u0).setCell ⟨b, 1, none⟩ u1).setCell ⟨b, 2, none⟩ u2) :=
  (((Off.refl (fun i => i = b) w).setCell (p := ⟨b, 0, none⟩) (.inr rfl) _).setCell (p := ⟨b, 1, none⟩) (.inr rfl) _).setCell (p := ⟨b, 2, none⟩) (.inr rfl) _
structure InvW (w : World) (v0 v1 v2 : Value) (W : World) : Prop where
  p : (W.cell? ⟨w.heap.size, 0, none⟩ = some v0 ∧ W.cell? ⟨w.heap.size, 1, none⟩ = some v1 ∧ W.cell? ⟨w.heap.size, 2, none⟩ = some v2)
  r : (W.cell? ⟨w.heap.size + 1, 0, none⟩ = some (.string ⟨#[]⟩) ∧ W.cell? ⟨w.heap.size + 1, 1, none⟩ = some (.slice none 0 0) ∧ W.cell? ⟨w.heap.size + 1, 2, none⟩ = some (.slice none 0 0))
  f : ∀ j, W.frozen? ⟨w.heap.size + 1, j, none⟩ = false
  b : Below w.heap.size w W
theorem InvW.below {w W W2 : World} {v0 v1 v2 : Value} (h : InvW w v0 v1 v2 W) (hb : Below W.heap.size W W2) : InvW w v0 v1 v2 W2 := by
  have c : ∀ q j u, W.cell? ⟨q, j, none⟩ = some u → W2.cell? ⟨q, j, none⟩ = some u := fun q j u hu => (hb.cell (p := ⟨q, j, none⟩) (cell_lt hu)).trans hu
  exact ⟨⟨c _ _ _ h.p.1, c _ _ _ h.p.2.1, c _ _ _ h.p.2.2⟩, ⟨c _ _ _ h.r.1, c _ _ _ h.r.2.1, c _ _ _ h.r.2.2⟩, fun j => (hb.frozen (p := ⟨w.heap.size + 1, j, none⟩) (cell_lt h.r.1)).trans (h.f j), h.b.trans (hb.mono h.b.size)⟩
theorem InvW.set {w W : World} {v0 v1 v2 : Value} (h : InvW w v0 v1 v2 W) {b : Nat} (hb : w.heap.size + 1 < b) (o : Nat) (u : Value) : InvW w v0 v1 v2 (W.setCell ⟨b, o, none⟩ u) := by
  have c : ∀ q j u', q < b → W.cell? ⟨q, j, none⟩ = some u' → (W.setCell ⟨b, o, none⟩ u).cell? ⟨q, j, none⟩ = some u' := fun q j u' hq hu => by
    rw [World.cell?_setCell_other _ _ _ _ (by intro e; injection e with e; omega)]; exact hu
  exact ⟨⟨c _ _ _ (by omega) h.p.1, c _ _ _ (by omega) h.p.2.1, c _ _ _ (by omega) h.p.2.2⟩, ⟨c _ _ _ (by omega) h.r.1, c _ _ _ (by omega) h.r.2.1, c _ _ _ (by omega) h.r.2.2⟩, fun j => by rw [World.frozen?_setCell]; exact h.f j, h.b.setCell (p := ⟨b, o, none⟩) (by show w.heap.size ≤ b; omega) _⟩
theorem InvW.set3 {w W : World} {v0 v1 v2 : Value} (h : InvW w v0 v1 v2 W) {b : Nat} (hb : w.heap.size + 1 < b) (u0 u1 u2 : Value) : InvW w v0 v1 v2 (((W.setCell ⟨b, 0, none⟩ u0).setCell ⟨b, 1, none⟩ u1).setCell ⟨b, 2, none⟩ u2) := ((h.set hb 0 u0).set hb 1 u1).set hb 2 u2


theorem OReads.offZ {Z : Nat → Prop} {w w' : World} {v : Value} {xs : List Opp} (h : OReads w v xs) (hl : ∀ o ∈ xs, o.lines = []) (ho : Off Z w w') (hz : ∀ g, v.ownBlock = some g → ¬ Z g) : OReads w' v xs := by
  rcases h with h | ⟨hn, b, o, c, rfl, hc, hm, hb, hx⟩
  · exact .inl h
  · refine .inr ⟨hn, b, o, c, rfl, hc, hm, Nat.lt_of_lt_of_le hb ho.size, fun j x hx' => ?_⟩
    obtain ⟨lv, h0, h1, h2, h3, h4, h5, h6⟩ := hx j x hx'
    have k : ∀ i, w'.cell? ⟨b, i, none⟩ = w.cell? ⟨b, i, none⟩ := fun i => ho.cell (p := ⟨b, i, none⟩) hb (hz b rfl)
    refine ⟨lv, (k _).trans h0, (k _).trans h1, (k _).trans h2, (k _).trans h3, (k _).trans h4, (k _).trans h5, ?_⟩
    rw [hl x (List.mem_of_getElem? hx')] at h6 ⊢
    rcases h6 with h6 | h6
    · exact .inl h6
    · exact absurd rfl h6.1
def InvR2 (w : World) (v0 v1 v2 : Value) (qd : Lb) (qo : List Opp) (x : Value) (W : World) : Prop := ∃ bx na nn nc oa on oc, x = .pointer (some ⟨bx, 0, none⟩) ∧ w.heap.size + 1 < bx ∧ (W.cell? ⟨bx, 0, none⟩ = some (.string undoB) ∧ W.cell? ⟨bx, 1, none⟩ = some (.slice na nn nc) ∧ W.cell? ⟨bx, 2, none⟩ = some (.slice oa on oc)) ∧
  (Reads W (.slice na nn nc) qd ∧ OReads W (.slice oa on oc) qo) ∧ ((∀ g, (Value.slice na nn nc).ownBlock = some g → w.heap.size + 1 < g) ∧ ∀ g, (Value.slice oa on oc).ownBlock = some g → w.heap.size + 1 < g) ∧ InvW w v0 v1 v2 W
theorem invR2_alloc {w W : World} {v0 v1 v2 : Value} {qd : Lb} {qo : List Opp} {na oa : Option Addr} {nn nc on oc : Nat} {t : TypeId} (h : InvW w v0 v1 v2 W) (hr : Reads W (.slice na nn nc) qd) (hq : OReads W (.slice oa on oc) qo) (hg : ∀ g, (Value.slice na nn nc).ownBlock = some g → w.heap.size + 1 < g) (hg2 : ∀ g, (Value.slice oa on oc).ownBlock = some g → w.heap.size + 1 < g) (hl : w.heap.size + 1 < W.heap.size) :
    InvR2 w v0 v1 v2 qd qo (.pointer (some ⟨W.heap.size, 0, none⟩)) (W.alloc (.cells #[.string undoB, .slice na nn nc, .slice oa on oc] t)) :=
  ⟨_, _, _, _, _, _, _, rfl, hl, ⟨World.cell?_alloc_at _ _ _ _ rfl, World.cell?_alloc_at _ _ _ _ rfl, World.cell?_alloc_at _ _ _ _ rfl⟩, ⟨hr.below ((Below.refl _ _).alloc (Nat.le_refl _) _), hq.below ((Below.refl _ _).alloc (Nat.le_refl _) _)⟩, ⟨hg, hg2⟩, h.below ((Below.refl _ _).alloc (Nat.le_refl _) _)⟩
theorem invR2_set {w W : World} {v0 v1 v2 x0 x1 x2 : Value} {qd : Lb} {qo : List Opp} {na oa : Option Addr} {nn nc on oc b : Nat} (n0 : W.cell? ⟨b, 0, none⟩ = some x0) (n1 : W.cell? ⟨b, 1, none⟩ = some x1) (n2 : W.cell? ⟨b, 2, none⟩ = some x2) (h : InvW w v0 v1 v2 W) (hr : Reads W (.slice na nn nc) qd) (hq : OReads W (.slice oa on oc) qo) (hql : ∀ o ∈ qo, o.lines = [])
    (ho : ∀ g, (Value.slice na nn nc).ownBlock = some g → g ≠ b) (ho2 : ∀ g, (Value.slice oa on oc).ownBlock = some g → g ≠ b) (hg : ∀ g, (Value.slice na nn nc).ownBlock = some g → w.heap.size + 1 < g) (hg2 : ∀ g, (Value.slice oa on oc).ownBlock = some g → w.heap.size + 1 < g) (hl : w.heap.size + 1 < b) :
    InvR2 w v0 v1 v2 qd qo (.pointer (some ⟨b, 0, none⟩)) (((W.setCell ⟨b, 0, none⟩ (.string undoB)).setCell ⟨b, 1, none⟩ (.slice na nn nc)).setCell ⟨b, 2, none⟩ (.slice oa on oc)) :=
  ⟨_, _, _, _, _, _, _, rfl, hl, end3 (of_cellAt n0) (of_cellAt n1) (of_cellAt n2) _ _ _, ⟨hr.offZ (Off.set3 _ _ _ _ _) ho, hq.offZ hql (Off.set3 _ _ _ _ _) ho2⟩, ⟨hg, hg2⟩, h.set3 hl _ _ _⟩
theorem reads_lt {w : World} {v : Value} {xs : Lb} (h : Reads w v xs) (hn : xs ≠ []) : ∀ g, v.ownBlock = some g → g < w.heap.size := by
  rcases h with ⟨h, _⟩ | ⟨_, b, o, c, rfl, _, _, hb, _⟩
  · exact absurd h hn
  · intro g hg
    have : b = g := Option.some.inj hg
    omega

def InvR (w : World) (v0 v1 v2 u0 u1 : Value) (qd : Lb) (x : Value) (W : World) : Prop := ∃ bx na nn nc, x = .pointer (some ⟨bx, 0, none⟩) ∧ w.heap.size + 1 < bx ∧ (W.cell? ⟨bx, 0, none⟩ = some u0 ∧ W.cell? ⟨bx, 1, none⟩ = some u1 ∧ W.cell? ⟨bx, 2, none⟩ = some (.slice na nn nc)) ∧ Reads W (.slice na nn nc) qd ∧ (∀ g, (Value.slice na nn nc).ownBlock = some g → w.heap.size + 1 < g) ∧ InvW w v0 v1 v2 W
theorem invR_alloc {w W : World} {v0 v1 v2 u0 u1 : Value} {qd : Lb} {na : Option Addr} {nn nc : Nat} {t : TypeId} (h : InvW w v0 v1 v2 W) (hr : Reads W (.slice na nn nc) qd) (hg : ∀ g, (Value.slice na nn nc).ownBlock = some g → w.heap.size + 1 < g) (hl : w.heap.size + 1 < W.heap.size) : InvR w v0 v1 v2 u0 u1 qd (.pointer (some ⟨W.heap.size, 0, none⟩)) (W.alloc (.cells #[u0, u1, .slice na nn nc] t)) :=
  ⟨_, _, _, _, rfl, hl, ⟨World.cell?_alloc_at _ _ _ _ rfl, World.cell?_alloc_at _ _ _ _ rfl, World.cell?_alloc_at _ _ _ _ rfl⟩, hr.below ((Below.refl _ _).alloc (Nat.le_refl _) _), hg, h.below ((Below.refl _ _).alloc (Nat.le_refl _) _)⟩
theorem invR_set {w W : World} {v0 v1 v2 u0 u1 x0 x1 x2 : Value} {qd : Lb} {na : Option Addr} {nn nc b : Nat} (n0 : W.cell? ⟨b, 0, none⟩ = some x0) (n1 : W.cell? ⟨b, 1, none⟩ = some x1) (n2 : W.cell? ⟨b, 2, none⟩ = some x2) (h : InvW w v0 v1 v2 W) (hr : Reads W (.slice na nn nc) qd) (ho : ∀ g, (Value.slice na nn nc).ownBlock = some g → g ≠ b) (hg : ∀ g, (Value.slice na nn nc).ownBlock = some g → w.heap.size + 1 < g) (hl : w.heap.size + 1 < b) :
    InvR w v0 v1 v2 u0 u1 qd (.pointer (some ⟨b, 0, none⟩)) (((W.setCell ⟨b, 0, none⟩ u0).setCell ⟨b, 1, none⟩ u1).setCell ⟨b, 2, none⟩ (.slice na nn nc)) :=
  ⟨_, _, _, _, rfl, hl, end3 (of_cellAt n0) (of_cellAt n1) (of_cellAt n2) _ _ _, hr.offZ (Off.set3 _ _ _ _ _) ho, hg, h.set3 hl _ _ _⟩

set_option maxHeartbeats 4000000 in
set_option maxRecDepth 100000 in
theorem pinverse_any (p : Pt) (dv ov : Value) (w : World) (hp : PReads w p.note dv ov p) (hf : p.fine) (ht : HasTab w) (hk : HasK w) :
    Calls Tryz.prog 23 #[ptV p.note dv ov] w (InvPost p w) := by
  obtain ⟨da, dc, hdv, _⟩ := hp.deps.form
  obtain ⟨oa, oc, hov, _⟩ := hp.ops.form
  subst hdv
  subst hov
  obtain ⟨m, hm⟩ : ∃ m, m = p.deps.length := ⟨_, rfl⟩
  obtain ⟨n, hn⟩ : ∃ n, n = p.ops.length := ⟨_, rfl⟩
  obtain ⟨nm, hnm⟩ : ∃ nm, nm = tx (nameP p) := ⟨_, rfl⟩
  have c1 : ∀ wz, Below w.heap.size w wz → Calls Tryz.prog 12 #[ptV p.note (.slice da m dc) (.slice oa n oc)] wz fun e w' => e = .returned (.tuple #[.string nm, wrV p]) ∧ Below wz.heap.size wz w' := fun wz hz => by
    rw [hm, hn, hnm]; exact pname_any p _ _ wz (hp.below hz) hf (ht.below hz) (hk.below hz)
  have hb2 : ∀ o1 o2, Below w.heap.size w ((w.alloc o1).alloc o2) := fun o1 o2 => ((Below.refl _ _).alloc (Nat.le_refl _) _).alloc (by simp) _
  by_cases hr : rightP p = true
  case neg =>
    have hr' : rightP p = false := by simpa using hr
    have hw : wrV p = errV 10 := by unfold wrV; rw [hr']; rfl
    have hpost : ∀ w', Below w.heap.size w w' → InvPost p w (.returned (.tuple #[noPt, errV 10])) w' := fun w' hb => ⟨.inl ⟨hr', rfl⟩, hb⟩
    rw [hw] at c1
    obtain ⟨t, htt⟩ : ∃ t, t = p.note := ⟨_, rfl⟩
    rw [← htt] at c1 ⊢
    rw [← hm, ← hn]
    obtain ⟨Q, hQ⟩ : ∃ Q, Q = InvPost p w := ⟨_, rfl⟩
    rw [← hQ] at hpost ⊢
    have C1 := Lib.hid c1
    have HB2 := Lib.hid hb2
    have HP := Lib.hid hpost
    clear c1 hb2 hpost hp hf ht hk hm hn htt hnm hr hr' hw hQ
    go_enter Tryz.func23, Tryz.ntmps23
    go_wp2_with fail
    refine (C1.out _ (HB2.out _ _)).mono ?_
    rintro e w1 ⟨rfl, hb⟩
    obtain ⟨q1, q2, qb, _⟩ := boxA2 hb
    have QB := Lib.hid qb
    have z0 := frozen2 hb 0
    have z1 := frozen2 hb 1
    have z2 := frozen2 hb 2
    have y0 := (q2 0).trans rfl
    have y1 := (q2 1).trans rfl
    have y2 := (q2 2).trans rfl
    clear hb qb q1 q2
    obtain ⟨x0, x1, x2⟩ := end3 (of_cellAt y0) (of_cellAt y1) (of_cellAt y2) (.string ⟨#[]⟩) (.slice none 0 0) (.slice none 0 0)
    have HQ := Lib.hid (HP.out (((w1.setCell ⟨w.heap.size + 1, 0, none⟩ (.string ⟨#[]⟩)).setCell ⟨w.heap.size + 1, 1, none⟩ (.slice none 0 0)).setCell ⟨w.heap.size + 1, 2, none⟩ (.slice none 0 0)) (((QB.out.setCell (p := ⟨w.heap.size + 1, 0, none⟩) (Nat.le_succ _) _).setCell (p := ⟨w.heap.size + 1, 1, none⟩) (Nat.le_succ _) _).setCell (p := ⟨w.heap.size + 1, 2, none⟩) (Nat.le_succ _) _))
    go_wp2_with fail
    exact bodyPost_ret (v := .tuple #[noPt, errV 10]) (by simp [results, Tryz.results23, go_sem, x0, x1, x2]; rfl) rfl HQ.out
  case pos =>
    have hw : wrV p = .nilIface := by unfold wrV; rw [hr]; rfl
    have hok := right_refs hr
    obtain ⟨hs1, hs2, hs3⟩ := right_small hr
    have hfi := inv_fine hf hr
    rw [hw] at c1
    have c2 : ∀ wz, Below w.heap.size w wz → Calls Tryz.prog 51 #[ptV p.note (.slice da m dc) (.slice oa n oc), .string nm] wz fun e w' => (∃ v, e = .returned v ∧ Reads w' v (needsL p nm) ∧ ∀ g, v.ownBlock = some g → wz.heap.size < g) ∧ Below wz.heap.size wz w' := fun wz hz => by
      rw [hm, hn]; exact pneeds_any p _ _ nm wz (hp.below hz) (fun z hz => (hok z hz).1) (by omega)
    have c3 : ∀ nv wz, Below w.heap.size w wz → Reads wz nv (needsL p nm) → Calls Tryz.prog 52 #[ivV (.slice da m dc) nm nv, ptV p.note (.slice da m dc) (.slice oa n oc)] wz fun e w' => (∃ v, e = .returned v ∧ OReads w' v (invP p).ops ∧ ∀ g, v.ownBlock = some g → wz.heap.size < g) ∧ Below wz.heap.size wz w' := fun nv wz hz hr => by
      have h := piall_any p (needsL p nm) (.slice da p.deps.length dc) (.slice oa p.ops.length oc) nv nm wz (hp.below hz) hr (fun z hz => (hok z hz).2) hs1 hs3
      rw [hm, hn]
      have e : (invP p).ops = invI p.deps (needsL p nm) nm 0 p.ops := by rw [hnm]; rfl
      rw [e]
      exact h
    have c4 : ∀ dv ov wz, Below w.heap.size w wz → PReads wz undoB dv ov (invP p) → Calls Tryz.prog 15 #[ptV undoB dv ov] wz fun e w' => e = .returned (.bool (rightP (invP p))) ∧ Below wz.heap.size wz w' := fun dv ov wz hz hpr => pright_any (invP p) dv ov wz hpr hfi (ht.below hz)
    have hnd : needsL p nm = (invP p).deps := by rw [hnm]; rfl
    rw [hnd] at c2 c3
    have hne : (invP p).deps ≠ [] := by
      have := (needs_spec p (tx (nameP p))).2 (tx (nameP p)) |>.2 (by simp [needRaw])
      intro e
      rw [show (invP p).deps = needsL p (tx (nameP p)) from rfl] at e
      rw [e] at this
      cases this
    have hql : ∀ o ∈ (invP p).ops, o.lines = [] := fun o ho => invI_lines _ _ _ _ _ o ho
    obtain ⟨R, hR⟩ : ∃ R, R = rightP (invP p) := ⟨_, rfl⟩
    obtain ⟨qd, hqd⟩ : ∃ q, q = (invP p).deps := ⟨_, rfl⟩
    obtain ⟨qo, hqo⟩ : ∃ q, q = (invP p).ops := ⟨_, rfl⟩
    have hpost0 : ∀ w', R = false → Below w.heap.size w w' → InvPost p w (.returned (.tuple #[noPt, errV 2])) w' := fun w' h hb => ⟨.inr (.inl ⟨hr, hR ▸ h, rfl⟩), hb⟩
    have hpost1 : ∀ w' dv ov, R = true → Reads w' dv qd → OReads w' ov qo → Below w.heap.size w w' → InvPost p w (.returned (.tuple #[ptV undoB dv ov, .nilIface])) w' := fun w' dv ov h h1 h2 hb => ⟨.inr (.inr ⟨hr, hR ▸ h, dv, ov, rfl, rfl, hqd ▸ h1, hqo ▸ h2⟩), hb⟩
    have c5 : ∀ dv ov wz, Below w.heap.size w wz → Reads wz dv qd → OReads wz ov qo → Calls Tryz.prog 15 #[ptV undoB dv ov] wz fun e w' => e = .returned (.bool R) ∧ Below wz.heap.size wz w' := fun dv ov wz hz h1 h2 => by
      rw [hR]; exact c4 dv ov wz hz ⟨rfl, hqd ▸ h1, hqo ▸ h2⟩
    rw [← hqd] at c2 c3 hne
    rw [← hqo] at c3 hql
    obtain ⟨t, htt⟩ : ∃ t, t = p.note := ⟨_, rfl⟩
    rw [← htt] at c1 c2 c3 ⊢
    rw [← hm, ← hn]
    obtain ⟨Q, hQ⟩ : ∃ Q, Q = InvPost p w := ⟨_, rfl⟩
    rw [← hQ] at hpost0 hpost1 ⊢
    have C1 := Lib.hid c1
    have C2 := Lib.hid c2
    have C3 := Lib.hid c3
    have C5 := Lib.hid c5
    have HNE0 := Lib.hid hne
    have HQL := Lib.hid hql
    have HB2 := Lib.hid hb2
    have HP0 := Lib.hid hpost0
    have HP1 := Lib.hid hpost1
    clear c1 c2 c3 c4 c5 hb2 hpost0 hpost1 hp hf ht hk hm hn htt hnm hr hw hQ hok hs1 hs2 hs3 hfi hnd hR hqd hqo hne hql
    go_enter Tryz.func23, Tryz.ntmps23
    go_wp2_with fail
    refine (C1.out _ (HB2.out _ _)).mono ?_
    rintro e w1 ⟨rfl, hb⟩
    obtain ⟨q1, q2, qb, _⟩ := boxA2 hb
    have QB := Lib.hid qb
    have z0 := frozen2 hb 0
    have z1 := frozen2 hb 1
    have z2 := frozen2 hb 2
    have y0 := (q2 0).trans rfl
    have y1 := (q2 1).trans rfl
    have y2 := (q2 2).trans rfl
    have k0 := (q1 0).trans rfl
    have k1 := (q1 1).trans rfl
    have k2 := (q1 2).trans rfl
    have hlt : w.heap.size < w1.heap.size := cell_lt k0
    have hI : InvW w (.string t) (.slice da m dc) (.slice oa n oc) w1 := ⟨⟨k0, k1, k2⟩, ⟨y0, y1, y2⟩, frozen2 hb, qb⟩
    have HI := Lib.hid hI
    clear hb qb q1 q2 hI
    go_wp2_with fail
    go_cut [6] from 17 (fun b W => InvR w (.string t) (.slice da m dc) (.slice oa n oc) (.slice da m dc) (.string nm) qd b W)
    case first =>
      have hal : ∀ q j v, w1.cell? ⟨q, j, none⟩ = some v → (w1.alloc (.cells #[.slice none 0 0, .string ⟨#[]⟩, .slice none 0 0] 95)).cell? ⟨q, j, none⟩ = some v := fun q j v hv => (((Below.refl _ w1).alloc (Nat.le_refl _) _).cell (p := ⟨q, j, none⟩) (cell_lt hv)).trans hv
      have a0 := hal _ _ _ k0
      have a1 := hal _ _ _ k1
      have a2 := hal _ _ _ k2
      clear hal
      go_region_with (first
        | (go_at_call 51
           refine (C2.out _ ?_).mono ?_
           exact QB.out.drew
           rintro e w2 ⟨⟨v, rfl, hrd, how⟩, hb2⟩
           obtain ⟨na, nc, rfl, _⟩ := hrd.form
           have k0' := (hb2.cell (p := ⟨w.heap.size, 0, none⟩) hlt).trans k0
           have k1' := (hb2.cell (p := ⟨w.heap.size, 1, none⟩) hlt).trans k1
           have k2' := (hb2.cell (p := ⟨w.heap.size, 2, none⟩) hlt).trans k2
           have HI2 := Lib.hid (HI.out.below ((Below.refl _ w1).drew.trans hb2))
           have HRD := Lib.hid hrd
           have HOW := Lib.hid how
           have hlt2 : w1.heap.size ≤ w2.heap.size := hb2.size
           have c1' : (w2.alloc (.cells #[.slice none 0 0, .string ⟨#[]⟩, .slice none 0 0] 95)).cell? ⟨w.heap.size, 1, none⟩ = some (.slice da m dc) := (((Below.refl _ w2).alloc (Nat.le_refl _) _).cell (p := ⟨w.heap.size, 1, none⟩) (cell_lt k1')).trans k1'
           have HGT := Lib.hid (show ∀ g, (Value.slice na qd.length nc).ownBlock = some g → w.heap.size + 1 < g from fun g hg => by have := how g hg; simp at this; have := cell_lt y0; omega)
           clear hrd how hb2)
        | (go_at_call 51
           refine (C2.out _ ?_).mono ?_
           exact (QB.out.alloc QB.out.size _).drew
           rintro e w2 ⟨⟨v, rfl, hrd, how⟩, hb2⟩
           obtain ⟨na, nc, rfl, _⟩ := hrd.form
           have hba := ((Below.refl _ w1).alloc (Nat.le_refl _) (.cells #[.slice none 0 0, .string ⟨#[]⟩, .slice none 0 0] 95)).drew.trans (hb2.mono (by show _ ≤ (w1.heap.push _).size; simp))
           have k0' := (hba.cell (p := ⟨w.heap.size, 0, none⟩) hlt).trans k0
           have k1' := (hba.cell (p := ⟨w.heap.size, 1, none⟩) hlt).trans k1
           have k2' := (hba.cell (p := ⟨w.heap.size, 2, none⟩) hlt).trans k2
           have HI2 := Lib.hid (HI.out.below hba)
           have HRD := Lib.hid hrd
           have HOW := Lib.hid how
           have n0 : w2.cell? ⟨w1.heap.size, 0, none⟩ = some (.slice none 0 0) := (hb2.cell (p := ⟨w1.heap.size, 0, none⟩) (by show _ < (w1.heap.push _).size; simp)).trans (World.cell?_alloc_at _ _ _ _ rfl)
           have n1 : w2.cell? ⟨w1.heap.size, 1, none⟩ = some (.string ⟨#[]⟩) := (hb2.cell (p := ⟨w1.heap.size, 1, none⟩) (by show _ < (w1.heap.push _).size; simp)).trans (World.cell?_alloc_at _ _ _ _ rfl)
           have n2 : w2.cell? ⟨w1.heap.size, 2, none⟩ = some (.slice none 0 0) := (hb2.cell (p := ⟨w1.heap.size, 2, none⟩) (by show _ < (w1.heap.push _).size; simp)).trans (World.cell?_alloc_at _ _ _ _ rfl)
           have g0 : w2.frozen? ⟨w1.heap.size, 0, none⟩ = false := (hb2.frozen (p := ⟨w1.heap.size, 0, none⟩) (by show _ < (w1.heap.push _).size; simp)).trans (World.frozen?_alloc_at _ _ _ _ rfl)
           have g1 : w2.frozen? ⟨w1.heap.size, 1, none⟩ = false := (hb2.frozen (p := ⟨w1.heap.size, 1, none⟩) (by show _ < (w1.heap.push _).size; simp)).trans (World.frozen?_alloc_at _ _ _ _ rfl)
           have g2 : w2.frozen? ⟨w1.heap.size, 2, none⟩ = false := (hb2.frozen (p := ⟨w1.heap.size, 2, none⟩) (by show _ < (w1.heap.push _).size; simp)).trans (World.frozen?_alloc_at _ _ _ _ rfl)
           have HNE := Lib.hid (show ∀ g, (Value.slice na qd.length nc).ownBlock = some g → g ≠ w1.heap.size from fun g hg e => by have := how g hg; simp at this; omega)
           have HGT := Lib.hid (show ∀ g, (Value.slice na qd.length nc).ownBlock = some g → w.heap.size + 1 < g from fun g hg => by have := how g hg; simp at this; have := cell_lt y0; omega)
           clear hrd how hb2 hba))
      all_goals go_wp2_with fail
      all_goals go_meet
      all_goals first
        | with_reducible exact invR_alloc HI2.out HRD.out HGT.out (by omega)
        | with_reducible exact invR_set n0 n1 n2 HI2.out HRD.out HNE.out HGT.out (by omega)
    case rest =>
      obtain ⟨bx, na, nn, nc, rfl, hbx, ⟨b0, b1, b2⟩, hrd, hgt, hIW⟩ := hcut
      have HRD := Lib.hid hrd
      have HGT := Lib.hid hgt
      have HIW := Lib.hid hIW
      obtain ⟨⟨k0, k1, k2⟩, ⟨y0, y1, y2⟩, hfz, hbw⟩ := hIW
      have HBW := Lib.hid hbw
      have hlt := cell_lt k0
      have hltb := cell_lt b0
      have hal : ∀ q j v, wc.cell? ⟨q, j, none⟩ = some v → (wc.alloc (.cells #[.string ⟨#[]⟩, .slice none 0 0, .slice none 0 0] 25)).cell? ⟨q, j, none⟩ = some v := fun q j v hv => (((Below.refl _ wc).alloc (Nat.le_refl _) _).cell (p := ⟨q, j, none⟩) (cell_lt hv)).trans hv
      have a0 := hal _ _ _ k0
      have a1 := hal _ _ _ k1
      have a2 := hal _ _ _ k2
      have e0 := hal _ _ _ b0
      have e1 := hal _ _ _ b1
      have e2 := hal _ _ _ b2
      have HLT := Lib.hid (reads_lt hrd HNE0.out)
      clear hrd hfz hbw hgt hal y1 y2
      go_wp2_with fail
      go_cut [7] from 24 (fun b W => InvR2 w (.string t) (.slice da m dc) (.slice oa n oc) qd qo b W)
      case first =>
        go_region_with (first
          | (go_at_call 52
             refine (C3.out _ _ ?_ ?_).mono ?_
             exact HBW.out.drew
             exact HRD.out.drew
             rintro e w2 ⟨⟨v, rfl, hro, how⟩, hb2⟩
             obtain ⟨pa, pc, rfl, _⟩ := hro.form
             have b2' := (hb2.cell (p := ⟨bx, 2, none⟩) hltb).trans b2
             have hbd := (Below.refl _ wc).drew.trans hb2
             have HI2 := Lib.hid (HIW.out.below hbd)
             have HRD2 := Lib.hid (HRD.out.below hbd)
             have HRO := Lib.hid hro
             have hlt2 : wc.heap.size ≤ w2.heap.size := hb2.size
             have HG2 := Lib.hid (show ∀ g, (Value.slice pa qo.length pc).ownBlock = some g → w.heap.size + 1 < g from fun g hg => by have := how g hg; simp at this; omega)
             have c1' : (w2.alloc (.cells #[.string ⟨#[]⟩, .slice none 0 0, .slice none 0 0] 25)).cell? ⟨bx, 2, none⟩ = some (.slice na nn nc) := (((Below.refl _ w2).alloc (Nat.le_refl _) _).cell (p := ⟨bx, 2, none⟩) (cell_lt b2')).trans b2'
             clear hro how hb2 hbd)
          | (go_at_call 52
             refine (C3.out _ _ ?_ ?_).mono ?_
             exact (HBW.out.alloc HBW.out.size _).drew
             exact (HRD.out.below ((Below.refl _ wc).alloc (Nat.le_refl _) _)).drew
             rintro e w2 ⟨⟨v, rfl, hro, how⟩, hb2⟩
             obtain ⟨pa, pc, rfl, _⟩ := hro.form
             have hba := ((Below.refl _ wc).alloc (Nat.le_refl _) (.cells #[.string ⟨#[]⟩, .slice none 0 0, .slice none 0 0] 25)).drew.trans (hb2.mono (by show _ ≤ (wc.heap.push _).size; simp))
             have b2' := (hba.cell (p := ⟨bx, 2, none⟩) hltb).trans b2
             have HI2 := Lib.hid (HIW.out.below hba)
             have HRD2 := Lib.hid (HRD.out.below hba)
             have HRO := Lib.hid hro
             have n0 : w2.cell? ⟨wc.heap.size, 0, none⟩ = some (.string ⟨#[]⟩) := (hb2.cell (p := ⟨wc.heap.size, 0, none⟩) (by show _ < (wc.heap.push _).size; simp)).trans (World.cell?_alloc_at _ _ _ _ rfl)
             have n1 : w2.cell? ⟨wc.heap.size, 1, none⟩ = some (.slice none 0 0) := (hb2.cell (p := ⟨wc.heap.size, 1, none⟩) (by show _ < (wc.heap.push _).size; simp)).trans (World.cell?_alloc_at _ _ _ _ rfl)
             have n2 : w2.cell? ⟨wc.heap.size, 2, none⟩ = some (.slice none 0 0) := (hb2.cell (p := ⟨wc.heap.size, 2, none⟩) (by show _ < (wc.heap.push _).size; simp)).trans (World.cell?_alloc_at _ _ _ _ rfl)
             have g0 : w2.frozen? ⟨wc.heap.size, 0, none⟩ = false := (hb2.frozen (p := ⟨wc.heap.size, 0, none⟩) (by show _ < (wc.heap.push _).size; simp)).trans (World.frozen?_alloc_at _ _ _ _ rfl)
             have g1 : w2.frozen? ⟨wc.heap.size, 1, none⟩ = false := (hb2.frozen (p := ⟨wc.heap.size, 1, none⟩) (by show _ < (wc.heap.push _).size; simp)).trans (World.frozen?_alloc_at _ _ _ _ rfl)
             have g2 : w2.frozen? ⟨wc.heap.size, 2, none⟩ = false := (hb2.frozen (p := ⟨wc.heap.size, 2, none⟩) (by show _ < (wc.heap.push _).size; simp)).trans (World.frozen?_alloc_at _ _ _ _ rfl)
             have HG2 := Lib.hid (show ∀ g, (Value.slice pa qo.length pc).ownBlock = some g → w.heap.size + 1 < g from fun g hg => by have := how g hg; simp at this; omega)
             have HN2 := Lib.hid (show ∀ g, (Value.slice pa qo.length pc).ownBlock = some g → g ≠ wc.heap.size from fun g hg e => by have := how g hg; simp at this; omega)
             have HN1 := Lib.hid (show ∀ g, (Value.slice na nn nc).ownBlock = some g → g ≠ wc.heap.size from fun g hg e => by have := HLT.out g hg; omega)
             clear hro how hb2 hba))
        all_goals go_wp2_with fail
        all_goals go_meet
        all_goals first
          | with_reducible exact invR2_alloc HI2.out HRD2.out HRO.out HGT.out HG2.out (by omega)
          | with_reducible exact invR2_set n0 n1 n2 HI2.out HRD2.out HRO.out HQL.out HN1.out HN2.out HGT.out HG2.out (by omega)
      case rest =>
        obtain ⟨by_, na', nn', nc', oa', on', oc', rfl, hby, ⟨d0, d1, d2⟩, ⟨hrd', hro'⟩, ⟨hgt', hgo'⟩, hIW'⟩ := hcut
        have HIW2 := Lib.hid hIW'
        have HRD2 := Lib.hid hrd'
        have HRO2 := Lib.hid hro'
        have HGT2 := Lib.hid hgt'
        have HGO2 := Lib.hid hgo'
        clear a0 a1 a2 e0 e1 e2 k0 k1 k2 b0 b1 b2 y0 HLT HRD HGT HIW HBW hlt hltb hrd' hro' hgt' hgo' hIW'
        go_wp2_with fail
        refine (C5.out _ _ _ HIW2.out.b HRD2.out HRO2.out).mono ?_
        rintro e w3 ⟨rfl, hb3⟩
        have h3 := HIW2.out.below hb3
        have d0' := (hb3.cell (p := ⟨by_, 0, none⟩) (cell_lt d0)).trans d0
        have d1' := (hb3.cell (p := ⟨by_, 1, none⟩) (cell_lt d0)).trans d1
        have d2' := (hb3.cell (p := ⟨by_, 2, none⟩) (cell_lt d0)).trans d2
        have HRD3 := Lib.hid (HRD2.out.below hb3)
        have HRO3 := Lib.hid (HRO2.out.below hb3)
        obtain ⟨_, ⟨y0, y1, y2⟩, hfz, hbw⟩ := h3
        have z0 := hfz 0
        have z1 := hfz 1
        have z2 := hfz 2
        have HBW3 := Lib.hid hbw
        clear hb3 hfz hbw d0 d1 d2
        cases R with
        | false =>
          obtain ⟨x0, x1, x2⟩ := end3 (of_cellAt y0) (of_cellAt y1) (of_cellAt y2) (.string ⟨#[]⟩) (.slice none 0 0) (.slice none 0 0)
          have HQ := Lib.hid (HP0.out (((w3.setCell ⟨w.heap.size + 1, 0, none⟩ (.string ⟨#[]⟩)).setCell ⟨w.heap.size + 1, 1, none⟩ (.slice none 0 0)).setCell ⟨w.heap.size + 1, 2, none⟩ (.slice none 0 0)) rfl (((HBW3.out.setCell (p := ⟨w.heap.size + 1, 0, none⟩) (Nat.le_succ _) _).setCell (p := ⟨w.heap.size + 1, 1, none⟩) (Nat.le_succ _) _).setCell (p := ⟨w.heap.size + 1, 2, none⟩) (Nat.le_succ _) _))
          go_wp2_with fail
          exact bodyPost_ret (v := .tuple #[noPt, errV 2]) (by simp [results, Tryz.results23, go_sem, x0, x1, x2]; rfl) rfl HQ.out
        | true =>
          obtain ⟨x0, x1, x2⟩ := end3 (of_cellAt y0) (of_cellAt y1) (of_cellAt y2) (.string undoB) (.slice na' nn' nc') (.slice oa' on' oc')
          have HQ := Lib.hid (HP1.out (((w3.setCell ⟨w.heap.size + 1, 0, none⟩ (.string undoB)).setCell ⟨w.heap.size + 1, 1, none⟩ (.slice na' nn' nc')).setCell ⟨w.heap.size + 1, 2, none⟩ (.slice oa' on' oc')) _ _ rfl (HRD3.out.offZ (Off.set3 _ _ _ _ _) (fun g hg e => by have := HGT2.out g hg; omega)) (HRO3.out.offZ HQL.out (Off.set3 _ _ _ _ _) (fun g hg e => by have := HGO2.out g hg; omega))
            (((HBW3.out.setCell (p := ⟨w.heap.size + 1, 0, none⟩) (Nat.le_succ _) _).setCell (p := ⟨w.heap.size + 1, 1, none⟩) (Nat.le_succ _) _).setCell (p := ⟨w.heap.size + 1, 2, none⟩) (Nat.le_succ _) _))
          go_wp2_with fail
          exact bodyPost_ret (v := .tuple #[ptV undoB (.slice na' nn' nc') (.slice oa' on' oc'), .nilIface]) (by simp [results, Tryz.results23, go_sem, x0, x1, x2]) rfl HQ.out
end Go.Proofs.YtgjcblginkdinaaGreatDoor
