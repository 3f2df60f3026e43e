/- The contract of the document's Inverse. -/
import Derived.Test.YtgjcblginkdinaaGreatDoorV25
import Derived.Test.YtgjcblginkdinaaGreatDoorV33
import Derived.Test.YtgjcblginkdinaaGreatDoorV48
set_option linter.unusedVariables false
namespace Go.Proofs.YtgjcblginkdinaaGreatDoor
open Go.ChangeShapes Go.WideShapes Go.ChangeAt Go.RowKit

def RInvPost (p : Pt) (w : World) (e : Ending) (w' : World) : Prop :=
  ((rightP p = false ∧ e = .returned (.tuple #[noPt, .int .i64 10])) ∨ (rightP p = true ∧ rightP (invP p) = false ∧ e = .returned (.tuple #[noPt, .int .i64 2])) ∨
    (rightP p = true ∧ rightP (invP p) = true ∧ ∃ dv ov, e = .returned (.tuple #[ptV undoB dv ov, .int .i64 0]) ∧ PReads w' undoB dv ov (invP p))) ∧ Below w.heap.size w w'

theorem right_kinds {p : Pt} (h : rightP p = true) : ∀ o ∈ p.ops, o.kind = 1 ∨ o.kind = 2 ∨ o.kind = 3 ∨ o.kind = 4 ∨ o.kind = 5 := fun o ho => by
  obtain ⟨m, hm⟩ := opsB_mem _ _ (sound_ops (right_sound h)) o ho
  unfold opR at hm
  split at hm
  · rename_i h1; exact .inl h1
  · split at hm
    · rename_i h1; omega
    · split at hm
      · rename_i h1; omega
      · cases hm
def backS (deps needs : Lb) (nm : ByteArray) (M : Int) (ops : List Opp) (j : Nat) : List Opp × Int := (ops.drop j).reverse.foldl (stepI deps needs nm) ([], M)
theorem backS_step {deps needs : Lb} {nm : ByteArray} {M : Int} {ops : List Opp} {j : Nat} {x : Opp} (h : ops[j]? = some x) : backS deps needs nm M ops j = stepI deps needs nm (backS deps needs nm M ops (j + 1)) x := by
  unfold backS
  obtain ⟨hj, e⟩ := List.getElem?_eq_some_iff.1 h
  rw [List.drop_eq_getElem_cons hj, e, List.reverse_cons, List.foldl_append]
  rfl
theorem backS_len (deps needs : Lb) (nm : ByteArray) (M : Int) (ops : List Opp) (hl : ∀ z ∈ ops, z.lines.length ≤ 300) (j : Nat) : (backS deps needs nm M ops j).1.length ≤ 301 * (ops.length - j) ∧ M - 300 * ((ops.length - j : Nat) : Int) ≤ (backS deps needs nm M ops j).2 ∧ (backS deps needs nm M ops j).2 ≤ M := by
  have h := st_bounds deps needs nm M (ops.drop j).reverse (fun z hz => hl z (List.mem_of_mem_drop (List.mem_reverse.1 hz)))
  rw [List.length_reverse, List.length_drop] at h
  unfold backS
  exact h

attribute [-go_sem] Builtin.append_
abbrev OB5 (W : World) (ob : Nat) (K x1 y1 x2 y2 : Int) : Prop := W.cell? ⟨ob, 0, none⟩ = some (.int .i64 K) ∧ W.cell? ⟨ob, 1, none⟩ = some (.int .i64 x1) ∧ W.cell? ⟨ob, 2, none⟩ = some (.int .i64 y1) ∧ W.cell? ⟨ob, 3, none⟩ = some (.int .i64 x2) ∧ W.cell? ⟨ob, 4, none⟩ = some (.int .i64 y2)
theorem ob_below {W W2 : World} {ob : Nat} {K x1 y1 x2 y2 : Int} (h : OB5 W ob K x1 y1 x2 y2) (hb : Below W.heap.size W W2) : OB5 W2 ob K x1 y1 x2 y2 := by
  have c : ∀ j u, W.cell? ⟨ob, j, none⟩ = some u → W2.cell? ⟨ob, j, none⟩ = some u := fun j u hu => (hb.cell (p := ⟨ob, j, none⟩) (cell_lt hu)).trans hu
  exact ⟨c _ _ h.1, c _ _ h.2.1, c _ _ h.2.2.1, c _ _ h.2.2.2.1, c _ _ h.2.2.2.2⟩
theorem ob_set {W : World} {ob B i : Nat} {u : Value} {K x1 y1 x2 y2 : Int} (h : OB5 W ob K x1 y1 x2 y2) (hn : ob ≠ B) : OB5 (W.setCell ⟨B, i, none⟩ u) ob K x1 y1 x2 y2 := by
  have c : ∀ j u', W.cell? ⟨ob, j, none⟩ = some u' → (W.setCell ⟨B, i, none⟩ u).cell? ⟨ob, j, none⟩ = some u' := fun j u' hu => by
    rw [World.cell?_setCell_other _ _ _ _ (by intro e; injection e with e; exact hn e.symm)]; exact hu
  exact ⟨c _ _ h.1, c _ _ h.2.1, c _ _ h.2.2.1, c _ _ h.2.2.2.1, c _ _ h.2.2.2.2⟩
abbrev S10 (h ob j db k : Nat) (dv : Value) (x : Int) (d : ByteArray) (W : World) : Prop := W.cell? ⟨h, 1, none⟩ = some dv ∧ W.cell? ⟨ob, j, none⟩ = some (.int .i64 x) ∧ W.cell? ⟨db, k, none⟩ = some (.string d)
theorem s10_call {W W2 : World} {h ob j db k : Nat} {dv : Value} {x : Int} {d : ByteArray} (hs : S10 h ob j db k dv x d W) (hb : Below W.heap.size W W2) : S10 h ob j db k dv x d W2 :=
  ⟨(hb.cell (p := ⟨h, 1, none⟩) (cell_lt hs.1)).trans hs.1, (hb.cell (p := ⟨ob, j, none⟩) (cell_lt hs.2.1)).trans hs.2.1, (hb.cell (p := ⟨db, k, none⟩) (cell_lt hs.2.2)).trans hs.2.2⟩
abbrev S11 (h ob j db k B : Nat) (dv : Value) (x : Int) (d : ByteArray) (qv : Value) (W : World) : Prop := S10 h ob j db k dv x d W ∧ W.cell? ⟨B, 1, none⟩ = some qv
theorem s11_call {W W2 : World} {h ob j db k B : Nat} {dv qv : Value} {x : Int} {d : ByteArray} (hs : S11 h ob j db k B dv x d qv W) (hb : Below W.heap.size W W2) : S11 h ob j db k B dv x d qv W2 :=
  ⟨s10_call hs.1 hb, (hb.cell (p := ⟨B, 1, none⟩) (cell_lt hs.2)).trans hs.2⟩
abbrev S29 (h ob B : Nat) (dv qv ov : Value) (K x1 y1 x2 y2 : Int) (W : World) : Prop := W.cell? ⟨h, 1, none⟩ = some dv ∧ OB5 W ob K x1 y1 x2 y2 ∧ W.cell? ⟨B, 1, none⟩ = some qv ∧ W.cell? ⟨B, 2, none⟩ = some ov
theorem s29_call {W W2 : World} {h ob B : Nat} {dv qv ov : Value} {K x1 y1 x2 y2 : Int} (hs : S29 h ob B dv qv ov K x1 y1 x2 y2 W) (hb : Below W.heap.size W W2) : S29 h ob B dv qv ov K x1 y1 x2 y2 W2 :=
  ⟨(hb.cell (p := ⟨h, 1, none⟩) (cell_lt hs.1)).trans hs.1, ob_below hs.2.1 hb, (hb.cell (p := ⟨B, 1, none⟩) (cell_lt hs.2.2.1)).trans hs.2.2.1, (hb.cell (p := ⟨B, 2, none⟩) (cell_lt hs.2.2.2)).trans hs.2.2.2⟩
theorem s29_off {Z : Nat → Prop} {W W2 : World} {h ob B : Nat} {dv qv ov : Value} {K x1 y1 x2 y2 : Int} (hs : S29 h ob B dv qv ov K x1 y1 x2 y2 W) (ho : Off Z W W2) (h1 : ¬ Z h) (h2 : ¬ Z ob) (h3 : ¬ Z B) : S29 h ob B dv qv ov K x1 y1 x2 y2 W2 := by
  have c : ∀ q j u, ¬ Z q → W.cell? ⟨q, j, none⟩ = some u → W2.cell? ⟨q, j, none⟩ = some u := fun q j u hq hu => (ho.cell (p := ⟨q, j, none⟩) (cell_lt hu) hq).trans hu
  exact ⟨c _ _ _ h1 hs.1, ⟨c _ _ _ h2 hs.2.1.1, c _ _ _ h2 hs.2.1.2.1, c _ _ _ h2 hs.2.1.2.2.1, c _ _ _ h2 hs.2.1.2.2.2.1, c _ _ _ h2 hs.2.1.2.2.2.2⟩, c _ _ _ h3 hs.2.2.1, c _ _ _ h3 hs.2.2.2⟩

set_option maxHeartbeats 16000000 in
set_option maxRecDepth 100000 in
theorem rinverse_any (p : Pt) (dv ov : Value) (w : World) (hp : PReads w p.note dv ov p) (hf : p.fine) (hln : linesN p.ops ≤ 4611686018427387904) :
    Calls Tryz.prog 24 #[ptV p.note dv ov] w (RInvPost p w) := by
  obtain ⟨da, dc, hdv, _⟩ := hp.deps.form
  obtain ⟨oa, oc, hov, _⟩ := hp.ops.form
  subst hdv
  subst hov
  obtain ⟨m, hm⟩ : ∃ m, m = p.deps.length := ⟨_, rfl⟩
  obtain ⟨n, hn⟩ : ∃ n, n = p.ops.length := ⟨_, rfl⟩
  obtain ⟨nm, hnm⟩ : ∃ nm, nm = tx (nameP p) := ⟨_, rfl⟩
  have c1 : ∀ wz, Below w.heap.size w wz → Calls Tryz.prog 13 #[ptV p.note (.slice da m dc) (.slice oa n oc)] wz fun e w' => e = .returned (.tuple #[.string nm, .int .i64 (errP p)]) ∧ Below wz.heap.size wz w' := fun wz hz => by
    rw [hm, hn, hnm]; exact rpname_any p _ _ wz (hp.below hz) hf hln
  have hb2 : ∀ o1 o2, Below w.heap.size w ((w.alloc o1).alloc o2) := fun o1 o2 => ((Below.refl _ _).alloc (Nat.le_refl _) _).alloc (by simp) _
  by_cases hr : rightP p = true
  case neg =>
    have hr' : rightP p = false := by simpa using hr
    have hw : errP p = 10 := by unfold errP; rw [hr']; rfl
    have hpost : ∀ w', Below w.heap.size w w' → RInvPost p w (.returned (.tuple #[noPt, .int .i64 10])) w' := fun w' hb => ⟨.inl ⟨hr', rfl⟩, hb⟩
    rw [hw] at c1
    obtain ⟨t, htt⟩ : ∃ t, t = p.note := ⟨_, rfl⟩
    rw [← htt] at c1 ⊢
    rw [← hm, ← hn]
    obtain ⟨Q, hQ⟩ : ∃ Q, Q = RInvPost p w := ⟨_, rfl⟩
    rw [← hQ] at hpost ⊢
    have C1 := Lib.hid c1
    have HB2 := Lib.hid hb2
    have HP := Lib.hid hpost
    clear c1 hb2 hpost hp hf hm hn htt hnm hr hr' hw hQ hln
    go_enter Tryz.func24, Tryz.ntmps24
    go_wp2_with fail
    refine (C1.out _ (HB2.out _ _)).mono ?_
    rintro e w1 ⟨rfl, hb⟩
    obtain ⟨q1, q2, qb, _⟩ := boxA2 hb
    have QB := Lib.hid qb
    have z0 := frozen2 hb 0
    have z1 := frozen2 hb 1
    have z2 := frozen2 hb 2
    have y0 := (q2 0).trans rfl
    have y1 := (q2 1).trans rfl
    have y2 := (q2 2).trans rfl
    clear hb qb q1 q2
    obtain ⟨x0, x1, x2⟩ := end3 (of_cellAt y0) (of_cellAt y1) (of_cellAt y2) (.string ⟨#[]⟩) (.slice none 0 0) (.slice none 0 0)
    have HQ := Lib.hid (HP.out (((w1.setCell ⟨w.heap.size + 1, 0, none⟩ (.string ⟨#[]⟩)).setCell ⟨w.heap.size + 1, 1, none⟩ (.slice none 0 0)).setCell ⟨w.heap.size + 1, 2, none⟩ (.slice none 0 0)) (((QB.out.setCell (p := ⟨w.heap.size + 1, 0, none⟩) (Nat.le_succ _) _).setCell (p := ⟨w.heap.size + 1, 1, none⟩) (Nat.le_succ _) _).setCell (p := ⟨w.heap.size + 1, 2, none⟩) (Nat.le_succ _) _))
    go_wp2_with fail
    exact bodyPost_ret (v := .tuple #[noPt, .int .i64 10]) (by simp [results, Tryz.results24, go_sem, x0, x1, x2]; rfl) rfl HQ.out
  case pos =>
    have hw : errP p = 0 := by unfold errP; rw [hr]; rfl
    have hok := fun z hz => (right_refs hr z hz).2
    have hks := right_kinds hr
    obtain ⟨hs1, hs2, hs3⟩ := right_small hr
    have hfi := inv_fine hf hr
    rw [hw] at c1
    have hll : ∀ z ∈ p.ops, z.lines.length ≤ 300 := fun z hz => Nat.le_trans (lines_mem hz) hs3
    have hneed : p.ops.foldl (addO p.deps) [nm] = needsL p nm := needF_needs nm hks
    have hnl : ∀ k, ((p.ops.take k).foldl (addO p.deps) [nm]).length ≤ 900000 := fun k => by
      have h := needF_len p.deps (p.ops.take k) [nm]
      rw [List.length_take] at h
      simp only [List.length_cons, List.length_nil] at h
      omega
    have hne : needsL p nm ≠ [] := by
      have := (needs_spec p nm).2 nm |>.2 (by simp [needRaw])
      intro e
      rw [e] at this
      cases this
    have cA : ∀ (ls : Lb) v x wz, Reads wz v ls → ls.length ≤ 1000000 → Calls Tryz.prog 53 #[v, .string x] wz fun e w' => (∃ v', e = .returned v' ∧ Reads w' v' (addB ls x) ∧ ∀ g, v'.ownBlock = some g → wz.heap.size ≤ g ∨ v.ownBlock = some g) ∧ Below wz.heap.size wz w' := fun ls v x wz hr hl => radd_any ls v x wz hr hl
    have cP : ∀ (ls : Lb) v wz, Reads wz v ls → Calls Tryz.prog 25 #[v, .string nm] wz fun e w' => e = .returned (.int .i64 (Lib.idxOfS ls nm)) ∧ Below wz.heap.size wz w' := fun ls v wz hr => rplace_any ls v nm wz hr
    have cM : ∀ wz, Below w.heap.size w wz → Calls Tryz.prog 17 #[ptV p.note (.slice da m dc) (.slice oa n oc)] wz fun e w' => e = .returned (.int .i64 (madeN p.ops : Nat)) ∧ Below wz.heap.size wz w' := fun wz hz => by
      rw [hm, hn]; exact rmade_any p _ _ wz (hp.below hz) hln
    have cT : ∀ (x y : Int) (nv : Value) wz, Below w.heap.size w wz → Reads wz nv (needsL p nm) → (⟨x, y⟩ : Rf).okR m → Calls Tryz.prog 54 #[.agg #[.int .i64 x, .int .i64 y], .slice da m dc, nv, .int .i64 (Lib.idxOfS (needsL p nm) nm)] wz fun e w' => e = .returned (rfV (refI p.deps (needsL p nm) nm ⟨x, y⟩)) ∧ Below wz.heap.size wz w' := fun x y nv wz hz hv hk => by
      rw [hm] at hk ⊢; exact rturn5_any p.deps (needsL p nm) _ nv nm ⟨x, y⟩ _ wz (hp.deps.below hz) hv hk rfl
    have cR : ∀ dv ov wz, Reads wz dv (needsL p nm) → OReads wz ov (invI p.deps (needsL p nm) nm 0 p.ops) → Calls Tryz.prog 32 #[ptV undoB dv ov] wz fun e w' => e = .returned (.bool (rightP (invP p))) ∧ Below wz.heap.size wz w' := fun dv ov wz h1 h2 => by
      have e : (invP p).deps = needsL p nm := by rw [hnm]; rfl
      have e2 : (invP p).ops = invI p.deps (needsL p nm) nm 0 p.ops := by rw [hnm]; rfl
      have hz : linesN (invP p).ops = 0 := by
        rw [e2]
        have hz := invI_lines p.deps (needsL p nm) nm p.ops 0
        generalize invI p.deps (needsL p nm) nm 0 p.ops = l at hz
        induction l with
        | nil => rfl
        | cons o r ih => simp only [linesN]; rw [hz o (by simp), ih (fun z hh => hz z (by simp [hh]))]; rfl
      exact rright_any5 (invP p) dv ov wz ⟨rfl, e ▸ h1, e2 ▸ h2⟩ hfi (by omega)
    have hfold : backS p.deps (needsL p nm) nm (madeN p.ops : Nat) p.ops 0 = (invI p.deps (needsL p nm) nm 0 p.ops, 0) := by
      have h := foldI p.deps (needsL p nm) nm p.ops 0
      rw [Nat.zero_add] at h
      unfold backS
      rw [List.drop_zero, h]; rfl
    have hfin : ∀ Bo W v, OutO Bo W v (invI p.deps (needsL p nm) nm 0 p.ops) → OReads W v (invI p.deps (needsL p nm) nm 0 p.ops) := fun Bo W v h => h.reads (invI_lines _ _ _ _ _)
    have hpost0 : ∀ w', rightP (invP p) = false → Below w.heap.size w w' → RInvPost p w (.returned (.tuple #[noPt, .int .i64 2])) w' := fun w' h hb => ⟨.inr (.inl ⟨hr, h, rfl⟩), hb⟩
    have hpost1 : ∀ w' dv ov, rightP (invP p) = true → Reads w' dv (needsL p nm) → OReads w' ov (invI p.deps (needsL p nm) nm 0 p.ops) → Below w.heap.size w w' → RInvPost p w (.returned (.tuple #[ptV undoB dv ov, .int .i64 0])) w' := fun w' dv ov h h1 h2 hb => ⟨.inr (.inr ⟨hr, h, dv, ov, rfl, rfl, by rw [hnm] at h1; exact h1, by rw [hnm] at h2; exact h2⟩), hb⟩
    have hML : madeN p.ops ≤ 300 := Nat.le_trans (madeN_le _) hs3
    obtain ⟨M, hM⟩ : ∃ M, M = madeN p.ops := ⟨_, rfl⟩
    obtain ⟨R, hR⟩ : ∃ R, R = rightP (invP p) := ⟨_, rfl⟩
    obtain ⟨t, htt⟩ : ∃ t, t = p.note := ⟨_, rfl⟩
    obtain ⟨needs, hnd⟩ : ∃ l, l = needsL p nm := ⟨_, rfl⟩
    obtain ⟨own, hown⟩ : ∃ l, l = Lib.idxOfS needs nm := ⟨_, rfl⟩
    have hD := hp.deps
    have hO := hp.ops
    have hso := fun j => backS_len p.deps needs nm (M : Nat) p.ops hll j
    rw [← hnd] at cT cR hfold hfin hpost1 hne hneed
    rw [← hown] at cT
    rw [← hM] at cM hfold hML
    rw [← hR] at cR hpost0 hpost1
    rw [← htt] at c1 cM ⊢
    rw [← hm, ← hn]
    rw [← hm] at hD hok
    rw [← hn] at hO hs1 hso
    obtain ⟨Q, hQ⟩ : ∃ Q, Q = RInvPost p w := ⟨_, rfl⟩
    rw [← hQ] at hpost0 hpost1 ⊢
    have C1 := Lib.hid c1
    have CA := Lib.hid cA
    have CP := Lib.hid cP
    have CM := Lib.hid cM
    have CT := Lib.hid cT
    have CR := Lib.hid cR
    have HFOLD := Lib.hid hfold
    have HFIN := Lib.hid hfin
    have HB2 := Lib.hid hb2
    have HP0 := Lib.hid hpost0
    have HP1 := Lib.hid hpost1
    have HNE := Lib.hid hne
    have HNEED := Lib.hid hneed
    have HNL := Lib.hid hnl
    have HOK := Lib.hid hok
    have HKS := Lib.hid hks
    have HD := Lib.hid hD
    have HO := Lib.hid hO
    have HN := Lib.hid hn
    have HDL := Lib.hid hm
    have HSO := Lib.hid hso
    have HLL := Lib.hid hll
    have HOWN := Lib.hid hown
    clear c1 cA cP cM cT cR hfold hfin hb2 hpost0 hpost1 hne hneed hnl hok hks hD hO hn hm hso hll hown hp hf hln htt hnm hr hw hQ hs2 hs3 hfi hM hR hnd
    go_enter Tryz.func24, Tryz.ntmps24
    go_wp2_with fail
    refine (C1.out _ (HB2.out _ _)).mono ?_
    rintro e w1 ⟨rfl, hb⟩
    obtain ⟨q1, q2, qb, _⟩ := boxA2 hb
    have y0 := (q2 0).trans rfl
    have y1 := (q2 1).trans rfl
    have y2 := (q2 2).trans rfl
    have k0 := (q1 0).trans rfl
    have k1 := (q1 1).trans rfl
    have k2 := (q1 2).trans rfl
    have hlt : w.heap.size < w1.heap.size := cell_lt k0
    have hlt2 : w.heap.size + 1 < w1.heap.size := cell_lt y0
    have hI : InvW w (.string t) (.slice da m dc) (.slice oa n oc) w1 := ⟨⟨k0, k1, k2⟩, ⟨y0, y1, y2⟩, frozen2 hb, qb⟩
    have hal : Below w1.heap.size w1 ((w1.alloc (.cells #[.string nm] 9)).alloc (.cells #[.string undoB, .slice (some ⟨w1.heap.size, 0, none⟩) 1 1, .slice none 0 0] 25)) := ((Below.refl _ _).alloc (Nat.le_refl _) _).alloc (by simp) _
    have hR0 : Reads (w1.alloc (.cells #[.string nm] 9)) (.slice (some ⟨w1.heap.size, 0, none⟩) 1 1) [nm] := .inr ⟨by simp, w1.heap.size, 0, 1, rfl, by simp, by decide, by simp, fun j x hx => by
      rw [World.cell?_alloc_at _ _ _ _ rfl]
      cases j with
      | zero => simpa using hx
      | succ j => simp at hx⟩
    have hRI : RI1 w (.string t) (.slice da m dc) (.slice oa n oc) (w1.heap.size + 1) [nm] (.slice (some ⟨w1.heap.size, 0, none⟩) 1 1) ((w1.alloc (.cells #[.string nm] 9)).alloc (.cells #[.string undoB, .slice (some ⟨w1.heap.size, 0, none⟩) 1 1, .slice none 0 0] 25)) := by
      have e : w1.heap.size + 1 = (w1.alloc (.cells #[.string nm] 9)).heap.size := by simp
      rw [e]
      refine ⟨hI.below hal, by simp; omega, World.cell?_alloc_at _ _ _ _ rfl, World.cell?_alloc_at _ _ _ _ rfl, World.cell?_alloc_at _ _ _ _ rfl, fun j => World.frozen?_alloc_at _ _ _ _ rfl, hR0.below ((Below.refl _ _).alloc (Nat.le_refl _) _), fun g hg => ?_⟩
      simp only [Value.ownBlock, Option.some.injEq] at hg
      subst hg
      exact ⟨hlt2, by simp⟩
    have HRI := Lib.hid hRI
    clear hb qb q1 q2 hI hal hR0 hRI y0 y1 y2
    go_wp2_with fail
    obtain ⟨B, hB⟩ : ∃ B, B = w1.heap.size + 1 := ⟨_, rfl⟩
    rw [← hB] at HRI ⊢
    obtain ⟨W0, hW0⟩ : ∃ W0, (w1.alloc (.cells #[.string nm] 9)).alloc (.cells #[.string undoB, .slice (some ⟨w1.heap.size, 0, none⟩) 1 1, .slice none 0 0] 25) = W0 := ⟨_, rfl⟩
    rw [hW0] at HRI ⊢
    clear hW0 hB k0 k1 k2
    go_loopw [7] (fun i wr => ∃ (k : Nat) (qv : Value), k ≤ n ∧ i = .int .i64 (k : Nat) ∧ Hid (RI1 w (.string t) (.slice da m dc) (.slice oa n oc) B ((p.ops.take k).foldl (addO p.deps) [nm]) qv wr)) (fun i _ => n - (intOf i).toNat)
    case atStart => exact ⟨0, _, Nat.zero_le _, rfl, HRI⟩
    case round =>
      obtain ⟨k, qv, hk, rfl, HI⟩ := hrel
      have kk := HI.out.i.p
      obtain ⟨k0, k1, k2⟩ := kk
      by_cases hlt : k < n
      · obtain ⟨x, hx⟩ : ∃ x, p.ops[k]? = some x := ⟨p.ops[k]'(by rw [← HN.out]; exact hlt), by simp⟩
        obtain ⟨b, o, rfl, hnl, hcl⟩ := HO.out.at hx
        clear hnl
        obtain ⟨lv, d0, d1, d2, d3, d4, d5, d6⟩ := (hcl.below HI.out.i.b).2 k x hx
        obtain ⟨la, lc, hlv, _⟩ := d6.form
        obtain ⟨N, hN⟩ : ∃ N, N = x.lines.length := ⟨_, rfl⟩
        rw [← hN] at hlv
        subst hlv
        have hkx := HKS.out x (List.mem_of_getElem? hx)
        have hox := HOK.out x (List.mem_of_getElem? hx)
        obtain ⟨acc, hacc⟩ : ∃ a, a = (p.ops.take k).foldl (addO p.deps) [nm] := ⟨_, rfl⟩
        have hstep : (p.ops.take (k + 1)).foldl (addO p.deps) [nm] = addO p.deps acc x := by rw [take_snoc hx, List.foldl_append, ← hacc]; rfl
        have hal : acc.length ≤ 900000 := by rw [hacc]; exact HNL.out k
        rw [← hacc] at HI
        obtain ⟨qa, qc, hqv, _⟩ := HI.out.rd.form
        obtain ⟨ql, hql⟩ : ∃ l, l = acc.length := ⟨_, rfl⟩
        rw [← hql] at hqv
        subst hqv
        have HST := Lib.hid hstep
        clear hcl d6 hx hN hacc hstep hql
        obtain ⟨K, ⟨x1, y1⟩, ⟨x2, y2⟩, ls⟩ := x
        simp only at d0 d1 d2 d3 d4 hkx hox
        have HOX := Lib.hid hox
        clear hox
        have hBl : B < wr.heap.size := cell_lt HI.out.c0
        have hwh : w.heap.size + 1 < B := HI.out.lt
        have hob : OB5 (wr.alloc (.cells #[.int .i64 K, .int .i64 x1, .int .i64 y1, .int .i64 x2, .int .i64 y2, .slice la N lc] 56)) wr.heap.size K x1 y1 x2 y2 := ⟨World.cell?_alloc_at _ _ _ _ rfl, World.cell?_alloc_at _ _ _ _ rfl, World.cell?_alloc_at _ _ _ _ rfl, World.cell?_alloc_at _ _ _ _ rfl, World.cell?_alloc_at _ _ _ _ rfl⟩
        have HI0 := Lib.hid (HI.out.below ((Below.refl _ wr).alloc (Nat.le_refl _) (.cells #[.int .i64 K, .int .i64 x1, .int .i64 y1, .int .i64 x2, .int .i64 y2, .slice la N lc] 56)))
        have HOB := Lib.hid hob
        clear hob
        -- ARMS
        by_cases hK1 : K = 1
        · subst hK1
          have HE : Hid (addO p.deps acc ⟨1, ⟨x1, y1⟩, ⟨x2, y2⟩, ls⟩ = acc) := Lib.hid (by simp [addO])
          obtain ⟨f0, f1, f2, f3, f4⟩ := HOB.out
          clear hkx
          go_wp2_with fail
          exact ⟨⟨k + 1, _, by omega, by go_num, Lib.hid (by rw [HST.out, HE.out]; exact HI0.out)⟩, by simp [intOf]; omega⟩
        · have n1 : (K != 1) = true := by simpa using hK1
          have hoa := (HOX.out hK1).1
          have HKX := Lib.hid hkx
          have HK1 := Lib.hid hK1
          clear hkx hK1
          by_cases h1 : 0 ≤ x1
          · obtain ⟨q1, rfl⟩ : ∃ q : Nat, x1 = (q : Nat) := ⟨x1.toNat, (Int.toNat_of_nonneg h1).symm⟩
            have hq1 : q1 < m := by rcases hoa with h | h | h <;> simp only at h <;> omega
            obtain ⟨e1, he1⟩ : ∃ d, p.deps[q1]? = some d := ⟨p.deps[q1]'(by rw [← HDL.out]; exact hq1), by simp⟩
            obtain ⟨b1, o1, hda, hnl1, hdb1⟩ := HD.out.at he1
            subst hda
            have hdc1 := hdb1.2 q1 e1 he1
            have hbb1 := hdb1.1
            have halA : (addB acc e1).length ≤ 900001 := Nat.le_trans (addB_len _ _) (by omega)
            clear hnl1 hdb1 hoa
            obtain ⟨f0, f1, f2, f3, f4⟩ := HOB.out
            go_wp2_with fail
            have gq := HI0.out.c1
            have HRDW := Lib.hid (show Reads (wr.alloc (.cells #[.int .i64 K, .int .i64 (q1 : Nat), .int .i64 y1, .int .i64 x2, .int .i64 y2, .slice la N lc] 56)).drew _ (acc) from HI0.out.rd)
            have HS0 : Hid (S11 w.heap.size wr.heap.size 1 b1 (o1 + q1) B (.slice (some ⟨b1, o1, none⟩) m dc) ((q1 : Nat)) e1 (.slice qa ql qc) (wr.alloc (.cells #[.int .i64 K, .int .i64 (q1 : Nat), .int .i64 y1, .int .i64 x2, .int .i64 y2, .slice la N lc] 56)).drew) := Lib.hid ⟨⟨HI0.out.i.p.2.1, HOB.out.2.1, (HI0.out.i.b.cell (p := ⟨b1, o1 + q1, none⟩) hbb1).trans hdc1⟩, HI0.out.c1⟩
            refine wp_region_til (S := (fun W => (W.cell? ⟨w.heap.size, 1, none⟩ = some (.slice (some ⟨b1, o1, none⟩) m dc) ∧ W.cell? ⟨wr.heap.size, 1, none⟩ = some (.int .i64 ((q1 : Nat))) ∧ W.cell? ⟨b1, o1 + q1, none⟩ = some (.string e1)) ∧ W.cell? ⟨B, 1, none⟩ = some (.slice qa ql qc))) 11 (by kernel_rfl) ?_ (fun hHeld => ?_)
            · exact HS0.out
            refine tkT 0 ⟨some 47, .fieldAddr 25 (.tmp 6) 1, 0, "ref.go:247", #[], none⟩ ?_
            try simp only [Act.put, List.setIfInBounds_toArray, List.set_cons_zero, List.set_cons_succ]
            refine tkT 1 ⟨some 48, .load 22 (.tmp 47), 22, "ref.go:247", #[⟨0, .data⟩], none⟩ ?_
            try simp only [Act.put, List.setIfInBounds_toArray, List.set_cons_zero, List.set_cons_succ]
            refine tkT 2 ⟨some 49, .fieldAddr 25 (.tmp 1) 1, 0, "ref.go:247", #[], none⟩ ?_
            try simp only [Act.put, List.setIfInBounds_toArray, List.set_cons_zero, List.set_cons_succ]
            refine tkT 3 ⟨some 50, .load 22 (.tmp 49), 22, "ref.go:247", #[⟨2, .data⟩], none⟩ ?_
            try simp only [Act.put, List.setIfInBounds_toArray, List.set_cons_zero, List.set_cons_succ]
            refine tkT 4 ⟨some 51, .fieldAddr 56 (.tmp 8) 1, 0, "ref.go:247", #[], none⟩ ?_
            try simp only [Act.put, List.setIfInBounds_toArray, List.set_cons_zero, List.set_cons_succ]
            refine tkT 5 ⟨some 52, .fieldAddr 54 (.tmp 51) 0, 0, "ref.go:247", #[⟨4, .data⟩], none⟩ ?_
            try simp only [Act.put, List.setIfInBounds_toArray, List.set_cons_zero, List.set_cons_succ]
            refine tkT 6 ⟨some 53, .load 3 (.tmp 52), 3, "ref.go:247", #[⟨5, .data⟩], none⟩ ?_
            try simp only [Act.put, List.setIfInBounds_toArray, List.set_cons_zero, List.set_cons_succ]
            refine tkT 7 ⟨some 54, .indexAddr 22 (.tmp 50) (.tmp 53), 0, "ref.go:247", #[⟨3, .data⟩, ⟨6, .data⟩], none⟩ ?_
            try simp only [Act.put, List.setIfInBounds_toArray, List.set_cons_zero, List.set_cons_succ]
            refine tkT 8 ⟨some 55, .load 9 (.tmp 54), 9, "ref.go:247", #[⟨7, .data⟩], none⟩ ?_
            try simp only [Act.put, List.setIfInBounds_toArray, List.set_cons_zero, List.set_cons_succ]
            refine til_one (i := 9) (o := ⟨some 56, .call { callee := Callee.value (Operand.func 53), args := #[.tmp 48, .tmp 55], argTypes := #[22, 9] }, 22, "ref.go:247", #[⟨1, .data⟩, ⟨8, .data⟩], none⟩) (by kernel_rfl) rfl (fun KK hK => ?_)
            go_simp
            go_at_call 53
            (with_reducible refine (CA.out (acc) _ _ (wr.alloc (.cells #[.int .i64 K, .int .i64 (q1 : Nat), .int .i64 y1, .int .i64 x2, .int .i64 y2, .slice la N lc] 56)).drew HRDW.out (by have := hal; omega)).mono ?_)
            rintro e wA ⟨⟨v', rfl, hrd, how⟩, hb⟩
            obtain ⟨qaHIA, qcHIA, rfl, _⟩ := hrd.form
            obtain ⟨qlHIA, hlA⟩ : ∃ l, l = (addB (acc) e1).length := ⟨_, rfl⟩
            rw [← hlA] at hrd how ⊢
            have HJ := Lib.hid (HI0.out.below ((Below.refl _ (wr.alloc (.cells #[.int .i64 K, .int .i64 (q1 : Nat), .int .i64 y1, .int .i64 x2, .int .i64 y2, .slice la N lc] 56))).drew.trans hb))
            have g1 := HJ.out.c1
            have gf := HJ.out.f 1
            have ho' : ∀ g, (Value.slice qaHIA qlHIA qcHIA).ownBlock = some g → w.heap.size + 1 < g ∧ g ≠ B := fun g hg => by
              rcases how g hg with h | h
              · have h1 : B < (wr.alloc (.cells #[.int .i64 K, .int .i64 (q1 : Nat), .int .i64 y1, .int .i64 x2, .int .i64 y2, .slice la N lc] 56)).heap.size := cell_lt HI0.out.c0
                have h2 : (wr.alloc (.cells #[.int .i64 K, .int .i64 (q1 : Nat), .int .i64 y1, .int .i64 x2, .int .i64 y2, .slice la N lc] 56)).heap.size ≤ g := h
                omega
              · exact HI0.out.own g h
            have HIA := Lib.hid (HJ.out.store hrd ho')
            have HOBA := Lib.hid (ob_set (i := 1) (u := .slice qaHIA qlHIA qcHIA) (ob_below HOB.out ((Below.refl _ (wr.alloc (.cells #[.int .i64 K, .int .i64 (q1 : Nat), .int .i64 y1, .int .i64 x2, .int .i64 y2, .slice la N lc] 56))).drew.trans hb)) (Ne.symm (Nat.ne_of_lt hBl)))
            have HSX := Lib.hid (s11_call HS0.out hb)
            clear hrd how hb hlA
            refine hK.out _ _ ?_ (fun hHeld => ?_)
            · exact HSX.out
            clear hK KK
            try simp only [Act.put, List.setIfInBounds_toArray, List.set_cons_zero, List.set_cons_succ]
            refine tkT 10 ⟨some 57, .fieldAddr 25 (.tmp 6) 1, 0, "ref.go:247", #[⟨0, .phase⟩, ⟨1, .phase⟩, ⟨2, .phase⟩, ⟨3, .phase⟩, ⟨4, .phase⟩, ⟨5, .phase⟩, ⟨6, .phase⟩, ⟨7, .phase⟩, ⟨8, .phase⟩, ⟨9, .phase⟩], none⟩ ?_
            try simp only [Act.put, List.setIfInBounds_toArray, List.set_cons_zero, List.set_cons_succ]
            refine til_last (o := ⟨none, .store 22 (.tmp 57) (.tmp 56), 0, "ref.go:247", #[⟨10, .data⟩, ⟨9, .data⟩, ⟨9, .chain⟩, ⟨0, .phase⟩, ⟨1, .phase⟩, ⟨2, .phase⟩, ⟨3, .phase⟩, ⟨4, .phase⟩, ⟨5, .phase⟩, ⟨6, .phase⟩, ⟨7, .phase⟩, ⟨8, .phase⟩, ⟨9, .phase⟩], none⟩) (by kernel_rfl) rfl (by kernel_rfl) (fun KK hK => ?_)
            go_simp
            refine hK.out _ _ ?_
            clear hK KK
            try simp only [Act.put, List.setIfInBounds_toArray, List.set_cons_zero, List.set_cons_succ]
            clear g1 gf gq HRDW HSX HS0 HJ ho'
            obtain ⟨WA, hWA⟩ : ∃ W, wA.setCell ⟨B, 1, none⟩ (.slice qaHIA qlHIA qcHIA) = W := ⟨_, rfl⟩
            rw [hWA] at HIA HOBA ⊢
            clear hWA
            clear f0 f1 f2 f3 f4
            rcases HKX.out with h | rfl | rfl | rfl | rfl
            · exact absurd h HK1.out
            · clear n1
              have hob2 := (HOX.out (by decide)).2 (by decide)
              obtain ⟨f0, f1, f2, f3, f4⟩ := HOBA.out
              by_cases h2 : 0 ≤ x2
              · obtain ⟨q2, rfl⟩ : ∃ q : Nat, x2 = (q : Nat) := ⟨x2.toNat, (Int.toNat_of_nonneg h2).symm⟩
                have hq2 : q2 < m := by rcases hob2 with h | h | h <;> simp only at h <;> omega
                obtain ⟨e2, he2⟩ : ∃ d, p.deps[q2]? = some d := ⟨p.deps[q2]'(by rw [← HDL.out]; exact hq2), by simp⟩
                obtain ⟨b2, o2, hda2, hnl2, hdb2⟩ := HD.out.at he2
                simp only [Option.some.injEq, Addr.mk.injEq, and_true] at hda2
                obtain ⟨rfl, rfl⟩ := hda2
                have hdc2 := hdb2.2 q2 e2 he2
                clear hnl2 hdb2
                have HE : Hid (addO p.deps acc ⟨2, ⟨((q1 : Nat) : Int), y1⟩, ⟨((q2 : Nat) : Int), y2⟩, ls⟩ = addB (addB acc e1) e2) := Lib.hid (by simp [addO, List.getD_eq_getElem?_getD, he1, he2])
                clear hob2
                go_wp2_with fail
                have gq := HIA.out.c1
                have HRDW := Lib.hid (show Reads (WA).drew _ (addB acc e1) from HIA.out.rd)
                have HS0 : Hid (S11 w.heap.size wr.heap.size 3 b1 (o1 + q2) B (.slice (some ⟨b1, o1, none⟩) m dc) ((q2 : Nat)) e2 (.slice qaHIA qlHIA qcHIA) (WA).drew) := Lib.hid ⟨⟨HIA.out.i.p.2.1, HOBA.out.2.2.2.1, (HIA.out.i.b.cell (p := ⟨b1, o1 + q2, none⟩) hbb1).trans hdc2⟩, HIA.out.c1⟩
                refine wp_region_til (S := (fun W => (W.cell? ⟨w.heap.size, 1, none⟩ = some (.slice (some ⟨b1, o1, none⟩) m dc) ∧ W.cell? ⟨wr.heap.size, 3, none⟩ = some (.int .i64 ((q2 : Nat))) ∧ W.cell? ⟨b1, o1 + q2, none⟩ = some (.string e2)) ∧ W.cell? ⟨B, 1, none⟩ = some (.slice qaHIA qlHIA qcHIA))) 11 (by kernel_rfl) ?_ (fun hHeld => ?_)
                · exact HS0.out
                refine tkT 0 ⟨some 72, .fieldAddr 25 (.tmp 6) 1, 0, "ref.go:250", #[], none⟩ ?_
                try simp only [Act.put, List.setIfInBounds_toArray, List.set_cons_zero, List.set_cons_succ]
                refine tkT 1 ⟨some 73, .load 22 (.tmp 72), 22, "ref.go:250", #[⟨0, .data⟩], none⟩ ?_
                try simp only [Act.put, List.setIfInBounds_toArray, List.set_cons_zero, List.set_cons_succ]
                refine tkT 2 ⟨some 74, .fieldAddr 25 (.tmp 1) 1, 0, "ref.go:250", #[], none⟩ ?_
                try simp only [Act.put, List.setIfInBounds_toArray, List.set_cons_zero, List.set_cons_succ]
                refine tkT 3 ⟨some 75, .load 22 (.tmp 74), 22, "ref.go:250", #[⟨2, .data⟩], none⟩ ?_
                try simp only [Act.put, List.setIfInBounds_toArray, List.set_cons_zero, List.set_cons_succ]
                refine tkT 4 ⟨some 76, .fieldAddr 56 (.tmp 8) 2, 0, "ref.go:250", #[], none⟩ ?_
                try simp only [Act.put, List.setIfInBounds_toArray, List.set_cons_zero, List.set_cons_succ]
                refine tkT 5 ⟨some 77, .fieldAddr 54 (.tmp 76) 0, 0, "ref.go:250", #[⟨4, .data⟩], none⟩ ?_
                try simp only [Act.put, List.setIfInBounds_toArray, List.set_cons_zero, List.set_cons_succ]
                refine tkT 6 ⟨some 78, .load 3 (.tmp 77), 3, "ref.go:250", #[⟨5, .data⟩], none⟩ ?_
                try simp only [Act.put, List.setIfInBounds_toArray, List.set_cons_zero, List.set_cons_succ]
                refine tkT 7 ⟨some 79, .indexAddr 22 (.tmp 75) (.tmp 78), 0, "ref.go:250", #[⟨3, .data⟩, ⟨6, .data⟩], none⟩ ?_
                try simp only [Act.put, List.setIfInBounds_toArray, List.set_cons_zero, List.set_cons_succ]
                refine tkT 8 ⟨some 80, .load 9 (.tmp 79), 9, "ref.go:250", #[⟨7, .data⟩], none⟩ ?_
                try simp only [Act.put, List.setIfInBounds_toArray, List.set_cons_zero, List.set_cons_succ]
                refine til_one (i := 9) (o := ⟨some 81, .call { callee := Callee.value (Operand.func 53), args := #[.tmp 73, .tmp 80], argTypes := #[22, 9] }, 22, "ref.go:250", #[⟨1, .data⟩, ⟨8, .data⟩], none⟩) (by kernel_rfl) rfl (fun KK hK => ?_)
                go_simp
                go_at_call 53
                (with_reducible refine (CA.out (addB acc e1) _ _ (WA).drew HRDW.out (by have := halA; omega)).mono ?_)
                rintro e wC ⟨⟨v', rfl, hrd, how⟩, hb⟩
                obtain ⟨qaHIC, qcHIC, rfl, _⟩ := hrd.form
                obtain ⟨qlHIC, hlC⟩ : ∃ l, l = (addB (addB acc e1) e2).length := ⟨_, rfl⟩
                rw [← hlC] at hrd how ⊢
                have HJ := Lib.hid (HIA.out.below ((Below.refl _ (WA)).drew.trans hb))
                have g1 := HJ.out.c1
                have gf := HJ.out.f 1
                have ho' : ∀ g, (Value.slice qaHIC qlHIC qcHIC).ownBlock = some g → w.heap.size + 1 < g ∧ g ≠ B := fun g hg => by
                  rcases how g hg with h | h
                  · have h1 : B < (WA).heap.size := cell_lt HIA.out.c0
                    have h2 : (WA).heap.size ≤ g := h
                    omega
                  · exact HIA.out.own g h
                have HIC := Lib.hid (HJ.out.store hrd ho')
                have HOBC := Lib.hid (ob_set (i := 1) (u := .slice qaHIC qlHIC qcHIC) (ob_below HOBA.out ((Below.refl _ (WA)).drew.trans hb)) (Ne.symm (Nat.ne_of_lt hBl)))
                have HSX := Lib.hid (s11_call HS0.out hb)
                clear hrd how hb hlC
                refine hK.out _ _ ?_ (fun hHeld => ?_)
                · exact HSX.out
                clear hK KK
                try simp only [Act.put, List.setIfInBounds_toArray, List.set_cons_zero, List.set_cons_succ]
                refine tkT 10 ⟨some 82, .fieldAddr 25 (.tmp 6) 1, 0, "ref.go:250", #[⟨0, .phase⟩, ⟨1, .phase⟩, ⟨2, .phase⟩, ⟨3, .phase⟩, ⟨4, .phase⟩, ⟨5, .phase⟩, ⟨6, .phase⟩, ⟨7, .phase⟩, ⟨8, .phase⟩, ⟨9, .phase⟩], none⟩ ?_
                try simp only [Act.put, List.setIfInBounds_toArray, List.set_cons_zero, List.set_cons_succ]
                refine til_last (o := ⟨none, .store 22 (.tmp 82) (.tmp 81), 0, "ref.go:250", #[⟨10, .data⟩, ⟨9, .data⟩, ⟨9, .chain⟩, ⟨0, .phase⟩, ⟨1, .phase⟩, ⟨2, .phase⟩, ⟨3, .phase⟩, ⟨4, .phase⟩, ⟨5, .phase⟩, ⟨6, .phase⟩, ⟨7, .phase⟩, ⟨8, .phase⟩, ⟨9, .phase⟩], none⟩) (by kernel_rfl) rfl (by kernel_rfl) (fun KK hK => ?_)
                go_simp
                refine hK.out _ _ ?_
                clear hK KK
                try simp only [Act.put, List.setIfInBounds_toArray, List.set_cons_zero, List.set_cons_succ]
                clear g1 gf gq HRDW HSX HS0 HJ ho'
                obtain ⟨WC, hWC⟩ : ∃ W, wC.setCell ⟨B, 1, none⟩ (.slice qaHIC qlHIC qcHIC) = W := ⟨_, rfl⟩
                rw [hWC] at HIC HOBC ⊢
                clear hWC
                go_wp2_with fail
                exact ⟨⟨k + 1, _, by omega, by go_num, Lib.hid (by rw [HST.out, HE.out]; exact HIC.out)⟩, by simp [intOf]; omega⟩
              · have HE : Hid (addO p.deps acc ⟨2, ⟨((q1 : Nat) : Int), y1⟩, ⟨x2, y2⟩, ls⟩ = addB acc e1) := Lib.hid (by simp [addO, List.getD_eq_getElem?_getD, he1, h2])
                clear hob2
                go_wp2_with fail
                exact ⟨⟨k + 1, _, by omega, by go_num, Lib.hid (by rw [HST.out, HE.out]; exact HIA.out)⟩, by simp [intOf]; omega⟩
            · clear n1
              have hob2 := (HOX.out (by decide)).2 (by decide)
              obtain ⟨f0, f1, f2, f3, f4⟩ := HOBA.out
              by_cases h2 : 0 ≤ x2
              · obtain ⟨q2, rfl⟩ : ∃ q : Nat, x2 = (q : Nat) := ⟨x2.toNat, (Int.toNat_of_nonneg h2).symm⟩
                have hq2 : q2 < m := by rcases hob2 with h | h | h <;> simp only at h <;> omega
                obtain ⟨e2, he2⟩ : ∃ d, p.deps[q2]? = some d := ⟨p.deps[q2]'(by rw [← HDL.out]; exact hq2), by simp⟩
                obtain ⟨b2, o2, hda2, hnl2, hdb2⟩ := HD.out.at he2
                simp only [Option.some.injEq, Addr.mk.injEq, and_true] at hda2
                obtain ⟨rfl, rfl⟩ := hda2
                have hdc2 := hdb2.2 q2 e2 he2
                clear hnl2 hdb2
                have HE : Hid (addO p.deps acc ⟨3, ⟨((q1 : Nat) : Int), y1⟩, ⟨((q2 : Nat) : Int), y2⟩, ls⟩ = addB (addB acc e1) e2) := Lib.hid (by simp [addO, List.getD_eq_getElem?_getD, he1, he2])
                clear hob2
                go_wp2_with fail
                have gq := HIA.out.c1
                have HRDW := Lib.hid (show Reads (WA).drew _ (addB acc e1) from HIA.out.rd)
                have HS0 : Hid (S11 w.heap.size wr.heap.size 3 b1 (o1 + q2) B (.slice (some ⟨b1, o1, none⟩) m dc) ((q2 : Nat)) e2 (.slice qaHIA qlHIA qcHIA) (WA).drew) := Lib.hid ⟨⟨HIA.out.i.p.2.1, HOBA.out.2.2.2.1, (HIA.out.i.b.cell (p := ⟨b1, o1 + q2, none⟩) hbb1).trans hdc2⟩, HIA.out.c1⟩
                refine wp_region_til (S := (fun W => (W.cell? ⟨w.heap.size, 1, none⟩ = some (.slice (some ⟨b1, o1, none⟩) m dc) ∧ W.cell? ⟨wr.heap.size, 3, none⟩ = some (.int .i64 ((q2 : Nat))) ∧ W.cell? ⟨b1, o1 + q2, none⟩ = some (.string e2)) ∧ W.cell? ⟨B, 1, none⟩ = some (.slice qaHIA qlHIA qcHIA))) 11 (by kernel_rfl) ?_ (fun hHeld => ?_)
                · exact HS0.out
                refine tkT 0 ⟨some 72, .fieldAddr 25 (.tmp 6) 1, 0, "ref.go:250", #[], none⟩ ?_
                try simp only [Act.put, List.setIfInBounds_toArray, List.set_cons_zero, List.set_cons_succ]
                refine tkT 1 ⟨some 73, .load 22 (.tmp 72), 22, "ref.go:250", #[⟨0, .data⟩], none⟩ ?_
                try simp only [Act.put, List.setIfInBounds_toArray, List.set_cons_zero, List.set_cons_succ]
                refine tkT 2 ⟨some 74, .fieldAddr 25 (.tmp 1) 1, 0, "ref.go:250", #[], none⟩ ?_
                try simp only [Act.put, List.setIfInBounds_toArray, List.set_cons_zero, List.set_cons_succ]
                refine tkT 3 ⟨some 75, .load 22 (.tmp 74), 22, "ref.go:250", #[⟨2, .data⟩], none⟩ ?_
                try simp only [Act.put, List.setIfInBounds_toArray, List.set_cons_zero, List.set_cons_succ]
                refine tkT 4 ⟨some 76, .fieldAddr 56 (.tmp 8) 2, 0, "ref.go:250", #[], none⟩ ?_
                try simp only [Act.put, List.setIfInBounds_toArray, List.set_cons_zero, List.set_cons_succ]
                refine tkT 5 ⟨some 77, .fieldAddr 54 (.tmp 76) 0, 0, "ref.go:250", #[⟨4, .data⟩], none⟩ ?_
                try simp only [Act.put, List.setIfInBounds_toArray, List.set_cons_zero, List.set_cons_succ]
                refine tkT 6 ⟨some 78, .load 3 (.tmp 77), 3, "ref.go:250", #[⟨5, .data⟩], none⟩ ?_
                try simp only [Act.put, List.setIfInBounds_toArray, List.set_cons_zero, List.set_cons_succ]
                refine tkT 7 ⟨some 79, .indexAddr 22 (.tmp 75) (.tmp 78), 0, "ref.go:250", #[⟨3, .data⟩, ⟨6, .data⟩], none⟩ ?_
                try simp only [Act.put, List.setIfInBounds_toArray, List.set_cons_zero, List.set_cons_succ]
                refine tkT 8 ⟨some 80, .load 9 (.tmp 79), 9, "ref.go:250", #[⟨7, .data⟩], none⟩ ?_
                try simp only [Act.put, List.setIfInBounds_toArray, List.set_cons_zero, List.set_cons_succ]
                refine til_one (i := 9) (o := ⟨some 81, .call { callee := Callee.value (Operand.func 53), args := #[.tmp 73, .tmp 80], argTypes := #[22, 9] }, 22, "ref.go:250", #[⟨1, .data⟩, ⟨8, .data⟩], none⟩) (by kernel_rfl) rfl (fun KK hK => ?_)
                go_simp
                go_at_call 53
                (with_reducible refine (CA.out (addB acc e1) _ _ (WA).drew HRDW.out (by have := halA; omega)).mono ?_)
                rintro e wC ⟨⟨v', rfl, hrd, how⟩, hb⟩
                obtain ⟨qaHIC, qcHIC, rfl, _⟩ := hrd.form
                obtain ⟨qlHIC, hlC⟩ : ∃ l, l = (addB (addB acc e1) e2).length := ⟨_, rfl⟩
                rw [← hlC] at hrd how ⊢
                have HJ := Lib.hid (HIA.out.below ((Below.refl _ (WA)).drew.trans hb))
                have g1 := HJ.out.c1
                have gf := HJ.out.f 1
                have ho' : ∀ g, (Value.slice qaHIC qlHIC qcHIC).ownBlock = some g → w.heap.size + 1 < g ∧ g ≠ B := fun g hg => by
                  rcases how g hg with h | h
                  · have h1 : B < (WA).heap.size := cell_lt HIA.out.c0
                    have h2 : (WA).heap.size ≤ g := h
                    omega
                  · exact HIA.out.own g h
                have HIC := Lib.hid (HJ.out.store hrd ho')
                have HOBC := Lib.hid (ob_set (i := 1) (u := .slice qaHIC qlHIC qcHIC) (ob_below HOBA.out ((Below.refl _ (WA)).drew.trans hb)) (Ne.symm (Nat.ne_of_lt hBl)))
                have HSX := Lib.hid (s11_call HS0.out hb)
                clear hrd how hb hlC
                refine hK.out _ _ ?_ (fun hHeld => ?_)
                · exact HSX.out
                clear hK KK
                try simp only [Act.put, List.setIfInBounds_toArray, List.set_cons_zero, List.set_cons_succ]
                refine tkT 10 ⟨some 82, .fieldAddr 25 (.tmp 6) 1, 0, "ref.go:250", #[⟨0, .phase⟩, ⟨1, .phase⟩, ⟨2, .phase⟩, ⟨3, .phase⟩, ⟨4, .phase⟩, ⟨5, .phase⟩, ⟨6, .phase⟩, ⟨7, .phase⟩, ⟨8, .phase⟩, ⟨9, .phase⟩], none⟩ ?_
                try simp only [Act.put, List.setIfInBounds_toArray, List.set_cons_zero, List.set_cons_succ]
                refine til_last (o := ⟨none, .store 22 (.tmp 82) (.tmp 81), 0, "ref.go:250", #[⟨10, .data⟩, ⟨9, .data⟩, ⟨9, .chain⟩, ⟨0, .phase⟩, ⟨1, .phase⟩, ⟨2, .phase⟩, ⟨3, .phase⟩, ⟨4, .phase⟩, ⟨5, .phase⟩, ⟨6, .phase⟩, ⟨7, .phase⟩, ⟨8, .phase⟩, ⟨9, .phase⟩], none⟩) (by kernel_rfl) rfl (by kernel_rfl) (fun KK hK => ?_)
                go_simp
                refine hK.out _ _ ?_
                clear hK KK
                try simp only [Act.put, List.setIfInBounds_toArray, List.set_cons_zero, List.set_cons_succ]
                clear g1 gf gq HRDW HSX HS0 HJ ho'
                obtain ⟨WC, hWC⟩ : ∃ W, wC.setCell ⟨B, 1, none⟩ (.slice qaHIC qlHIC qcHIC) = W := ⟨_, rfl⟩
                rw [hWC] at HIC HOBC ⊢
                clear hWC
                go_wp2_with fail
                exact ⟨⟨k + 1, _, by omega, by go_num, Lib.hid (by rw [HST.out, HE.out]; exact HIC.out)⟩, by simp [intOf]; omega⟩
              · have HE : Hid (addO p.deps acc ⟨3, ⟨((q1 : Nat) : Int), y1⟩, ⟨x2, y2⟩, ls⟩ = addB acc e1) := Lib.hid (by simp [addO, List.getD_eq_getElem?_getD, he1, h2])
                clear hob2
                go_wp2_with fail
                exact ⟨⟨k + 1, _, by omega, by go_num, Lib.hid (by rw [HST.out, HE.out]; exact HIA.out)⟩, by simp [intOf]; omega⟩
            · clear n1
              have HE : Hid (addO p.deps acc ⟨4, ⟨((q1 : Nat) : Int), y1⟩, ⟨x2, y2⟩, ls⟩ = addB acc e1) := Lib.hid (by simp [addO, List.getD_eq_getElem?_getD, he1])
              obtain ⟨f0, f1, f2, f3, f4⟩ := HOBA.out
              go_wp2_with fail
              exact ⟨⟨k + 1, _, by omega, by go_num, Lib.hid (by rw [HST.out, HE.out]; exact HIA.out)⟩, by simp [intOf]; omega⟩
            · clear n1
              have HE : Hid (addO p.deps acc ⟨5, ⟨((q1 : Nat) : Int), y1⟩, ⟨x2, y2⟩, ls⟩ = addB acc e1) := Lib.hid (by simp [addO, List.getD_eq_getElem?_getD, he1])
              obtain ⟨f0, f1, f2, f3, f4⟩ := HOBA.out
              go_wp2_with fail
              exact ⟨⟨k + 1, _, by omega, by go_num, Lib.hid (by rw [HST.out, HE.out]; exact HIA.out)⟩, by simp [intOf]; omega⟩
          · rcases HKX.out with h | rfl | rfl | rfl | rfl
            · exact absurd h HK1.out
            · clear n1 hoa
              have hob2 := (HOX.out (by decide)).2 (by decide)
              obtain ⟨f0, f1, f2, f3, f4⟩ := HOB.out
              by_cases h2 : 0 ≤ x2
              · obtain ⟨q2, rfl⟩ : ∃ q : Nat, x2 = (q : Nat) := ⟨x2.toNat, (Int.toNat_of_nonneg h2).symm⟩
                have hq2 : q2 < m := by rcases hob2 with h | h | h <;> simp only at h <;> omega
                obtain ⟨e2, he2⟩ : ∃ d, p.deps[q2]? = some d := ⟨p.deps[q2]'(by rw [← HDL.out]; exact hq2), by simp⟩
                obtain ⟨b1, o1, hda, hnl1, hdb1⟩ := HD.out.at he2
                subst hda
                have hdc2 := hdb1.2 q2 e2 he2
                have hbb1 := hdb1.1
                clear hnl1 hdb1
                have HE : Hid (addO p.deps acc ⟨2, ⟨x1, y1⟩, ⟨((q2 : Nat) : Int), y2⟩, ls⟩ = addB (acc) e2) := Lib.hid (by simp [addO, List.getD_eq_getElem?_getD, h1, he2])
                clear hob2
                go_wp2_with fail
                have gq := HI0.out.c1
                have HRDW := Lib.hid (show Reads (wr.alloc (.cells #[.int .i64 2, .int .i64 x1, .int .i64 y1, .int .i64 (q2 : Nat), .int .i64 y2, .slice la N lc] 56)).drew _ (acc) from HI0.out.rd)
                have HS0 : Hid (S11 w.heap.size wr.heap.size 3 b1 (o1 + q2) B (.slice (some ⟨b1, o1, none⟩) m dc) ((q2 : Nat)) e2 (.slice qa ql qc) (wr.alloc (.cells #[.int .i64 2, .int .i64 x1, .int .i64 y1, .int .i64 (q2 : Nat), .int .i64 y2, .slice la N lc] 56)).drew) := Lib.hid ⟨⟨HI0.out.i.p.2.1, HOB.out.2.2.2.1, (HI0.out.i.b.cell (p := ⟨b1, o1 + q2, none⟩) hbb1).trans hdc2⟩, HI0.out.c1⟩
                refine wp_region_til (S := (fun W => (W.cell? ⟨w.heap.size, 1, none⟩ = some (.slice (some ⟨b1, o1, none⟩) m dc) ∧ W.cell? ⟨wr.heap.size, 3, none⟩ = some (.int .i64 ((q2 : Nat))) ∧ W.cell? ⟨b1, o1 + q2, none⟩ = some (.string e2)) ∧ W.cell? ⟨B, 1, none⟩ = some (.slice qa ql qc))) 11 (by kernel_rfl) ?_ (fun hHeld => ?_)
                · exact HS0.out
                refine tkT 0 ⟨some 72, .fieldAddr 25 (.tmp 6) 1, 0, "ref.go:250", #[], none⟩ ?_
                try simp only [Act.put, List.setIfInBounds_toArray, List.set_cons_zero, List.set_cons_succ]
                refine tkT 1 ⟨some 73, .load 22 (.tmp 72), 22, "ref.go:250", #[⟨0, .data⟩], none⟩ ?_
                try simp only [Act.put, List.setIfInBounds_toArray, List.set_cons_zero, List.set_cons_succ]
                refine tkT 2 ⟨some 74, .fieldAddr 25 (.tmp 1) 1, 0, "ref.go:250", #[], none⟩ ?_
                try simp only [Act.put, List.setIfInBounds_toArray, List.set_cons_zero, List.set_cons_succ]
                refine tkT 3 ⟨some 75, .load 22 (.tmp 74), 22, "ref.go:250", #[⟨2, .data⟩], none⟩ ?_
                try simp only [Act.put, List.setIfInBounds_toArray, List.set_cons_zero, List.set_cons_succ]
                refine tkT 4 ⟨some 76, .fieldAddr 56 (.tmp 8) 2, 0, "ref.go:250", #[], none⟩ ?_
                try simp only [Act.put, List.setIfInBounds_toArray, List.set_cons_zero, List.set_cons_succ]
                refine tkT 5 ⟨some 77, .fieldAddr 54 (.tmp 76) 0, 0, "ref.go:250", #[⟨4, .data⟩], none⟩ ?_
                try simp only [Act.put, List.setIfInBounds_toArray, List.set_cons_zero, List.set_cons_succ]
                refine tkT 6 ⟨some 78, .load 3 (.tmp 77), 3, "ref.go:250", #[⟨5, .data⟩], none⟩ ?_
                try simp only [Act.put, List.setIfInBounds_toArray, List.set_cons_zero, List.set_cons_succ]
                refine tkT 7 ⟨some 79, .indexAddr 22 (.tmp 75) (.tmp 78), 0, "ref.go:250", #[⟨3, .data⟩, ⟨6, .data⟩], none⟩ ?_
                try simp only [Act.put, List.setIfInBounds_toArray, List.set_cons_zero, List.set_cons_succ]
                refine tkT 8 ⟨some 80, .load 9 (.tmp 79), 9, "ref.go:250", #[⟨7, .data⟩], none⟩ ?_
                try simp only [Act.put, List.setIfInBounds_toArray, List.set_cons_zero, List.set_cons_succ]
                refine til_one (i := 9) (o := ⟨some 81, .call { callee := Callee.value (Operand.func 53), args := #[.tmp 73, .tmp 80], argTypes := #[22, 9] }, 22, "ref.go:250", #[⟨1, .data⟩, ⟨8, .data⟩], none⟩) (by kernel_rfl) rfl (fun KK hK => ?_)
                go_simp
                go_at_call 53
                (with_reducible refine (CA.out (acc) _ _ (wr.alloc (.cells #[.int .i64 2, .int .i64 x1, .int .i64 y1, .int .i64 (q2 : Nat), .int .i64 y2, .slice la N lc] 56)).drew HRDW.out (by have := hal; omega)).mono ?_)
                rintro e wC ⟨⟨v', rfl, hrd, how⟩, hb⟩
                obtain ⟨qaHIC, qcHIC, rfl, _⟩ := hrd.form
                obtain ⟨qlHIC, hlC⟩ : ∃ l, l = (addB (acc) e2).length := ⟨_, rfl⟩
                rw [← hlC] at hrd how ⊢
                have HJ := Lib.hid (HI0.out.below ((Below.refl _ (wr.alloc (.cells #[.int .i64 2, .int .i64 x1, .int .i64 y1, .int .i64 (q2 : Nat), .int .i64 y2, .slice la N lc] 56))).drew.trans hb))
                have g1 := HJ.out.c1
                have gf := HJ.out.f 1
                have ho' : ∀ g, (Value.slice qaHIC qlHIC qcHIC).ownBlock = some g → w.heap.size + 1 < g ∧ g ≠ B := fun g hg => by
                  rcases how g hg with h | h
                  · have h1 : B < (wr.alloc (.cells #[.int .i64 2, .int .i64 x1, .int .i64 y1, .int .i64 (q2 : Nat), .int .i64 y2, .slice la N lc] 56)).heap.size := cell_lt HI0.out.c0
                    have h2 : (wr.alloc (.cells #[.int .i64 2, .int .i64 x1, .int .i64 y1, .int .i64 (q2 : Nat), .int .i64 y2, .slice la N lc] 56)).heap.size ≤ g := h
                    omega
                  · exact HI0.out.own g h
                have HIC := Lib.hid (HJ.out.store hrd ho')
                have HOBC := Lib.hid (ob_set (i := 1) (u := .slice qaHIC qlHIC qcHIC) (ob_below HOB.out ((Below.refl _ (wr.alloc (.cells #[.int .i64 2, .int .i64 x1, .int .i64 y1, .int .i64 (q2 : Nat), .int .i64 y2, .slice la N lc] 56))).drew.trans hb)) (Ne.symm (Nat.ne_of_lt hBl)))
                have HSX := Lib.hid (s11_call HS0.out hb)
                clear hrd how hb hlC
                refine hK.out _ _ ?_ (fun hHeld => ?_)
                · exact HSX.out
                clear hK KK
                try simp only [Act.put, List.setIfInBounds_toArray, List.set_cons_zero, List.set_cons_succ]
                refine tkT 10 ⟨some 82, .fieldAddr 25 (.tmp 6) 1, 0, "ref.go:250", #[⟨0, .phase⟩, ⟨1, .phase⟩, ⟨2, .phase⟩, ⟨3, .phase⟩, ⟨4, .phase⟩, ⟨5, .phase⟩, ⟨6, .phase⟩, ⟨7, .phase⟩, ⟨8, .phase⟩, ⟨9, .phase⟩], none⟩ ?_
                try simp only [Act.put, List.setIfInBounds_toArray, List.set_cons_zero, List.set_cons_succ]
                refine til_last (o := ⟨none, .store 22 (.tmp 82) (.tmp 81), 0, "ref.go:250", #[⟨10, .data⟩, ⟨9, .data⟩, ⟨9, .chain⟩, ⟨0, .phase⟩, ⟨1, .phase⟩, ⟨2, .phase⟩, ⟨3, .phase⟩, ⟨4, .phase⟩, ⟨5, .phase⟩, ⟨6, .phase⟩, ⟨7, .phase⟩, ⟨8, .phase⟩, ⟨9, .phase⟩], none⟩) (by kernel_rfl) rfl (by kernel_rfl) (fun KK hK => ?_)
                go_simp
                refine hK.out _ _ ?_
                clear hK KK
                try simp only [Act.put, List.setIfInBounds_toArray, List.set_cons_zero, List.set_cons_succ]
                clear g1 gf gq HRDW HSX HS0 HJ ho'
                obtain ⟨WC, hWC⟩ : ∃ W, wC.setCell ⟨B, 1, none⟩ (.slice qaHIC qlHIC qcHIC) = W := ⟨_, rfl⟩
                rw [hWC] at HIC HOBC ⊢
                clear hWC
                go_wp2_with fail
                exact ⟨⟨k + 1, _, by omega, by go_num, Lib.hid (by rw [HST.out, HE.out]; exact HIC.out)⟩, by simp [intOf]; omega⟩
              · have HE : Hid (addO p.deps acc ⟨2, ⟨x1, y1⟩, ⟨x2, y2⟩, ls⟩ = acc) := Lib.hid (by simp [addO, h1, h2])
                clear hob2
                go_wp2_with fail
                exact ⟨⟨k + 1, _, by omega, by go_num, Lib.hid (by rw [HST.out, HE.out]; exact HI0.out)⟩, by simp [intOf]; omega⟩
            · clear n1 hoa
              have hob2 := (HOX.out (by decide)).2 (by decide)
              obtain ⟨f0, f1, f2, f3, f4⟩ := HOB.out
              by_cases h2 : 0 ≤ x2
              · obtain ⟨q2, rfl⟩ : ∃ q : Nat, x2 = (q : Nat) := ⟨x2.toNat, (Int.toNat_of_nonneg h2).symm⟩
                have hq2 : q2 < m := by rcases hob2 with h | h | h <;> simp only at h <;> omega
                obtain ⟨e2, he2⟩ : ∃ d, p.deps[q2]? = some d := ⟨p.deps[q2]'(by rw [← HDL.out]; exact hq2), by simp⟩
                obtain ⟨b1, o1, hda, hnl1, hdb1⟩ := HD.out.at he2
                subst hda
                have hdc2 := hdb1.2 q2 e2 he2
                have hbb1 := hdb1.1
                clear hnl1 hdb1
                have HE : Hid (addO p.deps acc ⟨3, ⟨x1, y1⟩, ⟨((q2 : Nat) : Int), y2⟩, ls⟩ = addB (acc) e2) := Lib.hid (by simp [addO, List.getD_eq_getElem?_getD, h1, he2])
                clear hob2
                go_wp2_with fail
                have gq := HI0.out.c1
                have HRDW := Lib.hid (show Reads (wr.alloc (.cells #[.int .i64 3, .int .i64 x1, .int .i64 y1, .int .i64 (q2 : Nat), .int .i64 y2, .slice la N lc] 56)).drew _ (acc) from HI0.out.rd)
                have HS0 : Hid (S11 w.heap.size wr.heap.size 3 b1 (o1 + q2) B (.slice (some ⟨b1, o1, none⟩) m dc) ((q2 : Nat)) e2 (.slice qa ql qc) (wr.alloc (.cells #[.int .i64 3, .int .i64 x1, .int .i64 y1, .int .i64 (q2 : Nat), .int .i64 y2, .slice la N lc] 56)).drew) := Lib.hid ⟨⟨HI0.out.i.p.2.1, HOB.out.2.2.2.1, (HI0.out.i.b.cell (p := ⟨b1, o1 + q2, none⟩) hbb1).trans hdc2⟩, HI0.out.c1⟩
                refine wp_region_til (S := (fun W => (W.cell? ⟨w.heap.size, 1, none⟩ = some (.slice (some ⟨b1, o1, none⟩) m dc) ∧ W.cell? ⟨wr.heap.size, 3, none⟩ = some (.int .i64 ((q2 : Nat))) ∧ W.cell? ⟨b1, o1 + q2, none⟩ = some (.string e2)) ∧ W.cell? ⟨B, 1, none⟩ = some (.slice qa ql qc))) 11 (by kernel_rfl) ?_ (fun hHeld => ?_)
                · exact HS0.out
                refine tkT 0 ⟨some 72, .fieldAddr 25 (.tmp 6) 1, 0, "ref.go:250", #[], none⟩ ?_
                try simp only [Act.put, List.setIfInBounds_toArray, List.set_cons_zero, List.set_cons_succ]
                refine tkT 1 ⟨some 73, .load 22 (.tmp 72), 22, "ref.go:250", #[⟨0, .data⟩], none⟩ ?_
                try simp only [Act.put, List.setIfInBounds_toArray, List.set_cons_zero, List.set_cons_succ]
                refine tkT 2 ⟨some 74, .fieldAddr 25 (.tmp 1) 1, 0, "ref.go:250", #[], none⟩ ?_
                try simp only [Act.put, List.setIfInBounds_toArray, List.set_cons_zero, List.set_cons_succ]
                refine tkT 3 ⟨some 75, .load 22 (.tmp 74), 22, "ref.go:250", #[⟨2, .data⟩], none⟩ ?_
                try simp only [Act.put, List.setIfInBounds_toArray, List.set_cons_zero, List.set_cons_succ]
                refine tkT 4 ⟨some 76, .fieldAddr 56 (.tmp 8) 2, 0, "ref.go:250", #[], none⟩ ?_
                try simp only [Act.put, List.setIfInBounds_toArray, List.set_cons_zero, List.set_cons_succ]
                refine tkT 5 ⟨some 77, .fieldAddr 54 (.tmp 76) 0, 0, "ref.go:250", #[⟨4, .data⟩], none⟩ ?_
                try simp only [Act.put, List.setIfInBounds_toArray, List.set_cons_zero, List.set_cons_succ]
                refine tkT 6 ⟨some 78, .load 3 (.tmp 77), 3, "ref.go:250", #[⟨5, .data⟩], none⟩ ?_
                try simp only [Act.put, List.setIfInBounds_toArray, List.set_cons_zero, List.set_cons_succ]
                refine tkT 7 ⟨some 79, .indexAddr 22 (.tmp 75) (.tmp 78), 0, "ref.go:250", #[⟨3, .data⟩, ⟨6, .data⟩], none⟩ ?_
                try simp only [Act.put, List.setIfInBounds_toArray, List.set_cons_zero, List.set_cons_succ]
                refine tkT 8 ⟨some 80, .load 9 (.tmp 79), 9, "ref.go:250", #[⟨7, .data⟩], none⟩ ?_
                try simp only [Act.put, List.setIfInBounds_toArray, List.set_cons_zero, List.set_cons_succ]
                refine til_one (i := 9) (o := ⟨some 81, .call { callee := Callee.value (Operand.func 53), args := #[.tmp 73, .tmp 80], argTypes := #[22, 9] }, 22, "ref.go:250", #[⟨1, .data⟩, ⟨8, .data⟩], none⟩) (by kernel_rfl) rfl (fun KK hK => ?_)
                go_simp
                go_at_call 53
                (with_reducible refine (CA.out (acc) _ _ (wr.alloc (.cells #[.int .i64 3, .int .i64 x1, .int .i64 y1, .int .i64 (q2 : Nat), .int .i64 y2, .slice la N lc] 56)).drew HRDW.out (by have := hal; omega)).mono ?_)
                rintro e wC ⟨⟨v', rfl, hrd, how⟩, hb⟩
                obtain ⟨qaHIC, qcHIC, rfl, _⟩ := hrd.form
                obtain ⟨qlHIC, hlC⟩ : ∃ l, l = (addB (acc) e2).length := ⟨_, rfl⟩
                rw [← hlC] at hrd how ⊢
                have HJ := Lib.hid (HI0.out.below ((Below.refl _ (wr.alloc (.cells #[.int .i64 3, .int .i64 x1, .int .i64 y1, .int .i64 (q2 : Nat), .int .i64 y2, .slice la N lc] 56))).drew.trans hb))
                have g1 := HJ.out.c1
                have gf := HJ.out.f 1
                have ho' : ∀ g, (Value.slice qaHIC qlHIC qcHIC).ownBlock = some g → w.heap.size + 1 < g ∧ g ≠ B := fun g hg => by
                  rcases how g hg with h | h
                  · have h1 : B < (wr.alloc (.cells #[.int .i64 3, .int .i64 x1, .int .i64 y1, .int .i64 (q2 : Nat), .int .i64 y2, .slice la N lc] 56)).heap.size := cell_lt HI0.out.c0
                    have h2 : (wr.alloc (.cells #[.int .i64 3, .int .i64 x1, .int .i64 y1, .int .i64 (q2 : Nat), .int .i64 y2, .slice la N lc] 56)).heap.size ≤ g := h
                    omega
                  · exact HI0.out.own g h
                have HIC := Lib.hid (HJ.out.store hrd ho')
                have HOBC := Lib.hid (ob_set (i := 1) (u := .slice qaHIC qlHIC qcHIC) (ob_below HOB.out ((Below.refl _ (wr.alloc (.cells #[.int .i64 3, .int .i64 x1, .int .i64 y1, .int .i64 (q2 : Nat), .int .i64 y2, .slice la N lc] 56))).drew.trans hb)) (Ne.symm (Nat.ne_of_lt hBl)))
                have HSX := Lib.hid (s11_call HS0.out hb)
                clear hrd how hb hlC
                refine hK.out _ _ ?_ (fun hHeld => ?_)
                · exact HSX.out
                clear hK KK
                try simp only [Act.put, List.setIfInBounds_toArray, List.set_cons_zero, List.set_cons_succ]
                refine tkT 10 ⟨some 82, .fieldAddr 25 (.tmp 6) 1, 0, "ref.go:250", #[⟨0, .phase⟩, ⟨1, .phase⟩, ⟨2, .phase⟩, ⟨3, .phase⟩, ⟨4, .phase⟩, ⟨5, .phase⟩, ⟨6, .phase⟩, ⟨7, .phase⟩, ⟨8, .phase⟩, ⟨9, .phase⟩], none⟩ ?_
                try simp only [Act.put, List.setIfInBounds_toArray, List.set_cons_zero, List.set_cons_succ]
                refine til_last (o := ⟨none, .store 22 (.tmp 82) (.tmp 81), 0, "ref.go:250", #[⟨10, .data⟩, ⟨9, .data⟩, ⟨9, .chain⟩, ⟨0, .phase⟩, ⟨1, .phase⟩, ⟨2, .phase⟩, ⟨3, .phase⟩, ⟨4, .phase⟩, ⟨5, .phase⟩, ⟨6, .phase⟩, ⟨7, .phase⟩, ⟨8, .phase⟩, ⟨9, .phase⟩], none⟩) (by kernel_rfl) rfl (by kernel_rfl) (fun KK hK => ?_)
                go_simp
                refine hK.out _ _ ?_
                clear hK KK
                try simp only [Act.put, List.setIfInBounds_toArray, List.set_cons_zero, List.set_cons_succ]
                clear g1 gf gq HRDW HSX HS0 HJ ho'
                obtain ⟨WC, hWC⟩ : ∃ W, wC.setCell ⟨B, 1, none⟩ (.slice qaHIC qlHIC qcHIC) = W := ⟨_, rfl⟩
                rw [hWC] at HIC HOBC ⊢
                clear hWC
                go_wp2_with fail
                exact ⟨⟨k + 1, _, by omega, by go_num, Lib.hid (by rw [HST.out, HE.out]; exact HIC.out)⟩, by simp [intOf]; omega⟩
              · have HE : Hid (addO p.deps acc ⟨3, ⟨x1, y1⟩, ⟨x2, y2⟩, ls⟩ = acc) := Lib.hid (by simp [addO, h1, h2])
                clear hob2
                go_wp2_with fail
                exact ⟨⟨k + 1, _, by omega, by go_num, Lib.hid (by rw [HST.out, HE.out]; exact HI0.out)⟩, by simp [intOf]; omega⟩
            · clear n1 hoa
              have HE : Hid (addO p.deps acc ⟨4, ⟨x1, y1⟩, ⟨x2, y2⟩, ls⟩ = acc) := Lib.hid (by simp [addO, h1])
              obtain ⟨f0, f1, f2, f3, f4⟩ := HOB.out
              go_wp2_with fail
              exact ⟨⟨k + 1, _, by omega, by go_num, Lib.hid (by rw [HST.out, HE.out]; exact HI0.out)⟩, by simp [intOf]; omega⟩
            · clear n1 hoa
              have HE : Hid (addO p.deps acc ⟨5, ⟨x1, y1⟩, ⟨x2, y2⟩, ls⟩ = acc) := Lib.hid (by simp [addO, h1])
              obtain ⟨f0, f1, f2, f3, f4⟩ := HOB.out
              go_wp2_with fail
              exact ⟨⟨k + 1, _, by omega, by go_num, Lib.hid (by rw [HST.out, HE.out]; exact HI0.out)⟩, by simp [intOf]; omega⟩
      · obtain rfl : n = k := by omega
        have hall : (p.ops.take n).foldl (addO p.deps) [nm] = needs := by rw [List.take_of_length_le (by rw [← HN.out]; exact Nat.le_refl _)]; exact HNEED.out
        rw [hall] at HI
        clear hall hlt hk
        obtain ⟨qa, qc, hqv, _⟩ := HI.out.rd.form
        obtain ⟨ql, hql⟩ : ∃ l, l = needs.length := ⟨_, rfl⟩
        rw [← hql] at hqv
        subst hqv
        clear hql
        have g1 := HI.out.c1
        go_wp2_with fail
        refine (CP.out needs _ wr HI.out.rd).mono ?_
        rintro e w2 ⟨rfl, hb⟩
        rw [← HOWN.out]
        have H2 := Lib.hid (HI.out.below hb)
        clear g1 k0 k1 k2 hb HI
        obtain ⟨k0, k1, k2⟩ := H2.out.i.p
        go_wp2_with fail
        refine (CM.out w2 H2.out.i.b).mono ?_
        rintro e w3 ⟨rfl, hb⟩
        have H3 := Lib.hid ((H2.out.below hb).next HNE.out)
        clear hb H2 k0 k1 k2
        obtain ⟨k0, k1, k2⟩ := H3.out.i.p
        obtain ⟨Bo, hBo⟩ : ∃ b, b = w3.heap.size := ⟨_, rfl⟩
        rw [← hBo] at H3
        clear hBo
        obtain ⟨st, hst⟩ : ∃ st : Nat → List Opp × Int, st = fun k => backS p.deps needs nm (M : Nat) p.ops k := ⟨_, rfl⟩
        have hst0 : st 0 = (invI p.deps needs nm 0 p.ops, 0) := by rw [hst]; exact HFOLD.out
        have hstn : st n = ([], (M : Int)) := by rw [hst]; simp only; unfold backS; rw [List.drop_of_length_le (by rw [← HN.out]; exact Nat.le_refl _)]; rfl
        have hsts : ∀ j x, p.ops[j]? = some x → st j = stepI p.deps needs nm (st (j + 1)) x := fun j x h => by rw [hst]; exact backS_step h
        have hstb : ∀ j, (st j).1.length ≤ 301 * (n - j) ∧ (M : Int) - 300 * ((n - j : Nat) : Int) ≤ (st j).2 ∧ (st j).2 ≤ M := fun j => by rw [hst]; exact HSO.out j
        clear hst
        have HST0 := Lib.hid hst0
        have HSTN := Lib.hid hstn
        have HSTS := Lib.hid hsts
        have HSTB := Lib.hid hstb
        clear hst0 hstn hsts hstb
        go_wp2_with fail
        go_loopw [10, 11] (fun nv i W => ∃ (k : Nat) (ov : Value), k ≤ n ∧ (k = 0 ∧ i = .int .i64 (-1) ∨ ∃ j : Nat, k = j + 1 ∧ i = .int .i64 (j : Nat)) ∧ nv = .int .i64 (st k).2 ∧ Hid (RB w (.string t) (.slice da m dc) (.slice oa n oc) B Bo needs (.slice qa ql qc) ov W) ∧ Hid (OutO Bo W ov (st k).1)) (fun _ i _ => (intOf i + 1).toNat)
        case atStart =>
          refine ⟨n, _, Nat.le_refl _, ?_, by rw [HSTN.out], H3, Lib.hid (by rw [HSTN.out]; exact OutO.nil _ _)⟩
          rcases Nat.eq_zero_or_pos n with h | h
          · exact .inl ⟨h, by rw [h]; rfl⟩
          · exact .inr ⟨n - 1, by omega, by congr 1; omega⟩
        case round =>
          obtain ⟨k, ov, hk, hi, rfl, HR, HOO⟩ := hrel
          have kk := HR.out.i.p
          obtain ⟨k0, k1, k2⟩ := kk
          obtain ⟨va, vc, hvv, _, _⟩ := HOO.out.row.form'
          rcases hi with ⟨rfl, rfl⟩ | ⟨j, rfl, rfl⟩
          · have ha1 : (invI p.deps needs nm 0 p.ops) = (st 0).1 := by rw [HST0.out]
            rw [← ha1] at hvv HOO
            clear ha1
            obtain ⟨ol, hol⟩ : ∃ l, l = (invI p.deps needs nm 0 p.ops).length := ⟨_, rfl⟩
            rw [← hol] at hvv
            subst hvv
            clear hol
            have HFO := Lib.hid (HFIN.out Bo wr _ HOO.out)
            have b0 := HR.out.c0
            have b1 := HR.out.c1
            have b2 := HR.out.c2
            go_wp2_with fail
            refine (CR.out _ _ wr HR.out.rd HFO.out).mono ?_
            rintro e w4 ⟨rfl, hb⟩
            have H4 := Lib.hid (HR.out.below hb)
            have HF4 := Lib.hid (HOO.out.below hb)
            clear b0 b1 b2 k0 k1 k2 hb
            obtain ⟨x0, x1, x2⟩ := H4.out.i.r
            have hfz0 := H4.out.i.f 0
            have hfz1 := H4.out.i.f 1
            have hfz2 := H4.out.i.f 2
            cases R with
            | false =>
              obtain ⟨y0, y1, y2⟩ := end3 (of_cellAt x0) (of_cellAt x1) (of_cellAt x2) (.string ⟨#[]⟩) (.slice none 0 0) (.slice none 0 0)
              have HQ := Lib.hid (HP0.out (((w4.setCell ⟨w.heap.size + 1, 0, none⟩ (.string ⟨#[]⟩)).setCell ⟨w.heap.size + 1, 1, none⟩ (.slice none 0 0)).setCell ⟨w.heap.size + 1, 2, none⟩ (.slice none 0 0)) rfl (((H4.out.i.b.setCell (p := ⟨w.heap.size + 1, 0, none⟩) (Nat.le_succ _) _).setCell (p := ⟨w.heap.size + 1, 1, none⟩) (Nat.le_succ _) _).setCell (p := ⟨w.heap.size + 1, 2, none⟩) (Nat.le_succ _) _))
              go_wp2_with fail
              exact bodyPost_ret (v := .tuple #[noPt, .int .i64 2]) (by simp [results, Tryz.results24, go_sem, y0, y1, y2]; rfl) rfl HQ.out
            | true =>
              have b0 := H4.out.c0
              have b1 := H4.out.c1
              have b2 := H4.out.c2
              obtain ⟨y0, y1, y2⟩ := end3 (of_cellAt x0) (of_cellAt x1) (of_cellAt x2) (.string undoB) (.slice qa ql qc) (.slice va ol vc)
              have hoff : Off (fun i => i = w.heap.size + 1) w4 (((w4.setCell ⟨w.heap.size + 1, 0, none⟩ (.string undoB)).setCell ⟨w.heap.size + 1, 1, none⟩ (.slice qa ql qc)).setCell ⟨w.heap.size + 1, 2, none⟩ (.slice va ol vc)) := Off.set3 _ _ _ _ _
              have HQ := Lib.hid (HP1.out _ _ _ rfl (H4.out.rd.offZ hoff (fun g hg e => by have := (H4.out.own g hg).1; omega)) (HFIN.out Bo _ _ (HF4.out.off hoff (fun g hg e => by have h1 := (HF4.out.row.lt g hg).1; have h2 := H4.out.lt; have h3 := H4.out.lo; omega))) (H4.out.i.b.trans (hoff.below (fun i hi => by omega) H4.out.i.b.size)))
              go_wp2_with fail
              exact bodyPost_ret (v := .tuple #[ptV undoB (.slice qa ql qc) (.slice va ol vc), .int .i64 0]) (by simp [results, Tryz.results24, go_sem, y0, y1, y2]) rfl HQ.out
          · obtain ⟨wo, rfl⟩ : ∃ z, z = wr := ⟨wr, rfl⟩
            obtain ⟨x, hx⟩ : ∃ x, p.ops[j]? = some x := ⟨p.ops[j]'(by rw [← HN.out]; omega), by simp⟩
            obtain ⟨b, o, rfl, hnl, hcl⟩ := HO.out.at hx
            clear hnl
            obtain ⟨lv, d0, d1, d2, d3, d4, d5, d6⟩ := (hcl.below HR.out.i.b).2 j x hx
            obtain ⟨la, lc, hlv, _⟩ := d6.form
            obtain ⟨N, hN⟩ : ∃ N, N = x.lines.length := ⟨_, rfl⟩
            rw [← hN] at hlv
            subst hlv
            have hkx := HKS.out x (List.mem_of_getElem? hx)
            have hox := HOK.out x (List.mem_of_getElem? hx)
            have hN3 : N ≤ 300 := by rw [hN]; exact HLL.out x (List.mem_of_getElem? hx)
            have hstx := HSTS.out j x hx
            have hbd := HSTB.out (j + 1)
            obtain ⟨mm, hmm⟩ : ∃ z, z = (st (j + 1)).2 := ⟨_, rfl⟩
            obtain ⟨os, hos⟩ : ∃ z, z = (st (j + 1)).1 := ⟨_, rfl⟩
            have he : st (j + 1) = (os, mm) := by rw [hos, hmm]
            rw [← hmm] at hbd ⊢
            rw [← hos] at hbd hvv HOO
            rw [he] at hstx
            have hm1 : -120400 ≤ mm := by omega
            have hm2 : mm ≤ 300 := by omega
            have hol9 : os.length ≤ 120400 := by omega
            obtain ⟨ol, hol⟩ : ∃ l, l = os.length := ⟨_, rfl⟩
            rw [← hol] at hvv hol9
            subst hvv
            have HOL := Lib.hid hol
            have HSX := Lib.hid hstx
            clear hbd hos hmm he hstx hcl d6 hol
            obtain ⟨K, ⟨x1, y1⟩, ⟨x2, y2⟩, ls⟩ := x
            simp only at d0 d1 d2 d3 d4 hkx hox hN
            have HOX := Lib.hid hox
            have HNL := Lib.hid hN
            clear hox hN hx
            have hwh : w.heap.size + 1 < B := HR.out.lt
            have hBo : B < Bo := HR.out.lo
            have hBs : Bo ≤ wo.heap.size := HR.out.sz
            have hA := (Below.refl wo.heap.size wo).alloc (Nat.le_refl _) (.cells #[.int .i64 K, .int .i64 x1, .int .i64 y1, .int .i64 x2, .int .i64 y2, .slice la N lc] 56)
            have hob : OB5 (wo.alloc (.cells #[.int .i64 K, .int .i64 x1, .int .i64 y1, .int .i64 x2, .int .i64 y2, .slice la N lc] 56)) wo.heap.size K x1 y1 x2 y2 := ⟨World.cell?_alloc_at _ _ _ _ rfl, World.cell?_alloc_at _ _ _ _ rfl, World.cell?_alloc_at _ _ _ _ rfl, World.cell?_alloc_at _ _ _ _ rfl, World.cell?_alloc_at _ _ _ _ rfl⟩
            have hob5 : (wo.alloc (.cells #[.int .i64 K, .int .i64 x1, .int .i64 y1, .int .i64 x2, .int .i64 y2, .slice la N lc] 56)).cell? ⟨wo.heap.size, 5, none⟩ = some (.slice la N lc) := World.cell?_alloc_at _ _ _ _ rfl
            have HR0 := Lib.hid (HR.out.below hA)
            have HO0 := Lib.hid (HOO.out.below hA)
            have hown : ∀ g, (Value.slice va ol vc).ownBlock = some g → g < wo.heap.size := fun g hg => (HOO.out.row.lt g hg).2
            have HOW := Lib.hid hown
            have HOB := Lib.hid hob
            have HOB5 := Lib.hid hob5
            have HKX := Lib.hid hkx
            clear hob hob5 hA hkx hown HR HOO
            by_cases hK1 : K = 1
            · subst hK1
              go_wp2_with fail
              go_loopw [10, 13] (fun nv kv W => ∃ (c : Nat) (u : Int) (os' : List Opp) (ov' : Value), c ≤ N ∧ kv = .int .i64 (c : Nat) ∧ nv = .int .i64 u ∧ (-120700 ≤ u ∧ u ≤ 300) ∧ Hid (u = mm - (c : Nat)) ∧ Hid (os' = os ++ (List.range c).map (fun i => delI needs nm (mm - 1 - (i : Nat)))) ∧ Hid (RB w (.string t) (.slice da m dc) (.slice (some ⟨b, o, none⟩) n oc) B Bo needs (.slice qa ql qc) ov' W) ∧ Hid (OutO Bo W ov' os') ∧ Hid (∀ g, ov'.ownBlock = some g → g ≠ wo.heap.size) ∧ Hid (W.cell? ⟨wo.heap.size, 5, none⟩ = some (.slice la N lc)) ∧ wo.heap.size < W.heap.size) (fun _ i _ => N - (intOf i).toNat)
              case atStart => exact ⟨0, mm, os, _, Nat.zero_le _, rfl, rfl, ⟨by omega, by omega⟩, Lib.hid (by simp), Lib.hid (by simp), HR0, HO0, Lib.hid (fun g hg e => by have := HOW.out g hg; omega), HOB5, by simp⟩
              case round =>
                obtain ⟨c, u, os', ov', hc, rfl, rfl, ⟨hu1, hu2⟩, HU, HOS, HR, HOO, HGO, HL5, hsz⟩ := hrel
                have l5 := HL5.out
                obtain ⟨va', vc', hvv', _, _⟩ := HOO.out.row.form'
                by_cases hcl : c < N
                · have hl9 : os'.length ≤ 120700 := by rw [HOS.out, List.length_append, List.length_map, List.length_range]; have := HOL.out; omega
                  obtain ⟨ol', hol'⟩ : ∃ l, l = os'.length := ⟨_, rfl⟩
                  rw [← hol'] at hvv'
                  subst hvv'
                  have b2 := HR.out.c2
                  obtain ⟨a6, c6, w6, hr6, hoff, hc6, hf6, hRB, hOO, hgo⟩ := rb_push ⟨4, ⟨own, u - 1⟩, ⟨0, 0⟩, []⟩ HR.out HOO.out hol' (by omega) (Below.refl _ _)
                  dsimp only [opCells] at hr6
                  have HRB := Lib.hid hRB
                  have HOU := Lib.hid hOO
                  have HG6 : Hid (∀ g, (Value.slice a6 (ol' + 1) c6).ownBlock = some g → g ≠ wo.heap.size) := Lib.hid (fun g hg e => by
                    rcases hgo g hg with h | h
                    · exact HGO.out g h e
                    · omega)
                  have HL6 : Hid ((w6.setCell ⟨B, 2, none⟩ (.slice a6 (ol' + 1) c6)).cell? ⟨wo.heap.size, 5, none⟩ = some (.slice la N lc)) := Lib.hid (by
                    rw [World.cell?_setCell_other _ _ _ _ (by intro e; injection e with e; omega)]
                    exact (hoff.cell (p := ⟨wo.heap.size, 5, none⟩) hsz (fun z => HGO.out _ z rfl)).trans l5)
                  have HSZ : wo.heap.size < (w6.setCell ⟨B, 2, none⟩ (.slice a6 (ol' + 1) c6)).heap.size := by have := hoff.size; simp [World.setCell]; omega
                  have HOL' := Lib.hid hol'
                  have hfn : c < N → u = mm - (c : Nat) → -120700 ≤ u - 1 := fun h1 h2 => by omega
                  have HFN := Lib.hid hfn
                  clear hRB hOO hgo hoff hol' hfn
                  go_wp2_with fail
                  exact ⟨⟨c + 1, u - 1, os' ++ [⟨4, ⟨own, u - 1⟩, ⟨0, 0⟩, []⟩], _, by omega, by go_num, rfl, ⟨HFN.out hcl HU.out, by omega⟩, Lib.hid (by rw [HU.out]; omega), Lib.hid (by
                    have e : delI needs nm (mm - 1 - (c : Nat)) = ⟨4, ⟨own, u - 1⟩, ⟨0, 0⟩, []⟩ := by unfold delI lineI; rw [HOWN.out, HU.out, show mm - 1 - (c : Int) = mm - (c : Int) - 1 by omega]
                    rw [List.range_succ, List.map_append, ← List.append_assoc, ← HOS.out, List.map_cons, List.map_nil, e]), HRB, HOU, HG6, HL6, HSZ⟩, by simp only [intOf]; omega⟩
                · obtain rfl : N = c := by omega
                  go_wp2_with fail
                  refine ⟨⟨j, ov', by omega, ?_, ?_, HR, Lib.hid ?_⟩, by simp only [intOf]; omega⟩
                  · rcases j with _ | j'
                    · exact .inl ⟨rfl, rfl⟩
                    · exact .inr ⟨j', rfl, by congr 1; omega⟩
                  · rw [HSX.out, HU.out]; unfold stepI; rw [if_pos rfl, ← HNL.out]
                  · have e : (st j).1 = os' := by rw [HSX.out, HOS.out]; unfold stepI; rw [if_pos rfl, ← HNL.out]
                    rw [e]; exact HOO.out
            · have n1 : (K == 1) = false := by simpa using hK1
              have hoa := (HOX.out hK1).1
              obtain ⟨⟨u1, v1⟩, hr1⟩ : ∃ r, r = refI p.deps needs nm ⟨x1, y1⟩ := ⟨_, rfl⟩
              have cta : ∀ wz, Below w.heap.size w wz → Reads wz (.slice qa ql qc) needs → Calls Tryz.prog 54 #[.agg #[.int .i64 x1, .int .i64 y1], .slice da m dc, .slice qa ql qc, .int .i64 own] wz fun e w' => e = .returned (.agg #[.int .i64 u1, .int .i64 v1]) ∧ Below wz.heap.size wz w' := fun wz hz hq => by
                have h := CT.out x1 y1 _ wz hz hq hoa
                rw [← hr1] at h
                exact h
              have CTA := Lib.hid cta
              have HR1 := Lib.hid hr1
              have HK1 := Lib.hid hK1
              have HRD := Lib.hid (HR0.out.below (Below.refl _ (wo.alloc (.cells #[.int .i64 K, .int .i64 x1, .int .i64 y1, .int .i64 x2, .int .i64 y2, .slice la N lc] 56))).drew)
              have HOD := Lib.hid (HO0.out.below (Below.refl _ (wo.alloc (.cells #[.int .i64 K, .int .i64 x1, .int .i64 y1, .int .i64 x2, .int .i64 y2, .slice la N lc] 56))).drew)
              have HST : Hid (S29 w.heap.size wo.heap.size B (.slice da m dc) (.slice qa ql qc) (.slice va ol vc) K x1 y1 x2 y2 (wo.alloc (.cells #[.int .i64 K, .int .i64 x1, .int .i64 y1, .int .i64 x2, .int .i64 y2, .slice la N lc] 56)).drew) := Lib.hid ⟨HR0.out.i.p.2.1, HOB.out, HR0.out.c1, HR0.out.c2⟩
              obtain ⟨b0, b1, b2, b3, b4⟩ := HOB.out
              clear cta hr1 hK1 hoa
              have hKK := HKX.out
              by_cases hK23 : K = 2 ∨ K = 3
              · have hob2 := (HOX.out HK1.out).2 hK23
                obtain ⟨⟨u2, v2⟩, hr2⟩ : ∃ r, r = refI p.deps needs nm ⟨x2, y2⟩ := ⟨_, rfl⟩
                have ctb : ∀ wz, Below w.heap.size w wz → Reads wz (.slice qa ql qc) needs → Calls Tryz.prog 54 #[.agg #[.int .i64 x2, .int .i64 y2], .slice da m dc, .slice qa ql qc, .int .i64 own] wz fun e w' => e = .returned (.agg #[.int .i64 u2, .int .i64 v2]) ∧ Below wz.heap.size wz w' := fun wz hz hq => by
                  have h := CT.out x2 y2 _ wz hz hq hob2
                  rw [← hr2] at h
                  exact h
                have CTB := Lib.hid ctb
                have HR2 := Lib.hid hr2
                clear ctb hr2 hob2 hKK
                rcases hK23 with rfl | rfl
                · go_wp2_with fail
                  refine wp_region_til (S := (fun W => W.cell? ⟨w.heap.size, 1, none⟩ = some (.slice da m dc) ∧ (W.cell? ⟨wo.heap.size, 0, none⟩ = some (.int .i64 2) ∧ W.cell? ⟨wo.heap.size, 1, none⟩ = some (.int .i64 x1) ∧ W.cell? ⟨wo.heap.size, 2, none⟩ = some (.int .i64 y1) ∧ W.cell? ⟨wo.heap.size, 3, none⟩ = some (.int .i64 x2) ∧ W.cell? ⟨wo.heap.size, 4, none⟩ = some (.int .i64 y2)) ∧ W.cell? ⟨B, 1, none⟩ = some (.slice qa ql qc) ∧ W.cell? ⟨B, 2, none⟩ = some (.slice va ol vc))) 25 (by kernel_rfl) ?_ (fun hHeld => ?_)
                  · exact HST.out
                  refine tkT 0 ⟨some 144, .fieldAddr 25 (.tmp 6) 2, 0, "ref.go:264", #[], none⟩ ?_
                  try simp only [Act.put, List.setIfInBounds_toArray, List.set_cons_zero, List.set_cons_succ]
                  refine tkT 1 ⟨some 145, .load 23 (.tmp 144), 23, "ref.go:264", #[⟨0, .data⟩], none⟩ ?_
                  try simp only [Act.put, List.setIfInBounds_toArray, List.set_cons_zero, List.set_cons_succ]
                  refine tkT 2 ⟨some 146, .fieldAddr 56 (.tmp 12) 0, 0, "ref.go:264", #[], none⟩ ?_
                  try simp only [Act.put, List.setIfInBounds_toArray, List.set_cons_zero, List.set_cons_succ]
                  refine tkT 3 ⟨some 147, .load 3 (.tmp 146), 3, "ref.go:264", #[⟨2, .data⟩], none⟩ ?_
                  try simp only [Act.put, List.setIfInBounds_toArray, List.set_cons_zero, List.set_cons_succ]
                  refine tkT 4 ⟨some 148, .binOp BinOp.sub 3 (.const (Value.int IntKind.i64 5)) (.tmp 147) 3, 3, "ref.go:264", #[⟨3, .data⟩], none⟩ ?_
                  try simp only [Act.put, List.setIfInBounds_toArray, List.set_cons_zero, List.set_cons_succ]
                  refine tkT 5 ⟨some 149, .fieldAddr 56 (.tmp 12) 1, 0, "ref.go:264", #[], none⟩ ?_
                  try simp only [Act.put, List.setIfInBounds_toArray, List.set_cons_zero, List.set_cons_succ]
                  refine tkT 6 ⟨some 150, .load 54 (.tmp 149), 54, "ref.go:264", #[⟨5, .data⟩], none⟩ ?_
                  try simp only [Act.put, List.setIfInBounds_toArray, List.set_cons_zero, List.set_cons_succ]
                  refine tkT 7 ⟨some 151, .fieldAddr 25 (.tmp 1) 1, 0, "ref.go:264", #[], none⟩ ?_
                  try simp only [Act.put, List.setIfInBounds_toArray, List.set_cons_zero, List.set_cons_succ]
                  refine tkT 8 ⟨some 152, .load 22 (.tmp 151), 22, "ref.go:264", #[⟨7, .data⟩], none⟩ ?_
                  try simp only [Act.put, List.setIfInBounds_toArray, List.set_cons_zero, List.set_cons_succ]
                  refine tkT 9 ⟨some 153, .fieldAddr 25 (.tmp 6) 1, 0, "ref.go:264", #[], none⟩ ?_
                  try simp only [Act.put, List.setIfInBounds_toArray, List.set_cons_zero, List.set_cons_succ]
                  refine tkT 10 ⟨some 154, .load 22 (.tmp 153), 22, "ref.go:264", #[⟨9, .data⟩], none⟩ ?_
                  try simp only [Act.put, List.setIfInBounds_toArray, List.set_cons_zero, List.set_cons_succ]
                  refine tkT 11 ⟨some 155, .move (.tmp 9), 3, "ref.go:264", #[], none⟩ ?_
                  try simp only [Act.put, List.setIfInBounds_toArray, List.set_cons_zero, List.set_cons_succ]
                  refine tkT 13 ⟨some 157, .fieldAddr 56 (.tmp 12) 2, 0, "ref.go:264", #[], none⟩ ?_
                  try simp only [Act.put, List.setIfInBounds_toArray, List.set_cons_zero, List.set_cons_succ]
                  refine tkT 14 ⟨some 158, .load 54 (.tmp 157), 54, "ref.go:264", #[⟨13, .data⟩], none⟩ ?_
                  try simp only [Act.put, List.setIfInBounds_toArray, List.set_cons_zero, List.set_cons_succ]
                  refine tkT 15 ⟨some 159, .fieldAddr 25 (.tmp 1) 1, 0, "ref.go:264", #[], none⟩ ?_
                  try simp only [Act.put, List.setIfInBounds_toArray, List.set_cons_zero, List.set_cons_succ]
                  refine tkT 16 ⟨some 160, .load 22 (.tmp 159), 22, "ref.go:264", #[⟨15, .data⟩], none⟩ ?_
                  try simp only [Act.put, List.setIfInBounds_toArray, List.set_cons_zero, List.set_cons_succ]
                  refine tkT 17 ⟨some 161, .fieldAddr 25 (.tmp 6) 1, 0, "ref.go:264", #[], none⟩ ?_
                  try simp only [Act.put, List.setIfInBounds_toArray, List.set_cons_zero, List.set_cons_succ]
                  refine tkT 18 ⟨some 162, .load 22 (.tmp 161), 22, "ref.go:264", #[⟨17, .data⟩], none⟩ ?_
                  try simp only [Act.put, List.setIfInBounds_toArray, List.set_cons_zero, List.set_cons_succ]
                  refine tkT 19 ⟨some 163, .move (.tmp 9), 3, "ref.go:264", #[], none⟩ ?_
                  try simp only [Act.put, List.setIfInBounds_toArray, List.set_cons_zero, List.set_cons_succ]
                  refine til_one (i := 12) (o := ⟨some 156, .call { callee := Callee.value (Operand.func 54), args := #[.tmp 150, .tmp 152, .tmp 154, .tmp 155], argTypes := #[54, 22, 22, 3] }, 54, "ref.go:264", #[⟨6, .data⟩, ⟨8, .data⟩, ⟨10, .data⟩, ⟨11, .data⟩], none⟩) (by kernel_rfl) rfl (fun KK hK => ?_)
                  go_simp
                  go_at_call 54
                  (with_reducible refine (CTA.out _ HRD.out.i.b HRD.out.rd).mono ?_)
                  rintro e wA ⟨rfl, hb⟩
                  have HRA := Lib.hid (HRD.out.below hb)
                  have HOA := Lib.hid (HOD.out.below hb)
                  have HSA := Lib.hid (s29_call HST.out hb)
                  clear hb
                  refine hK.out _ _ ?_ (fun hHeld => ?_)
                  · exact HSA.out
                  clear hK KK
                  try simp only [Act.put, List.setIfInBounds_toArray, List.set_cons_zero, List.set_cons_succ]
                  refine til_one (i := 20) (o := ⟨some 164, .call { callee := Callee.value (Operand.func 54), args := #[.tmp 158, .tmp 160, .tmp 162, .tmp 163], argTypes := #[54, 22, 22, 3] }, 54, "ref.go:264", #[⟨14, .data⟩, ⟨16, .data⟩, ⟨18, .data⟩, ⟨19, .data⟩, ⟨12, .chain⟩], none⟩) (by kernel_rfl) rfl (fun KK hK => ?_)
                  go_simp
                  go_at_call 54
                  (with_reducible refine (CTB.out _ HRA.out.i.b HRA.out.rd).mono ?_)
                  rintro e wB ⟨rfl, hb⟩
                  have HRB := Lib.hid (HRA.out.below hb)
                  have HOB := Lib.hid (HOA.out.below hb)
                  have HSB := Lib.hid (s29_call HSA.out hb)
                  clear hb
                  refine hK.out _ _ ?_ (fun hHeld => ?_)
                  · exact HSB.out
                  clear hK KK
                  try simp only [Act.put, List.setIfInBounds_toArray, List.set_cons_zero, List.set_cons_succ]
                  refine tkT 21 ⟨some 165, .build 56 #[(0, .tmp 148), (1, .tmp 156), (2, .tmp 164)], 56, "ref.go:264", #[⟨4, .data⟩, ⟨12, .data⟩, ⟨20, .data⟩], none⟩ ?_
                  try simp only [Act.put, List.setIfInBounds_toArray, List.set_cons_zero, List.set_cons_succ]
                  refine til_one (i := 22) (o := ⟨some 166, .buildSlice 23 1 #[(0, .tmp 165)], 23, "ref.go:264", #[⟨21, .data⟩], none⟩) (by kernel_rfl) rfl (fun KK hK => ?_)
                  go_simp
                  obtain ⟨a6, c6, w6, hr6, hoff, hc6, hf6, hRB, hOO, hgo⟩ := rb_push ⟨3, ⟨u1, v1⟩, ⟨u2, v2⟩, []⟩ HRB.out HOB.out HOL.out.symm.symm (by have := HOL.out; omega) (Below.refl _ _)
                  dsimp only [opCells] at hr6
                  have HR6 := Lib.hid hr6
                  have HRB := Lib.hid hRB
                  have HOU := Lib.hid hOO
                  have HOF := Lib.hid hoff
                  clear hr6 hoff hRB hOO hgo
                  refine hK.out _ _ ?_ (fun hHeld => ?_)
                  · exact s29_call HSB.out ((Below.refl _ _).alloc (Nat.le_refl _) _)
                  clear hK KK
                  try simp only [Act.put, List.setIfInBounds_toArray, List.set_cons_zero, List.set_cons_succ]
                  refine til_one (i := 23) (o := ⟨some 167, .call { callee := Callee.builtin Builtin.append, args := #[.tmp 145, .tmp 166], argTypes := #[23, 23] }, 23, "ref.go:264", #[⟨1, .data⟩, ⟨22, .data⟩, ⟨20, .chain⟩], none⟩) (by kernel_rfl) rfl (fun KK hK => ?_)
                  refine step_append_run rfl (.tmp 145) (.tmp 166) 23 23 rfl (by simp [Act.eval]) (by simp [Act.eval]) HR6.out ?_
                  refine hK.out _ _ ?_ (fun hHeld => ?_)
                  · exact s29_off (s29_call HSB.out (Below.refl _ _)) HOF.out (fun z => by have := (HO0.out.row.lt _ z).1; omega) (fun z => by have := HOW.out _ z; omega) (fun z => by have := (HO0.out.row.lt _ z).1; omega)
                  clear hK KK
                  try simp only [Act.put, List.setIfInBounds_toArray, List.set_cons_zero, List.set_cons_succ]
                  refine tkT 24 ⟨some 168, .fieldAddr 25 (.tmp 6) 2, 0, "ref.go:264", #[⟨0, .phase⟩, ⟨1, .phase⟩, ⟨2, .phase⟩, ⟨3, .phase⟩, ⟨4, .phase⟩, ⟨5, .phase⟩, ⟨6, .phase⟩, ⟨7, .phase⟩, ⟨8, .phase⟩, ⟨9, .phase⟩, ⟨10, .phase⟩, ⟨11, .phase⟩, ⟨12, .phase⟩, ⟨13, .phase⟩, ⟨14, .phase⟩, ⟨15, .phase⟩, ⟨16, .phase⟩, ⟨17, .phase⟩, ⟨18, .phase⟩, ⟨19, .phase⟩, ⟨20, .phase⟩, ⟨21, .phase⟩, ⟨22, .phase⟩, ⟨23, .phase⟩], none⟩ ?_
                  try simp only [Act.put, List.setIfInBounds_toArray, List.set_cons_zero, List.set_cons_succ]
                  refine til_last (o := ⟨none, .store 23 (.tmp 168) (.tmp 167), 0, "ref.go:264", #[⟨24, .data⟩, ⟨23, .data⟩, ⟨23, .chain⟩, ⟨0, .phase⟩, ⟨1, .phase⟩, ⟨2, .phase⟩, ⟨3, .phase⟩, ⟨4, .phase⟩, ⟨5, .phase⟩, ⟨6, .phase⟩, ⟨7, .phase⟩, ⟨8, .phase⟩, ⟨9, .phase⟩, ⟨10, .phase⟩, ⟨11, .phase⟩, ⟨12, .phase⟩, ⟨13, .phase⟩, ⟨14, .phase⟩, ⟨15, .phase⟩, ⟨16, .phase⟩, ⟨17, .phase⟩, ⟨18, .phase⟩, ⟨19, .phase⟩, ⟨20, .phase⟩, ⟨21, .phase⟩, ⟨22, .phase⟩, ⟨23, .phase⟩], none⟩) (by kernel_rfl) rfl (by kernel_rfl) (fun KK hK => ?_)
                  go_simp
                  refine hK.out _ _ ?_
                  clear hK KK
                  try simp only [Act.put, List.setIfInBounds_toArray, List.set_cons_zero, List.set_cons_succ]
                  clear b0 b1 b2 b3 b4 hc6 hf6
                  go_wp2_with fail
                  refine ⟨⟨j, _, by omega, ?_, ?_, HRB, Lib.hid ?_⟩, by simp only [intOf]; omega⟩
                  · rcases j with _ | j'
                    · exact .inl ⟨rfl, rfl⟩
                    · exact .inr ⟨j', rfl, by congr 1; omega⟩
                  · rw [HSX.out]; unfold stepI; rw [if_neg (show ¬ ((2 : Int) = 1) by decide)]
                  · have e : (st j).1 = os ++ [⟨3, ⟨u1, v1⟩, ⟨u2, v2⟩, []⟩] := by rw [HSX.out]; unfold stepI; rw [if_neg (show ¬ ((2 : Int) = 1) by decide)]; show os ++ [opI _ _ _ _] = _; unfold opI; simp [← HR1.out, ← HR2.out]
                    rw [e]; exact HOU.out
                · go_wp2_with fail
                  refine wp_region_til (S := (fun W => W.cell? ⟨w.heap.size, 1, none⟩ = some (.slice da m dc) ∧ (W.cell? ⟨wo.heap.size, 0, none⟩ = some (.int .i64 3) ∧ W.cell? ⟨wo.heap.size, 1, none⟩ = some (.int .i64 x1) ∧ W.cell? ⟨wo.heap.size, 2, none⟩ = some (.int .i64 y1) ∧ W.cell? ⟨wo.heap.size, 3, none⟩ = some (.int .i64 x2) ∧ W.cell? ⟨wo.heap.size, 4, none⟩ = some (.int .i64 y2)) ∧ W.cell? ⟨B, 1, none⟩ = some (.slice qa ql qc) ∧ W.cell? ⟨B, 2, none⟩ = some (.slice va ol vc))) 25 (by kernel_rfl) ?_ (fun hHeld => ?_)
                  · exact HST.out
                  refine tkT 0 ⟨some 144, .fieldAddr 25 (.tmp 6) 2, 0, "ref.go:264", #[], none⟩ ?_
                  try simp only [Act.put, List.setIfInBounds_toArray, List.set_cons_zero, List.set_cons_succ]
                  refine tkT 1 ⟨some 145, .load 23 (.tmp 144), 23, "ref.go:264", #[⟨0, .data⟩], none⟩ ?_
                  try simp only [Act.put, List.setIfInBounds_toArray, List.set_cons_zero, List.set_cons_succ]
                  refine tkT 2 ⟨some 146, .fieldAddr 56 (.tmp 12) 0, 0, "ref.go:264", #[], none⟩ ?_
                  try simp only [Act.put, List.setIfInBounds_toArray, List.set_cons_zero, List.set_cons_succ]
                  refine tkT 3 ⟨some 147, .load 3 (.tmp 146), 3, "ref.go:264", #[⟨2, .data⟩], none⟩ ?_
                  try simp only [Act.put, List.setIfInBounds_toArray, List.set_cons_zero, List.set_cons_succ]
                  refine tkT 4 ⟨some 148, .binOp BinOp.sub 3 (.const (Value.int IntKind.i64 5)) (.tmp 147) 3, 3, "ref.go:264", #[⟨3, .data⟩], none⟩ ?_
                  try simp only [Act.put, List.setIfInBounds_toArray, List.set_cons_zero, List.set_cons_succ]
                  refine tkT 5 ⟨some 149, .fieldAddr 56 (.tmp 12) 1, 0, "ref.go:264", #[], none⟩ ?_
                  try simp only [Act.put, List.setIfInBounds_toArray, List.set_cons_zero, List.set_cons_succ]
                  refine tkT 6 ⟨some 150, .load 54 (.tmp 149), 54, "ref.go:264", #[⟨5, .data⟩], none⟩ ?_
                  try simp only [Act.put, List.setIfInBounds_toArray, List.set_cons_zero, List.set_cons_succ]
                  refine tkT 7 ⟨some 151, .fieldAddr 25 (.tmp 1) 1, 0, "ref.go:264", #[], none⟩ ?_
                  try simp only [Act.put, List.setIfInBounds_toArray, List.set_cons_zero, List.set_cons_succ]
                  refine tkT 8 ⟨some 152, .load 22 (.tmp 151), 22, "ref.go:264", #[⟨7, .data⟩], none⟩ ?_
                  try simp only [Act.put, List.setIfInBounds_toArray, List.set_cons_zero, List.set_cons_succ]
                  refine tkT 9 ⟨some 153, .fieldAddr 25 (.tmp 6) 1, 0, "ref.go:264", #[], none⟩ ?_
                  try simp only [Act.put, List.setIfInBounds_toArray, List.set_cons_zero, List.set_cons_succ]
                  refine tkT 10 ⟨some 154, .load 22 (.tmp 153), 22, "ref.go:264", #[⟨9, .data⟩], none⟩ ?_
                  try simp only [Act.put, List.setIfInBounds_toArray, List.set_cons_zero, List.set_cons_succ]
                  refine tkT 11 ⟨some 155, .move (.tmp 9), 3, "ref.go:264", #[], none⟩ ?_
                  try simp only [Act.put, List.setIfInBounds_toArray, List.set_cons_zero, List.set_cons_succ]
                  refine tkT 13 ⟨some 157, .fieldAddr 56 (.tmp 12) 2, 0, "ref.go:264", #[], none⟩ ?_
                  try simp only [Act.put, List.setIfInBounds_toArray, List.set_cons_zero, List.set_cons_succ]
                  refine tkT 14 ⟨some 158, .load 54 (.tmp 157), 54, "ref.go:264", #[⟨13, .data⟩], none⟩ ?_
                  try simp only [Act.put, List.setIfInBounds_toArray, List.set_cons_zero, List.set_cons_succ]
                  refine tkT 15 ⟨some 159, .fieldAddr 25 (.tmp 1) 1, 0, "ref.go:264", #[], none⟩ ?_
                  try simp only [Act.put, List.setIfInBounds_toArray, List.set_cons_zero, List.set_cons_succ]
                  refine tkT 16 ⟨some 160, .load 22 (.tmp 159), 22, "ref.go:264", #[⟨15, .data⟩], none⟩ ?_
                  try simp only [Act.put, List.setIfInBounds_toArray, List.set_cons_zero, List.set_cons_succ]
                  refine tkT 17 ⟨some 161, .fieldAddr 25 (.tmp 6) 1, 0, "ref.go:264", #[], none⟩ ?_
                  try simp only [Act.put, List.setIfInBounds_toArray, List.set_cons_zero, List.set_cons_succ]
                  refine tkT 18 ⟨some 162, .load 22 (.tmp 161), 22, "ref.go:264", #[⟨17, .data⟩], none⟩ ?_
                  try simp only [Act.put, List.setIfInBounds_toArray, List.set_cons_zero, List.set_cons_succ]
                  refine tkT 19 ⟨some 163, .move (.tmp 9), 3, "ref.go:264", #[], none⟩ ?_
                  try simp only [Act.put, List.setIfInBounds_toArray, List.set_cons_zero, List.set_cons_succ]
                  refine til_one (i := 12) (o := ⟨some 156, .call { callee := Callee.value (Operand.func 54), args := #[.tmp 150, .tmp 152, .tmp 154, .tmp 155], argTypes := #[54, 22, 22, 3] }, 54, "ref.go:264", #[⟨6, .data⟩, ⟨8, .data⟩, ⟨10, .data⟩, ⟨11, .data⟩], none⟩) (by kernel_rfl) rfl (fun KK hK => ?_)
                  go_simp
                  go_at_call 54
                  (with_reducible refine (CTA.out _ HRD.out.i.b HRD.out.rd).mono ?_)
                  rintro e wA ⟨rfl, hb⟩
                  have HRA := Lib.hid (HRD.out.below hb)
                  have HOA := Lib.hid (HOD.out.below hb)
                  have HSA := Lib.hid (s29_call HST.out hb)
                  clear hb
                  refine hK.out _ _ ?_ (fun hHeld => ?_)
                  · exact HSA.out
                  clear hK KK
                  try simp only [Act.put, List.setIfInBounds_toArray, List.set_cons_zero, List.set_cons_succ]
                  refine til_one (i := 20) (o := ⟨some 164, .call { callee := Callee.value (Operand.func 54), args := #[.tmp 158, .tmp 160, .tmp 162, .tmp 163], argTypes := #[54, 22, 22, 3] }, 54, "ref.go:264", #[⟨14, .data⟩, ⟨16, .data⟩, ⟨18, .data⟩, ⟨19, .data⟩, ⟨12, .chain⟩], none⟩) (by kernel_rfl) rfl (fun KK hK => ?_)
                  go_simp
                  go_at_call 54
                  (with_reducible refine (CTB.out _ HRA.out.i.b HRA.out.rd).mono ?_)
                  rintro e wB ⟨rfl, hb⟩
                  have HRB := Lib.hid (HRA.out.below hb)
                  have HOB := Lib.hid (HOA.out.below hb)
                  have HSB := Lib.hid (s29_call HSA.out hb)
                  clear hb
                  refine hK.out _ _ ?_ (fun hHeld => ?_)
                  · exact HSB.out
                  clear hK KK
                  try simp only [Act.put, List.setIfInBounds_toArray, List.set_cons_zero, List.set_cons_succ]
                  refine tkT 21 ⟨some 165, .build 56 #[(0, .tmp 148), (1, .tmp 156), (2, .tmp 164)], 56, "ref.go:264", #[⟨4, .data⟩, ⟨12, .data⟩, ⟨20, .data⟩], none⟩ ?_
                  try simp only [Act.put, List.setIfInBounds_toArray, List.set_cons_zero, List.set_cons_succ]
                  refine til_one (i := 22) (o := ⟨some 166, .buildSlice 23 1 #[(0, .tmp 165)], 23, "ref.go:264", #[⟨21, .data⟩], none⟩) (by kernel_rfl) rfl (fun KK hK => ?_)
                  go_simp
                  obtain ⟨a6, c6, w6, hr6, hoff, hc6, hf6, hRB, hOO, hgo⟩ := rb_push ⟨2, ⟨u1, v1⟩, ⟨u2, v2⟩, []⟩ HRB.out HOB.out HOL.out.symm.symm (by have := HOL.out; omega) (Below.refl _ _)
                  dsimp only [opCells] at hr6
                  have HR6 := Lib.hid hr6
                  have HRB := Lib.hid hRB
                  have HOU := Lib.hid hOO
                  have HOF := Lib.hid hoff
                  clear hr6 hoff hRB hOO hgo
                  refine hK.out _ _ ?_ (fun hHeld => ?_)
                  · exact s29_call HSB.out ((Below.refl _ _).alloc (Nat.le_refl _) _)
                  clear hK KK
                  try simp only [Act.put, List.setIfInBounds_toArray, List.set_cons_zero, List.set_cons_succ]
                  refine til_one (i := 23) (o := ⟨some 167, .call { callee := Callee.builtin Builtin.append, args := #[.tmp 145, .tmp 166], argTypes := #[23, 23] }, 23, "ref.go:264", #[⟨1, .data⟩, ⟨22, .data⟩, ⟨20, .chain⟩], none⟩) (by kernel_rfl) rfl (fun KK hK => ?_)
                  refine step_append_run rfl (.tmp 145) (.tmp 166) 23 23 rfl (by simp [Act.eval]) (by simp [Act.eval]) HR6.out ?_
                  refine hK.out _ _ ?_ (fun hHeld => ?_)
                  · exact s29_off (s29_call HSB.out (Below.refl _ _)) HOF.out (fun z => by have := (HO0.out.row.lt _ z).1; omega) (fun z => by have := HOW.out _ z; omega) (fun z => by have := (HO0.out.row.lt _ z).1; omega)
                  clear hK KK
                  try simp only [Act.put, List.setIfInBounds_toArray, List.set_cons_zero, List.set_cons_succ]
                  refine tkT 24 ⟨some 168, .fieldAddr 25 (.tmp 6) 2, 0, "ref.go:264", #[⟨0, .phase⟩, ⟨1, .phase⟩, ⟨2, .phase⟩, ⟨3, .phase⟩, ⟨4, .phase⟩, ⟨5, .phase⟩, ⟨6, .phase⟩, ⟨7, .phase⟩, ⟨8, .phase⟩, ⟨9, .phase⟩, ⟨10, .phase⟩, ⟨11, .phase⟩, ⟨12, .phase⟩, ⟨13, .phase⟩, ⟨14, .phase⟩, ⟨15, .phase⟩, ⟨16, .phase⟩, ⟨17, .phase⟩, ⟨18, .phase⟩, ⟨19, .phase⟩, ⟨20, .phase⟩, ⟨21, .phase⟩, ⟨22, .phase⟩, ⟨23, .phase⟩], none⟩ ?_
                  try simp only [Act.put, List.setIfInBounds_toArray, List.set_cons_zero, List.set_cons_succ]
                  refine til_last (o := ⟨none, .store 23 (.tmp 168) (.tmp 167), 0, "ref.go:264", #[⟨24, .data⟩, ⟨23, .data⟩, ⟨23, .chain⟩, ⟨0, .phase⟩, ⟨1, .phase⟩, ⟨2, .phase⟩, ⟨3, .phase⟩, ⟨4, .phase⟩, ⟨5, .phase⟩, ⟨6, .phase⟩, ⟨7, .phase⟩, ⟨8, .phase⟩, ⟨9, .phase⟩, ⟨10, .phase⟩, ⟨11, .phase⟩, ⟨12, .phase⟩, ⟨13, .phase⟩, ⟨14, .phase⟩, ⟨15, .phase⟩, ⟨16, .phase⟩, ⟨17, .phase⟩, ⟨18, .phase⟩, ⟨19, .phase⟩, ⟨20, .phase⟩, ⟨21, .phase⟩, ⟨22, .phase⟩, ⟨23, .phase⟩], none⟩) (by kernel_rfl) rfl (by kernel_rfl) (fun KK hK => ?_)
                  go_simp
                  refine hK.out _ _ ?_
                  clear hK KK
                  try simp only [Act.put, List.setIfInBounds_toArray, List.set_cons_zero, List.set_cons_succ]
                  clear b0 b1 b2 b3 b4 hc6 hf6
                  go_wp2_with fail
                  refine ⟨⟨j, _, by omega, ?_, ?_, HRB, Lib.hid ?_⟩, by simp only [intOf]; omega⟩
                  · rcases j with _ | j'
                    · exact .inl ⟨rfl, rfl⟩
                    · exact .inr ⟨j', rfl, by congr 1; omega⟩
                  · rw [HSX.out]; unfold stepI; rw [if_neg (show ¬ ((3 : Int) = 1) by decide)]
                  · have e : (st j).1 = os ++ [⟨2, ⟨u1, v1⟩, ⟨u2, v2⟩, []⟩] := by rw [HSX.out]; unfold stepI; rw [if_neg (show ¬ ((3 : Int) = 1) by decide)]; show os ++ [opI _ _ _ _] = _; unfold opI; simp [← HR1.out, ← HR2.out]
                    rw [e]; exact HOU.out
              · have n2 : (K == 2) = false := by simp; omega
                have n3 : (K == 3) = false := by simp; omega
                have hkk : K = 4 ∨ K = 5 := by have := HK1.out; omega
                have HKK := Lib.hid hkk
                clear hKK hK23 hkk
                rcases HKK.out with rfl | rfl
                · clear n1 n2 n3
                  go_wp2_with fail
                  refine wp_region_til (S := (fun W => W.cell? ⟨w.heap.size, 1, none⟩ = some (.slice da m dc) ∧ (W.cell? ⟨wo.heap.size, 0, none⟩ = some (.int .i64 4) ∧ W.cell? ⟨wo.heap.size, 1, none⟩ = some (.int .i64 x1) ∧ W.cell? ⟨wo.heap.size, 2, none⟩ = some (.int .i64 y1) ∧ W.cell? ⟨wo.heap.size, 3, none⟩ = some (.int .i64 x2) ∧ W.cell? ⟨wo.heap.size, 4, none⟩ = some (.int .i64 y2)) ∧ W.cell? ⟨B, 1, none⟩ = some (.slice qa ql qc) ∧ W.cell? ⟨B, 2, none⟩ = some (.slice va ol vc))) 17 (by kernel_rfl) ?_ (fun hHeld => ?_)
                  · exact HST.out
                  refine tkT 0 ⟨some 104, .fieldAddr 25 (.tmp 6) 2, 0, "ref.go:266", #[], none⟩ ?_
                  try simp only [Act.put, List.setIfInBounds_toArray, List.set_cons_zero, List.set_cons_succ]
                  refine tkT 1 ⟨some 105, .load 23 (.tmp 104), 23, "ref.go:266", #[⟨0, .data⟩], none⟩ ?_
                  try simp only [Act.put, List.setIfInBounds_toArray, List.set_cons_zero, List.set_cons_succ]
                  refine tkT 2 ⟨some 106, .fieldAddr 56 (.tmp 12) 0, 0, "ref.go:266", #[], none⟩ ?_
                  try simp only [Act.put, List.setIfInBounds_toArray, List.set_cons_zero, List.set_cons_succ]
                  refine tkT 3 ⟨some 107, .load 3 (.tmp 106), 3, "ref.go:266", #[⟨2, .data⟩], none⟩ ?_
                  try simp only [Act.put, List.setIfInBounds_toArray, List.set_cons_zero, List.set_cons_succ]
                  refine tkT 4 ⟨some 108, .binOp BinOp.sub 3 (.const (Value.int IntKind.i64 9)) (.tmp 107) 3, 3, "ref.go:266", #[⟨3, .data⟩], none⟩ ?_
                  try simp only [Act.put, List.setIfInBounds_toArray, List.set_cons_zero, List.set_cons_succ]
                  refine tkT 5 ⟨some 109, .fieldAddr 56 (.tmp 12) 1, 0, "ref.go:266", #[], none⟩ ?_
                  try simp only [Act.put, List.setIfInBounds_toArray, List.set_cons_zero, List.set_cons_succ]
                  refine tkT 6 ⟨some 110, .load 54 (.tmp 109), 54, "ref.go:266", #[⟨5, .data⟩], none⟩ ?_
                  try simp only [Act.put, List.setIfInBounds_toArray, List.set_cons_zero, List.set_cons_succ]
                  refine tkT 7 ⟨some 111, .fieldAddr 25 (.tmp 1) 1, 0, "ref.go:266", #[], none⟩ ?_
                  try simp only [Act.put, List.setIfInBounds_toArray, List.set_cons_zero, List.set_cons_succ]
                  refine tkT 8 ⟨some 112, .load 22 (.tmp 111), 22, "ref.go:266", #[⟨7, .data⟩], none⟩ ?_
                  try simp only [Act.put, List.setIfInBounds_toArray, List.set_cons_zero, List.set_cons_succ]
                  refine tkT 9 ⟨some 113, .fieldAddr 25 (.tmp 6) 1, 0, "ref.go:266", #[], none⟩ ?_
                  try simp only [Act.put, List.setIfInBounds_toArray, List.set_cons_zero, List.set_cons_succ]
                  refine tkT 10 ⟨some 114, .load 22 (.tmp 113), 22, "ref.go:266", #[⟨9, .data⟩], none⟩ ?_
                  try simp only [Act.put, List.setIfInBounds_toArray, List.set_cons_zero, List.set_cons_succ]
                  refine tkT 11 ⟨some 115, .move (.tmp 9), 3, "ref.go:266", #[], none⟩ ?_
                  try simp only [Act.put, List.setIfInBounds_toArray, List.set_cons_zero, List.set_cons_succ]
                  refine til_one (i := 12) (o := ⟨some 116, .call { callee := Callee.value (Operand.func 54), args := #[.tmp 110, .tmp 112, .tmp 114, .tmp 115], argTypes := #[54, 22, 22, 3] }, 54, "ref.go:266", #[⟨6, .data⟩, ⟨8, .data⟩, ⟨10, .data⟩, ⟨11, .data⟩], none⟩) (by kernel_rfl) rfl (fun KK hK => ?_)
                  go_simp
                  go_at_call 54
                  (with_reducible refine (CTA.out _ HRD.out.i.b HRD.out.rd).mono ?_)
                  rintro e wA ⟨rfl, hb⟩
                  have HRA := Lib.hid (HRD.out.below hb)
                  have HOA := Lib.hid (HOD.out.below hb)
                  have HSA := Lib.hid (s29_call HST.out hb)
                  clear hb
                  refine hK.out _ _ ?_ (fun hHeld => ?_)
                  · exact HSA.out
                  clear hK KK
                  try simp only [Act.put, List.setIfInBounds_toArray, List.set_cons_zero, List.set_cons_succ]
                  refine tkT 13 ⟨some 117, .build 56 #[(0, .tmp 108), (1, .tmp 116)], 56, "ref.go:266", #[⟨4, .data⟩, ⟨12, .data⟩], none⟩ ?_
                  try simp only [Act.put, List.setIfInBounds_toArray, List.set_cons_zero, List.set_cons_succ]
                  refine til_one (i := 14) (o := ⟨some 118, .buildSlice 23 1 #[(0, .tmp 117)], 23, "ref.go:266", #[⟨13, .data⟩], none⟩) (by kernel_rfl) rfl (fun KK hK => ?_)
                  go_simp
                  obtain ⟨a6, c6, w6, hr6, hoff, hc6, hf6, hRB, hOO, hgo⟩ := rb_push ⟨5, ⟨u1, v1⟩, ⟨0, 0⟩, []⟩ HRA.out HOA.out HOL.out.symm.symm (by have := HOL.out; omega) (Below.refl _ _)
                  dsimp only [opCells] at hr6
                  have HR6 := Lib.hid hr6
                  have HRB := Lib.hid hRB
                  have HOU := Lib.hid hOO
                  have HOF := Lib.hid hoff
                  clear hr6 hoff hRB hOO hgo
                  refine hK.out _ _ ?_ (fun hHeld => ?_)
                  · exact s29_call HSA.out ((Below.refl _ _).alloc (Nat.le_refl _) _)
                  clear hK KK
                  try simp only [Act.put, List.setIfInBounds_toArray, List.set_cons_zero, List.set_cons_succ]
                  refine til_one (i := 15) (o := ⟨some 119, .call { callee := Callee.builtin Builtin.append, args := #[.tmp 105, .tmp 118], argTypes := #[23, 23] }, 23, "ref.go:266", #[⟨1, .data⟩, ⟨14, .data⟩, ⟨12, .chain⟩], none⟩) (by kernel_rfl) rfl (fun KK hK => ?_)
                  refine step_append_run rfl (.tmp 105) (.tmp 118) 23 23 rfl (by simp [Act.eval]) (by simp [Act.eval]) HR6.out ?_
                  refine hK.out _ _ ?_ (fun hHeld => ?_)
                  · exact s29_off (s29_call HSA.out (Below.refl _ _)) HOF.out (fun z => by have := (HO0.out.row.lt _ z).1; omega) (fun z => by have := HOW.out _ z; omega) (fun z => by have := (HO0.out.row.lt _ z).1; omega)
                  clear hK KK
                  try simp only [Act.put, List.setIfInBounds_toArray, List.set_cons_zero, List.set_cons_succ]
                  refine tkT 16 ⟨some 120, .fieldAddr 25 (.tmp 6) 2, 0, "ref.go:266", #[⟨0, .phase⟩, ⟨1, .phase⟩, ⟨2, .phase⟩, ⟨3, .phase⟩, ⟨4, .phase⟩, ⟨5, .phase⟩, ⟨6, .phase⟩, ⟨7, .phase⟩, ⟨8, .phase⟩, ⟨9, .phase⟩, ⟨10, .phase⟩, ⟨11, .phase⟩, ⟨12, .phase⟩, ⟨13, .phase⟩, ⟨14, .phase⟩, ⟨15, .phase⟩], none⟩ ?_
                  try simp only [Act.put, List.setIfInBounds_toArray, List.set_cons_zero, List.set_cons_succ]
                  refine til_last (o := ⟨none, .store 23 (.tmp 120) (.tmp 119), 0, "ref.go:266", #[⟨16, .data⟩, ⟨15, .data⟩, ⟨15, .chain⟩, ⟨0, .phase⟩, ⟨1, .phase⟩, ⟨2, .phase⟩, ⟨3, .phase⟩, ⟨4, .phase⟩, ⟨5, .phase⟩, ⟨6, .phase⟩, ⟨7, .phase⟩, ⟨8, .phase⟩, ⟨9, .phase⟩, ⟨10, .phase⟩, ⟨11, .phase⟩, ⟨12, .phase⟩, ⟨13, .phase⟩, ⟨14, .phase⟩, ⟨15, .phase⟩], none⟩) (by kernel_rfl) rfl (by kernel_rfl) (fun KK hK => ?_)
                  go_simp
                  refine hK.out _ _ ?_
                  clear hK KK
                  try simp only [Act.put, List.setIfInBounds_toArray, List.set_cons_zero, List.set_cons_succ]
                  clear b0 b1 b2 b3 b4 hc6 hf6
                  go_wp2_with fail
                  refine ⟨⟨j, _, by omega, ?_, ?_, HRB, Lib.hid ?_⟩, by simp only [intOf]; omega⟩
                  · rcases j with _ | j'
                    · exact .inl ⟨rfl, rfl⟩
                    · exact .inr ⟨j', rfl, by congr 1; omega⟩
                  · rw [HSX.out]; unfold stepI; rw [if_neg (show ¬ ((4 : Int) = 1) by decide)]
                  · have e : (st j).1 = os ++ [⟨5, ⟨u1, v1⟩, ⟨0, 0⟩, []⟩] := by rw [HSX.out]; unfold stepI; rw [if_neg (show ¬ ((4 : Int) = 1) by decide)]; show os ++ [opI _ _ _ _] = _; unfold opI; simp [← HR1.out]
                    rw [e]; exact HOU.out
                · clear n1 n2 n3
                  go_wp2_with fail
                  refine wp_region_til (S := (fun W => W.cell? ⟨w.heap.size, 1, none⟩ = some (.slice da m dc) ∧ (W.cell? ⟨wo.heap.size, 0, none⟩ = some (.int .i64 5) ∧ W.cell? ⟨wo.heap.size, 1, none⟩ = some (.int .i64 x1) ∧ W.cell? ⟨wo.heap.size, 2, none⟩ = some (.int .i64 y1) ∧ W.cell? ⟨wo.heap.size, 3, none⟩ = some (.int .i64 x2) ∧ W.cell? ⟨wo.heap.size, 4, none⟩ = some (.int .i64 y2)) ∧ W.cell? ⟨B, 1, none⟩ = some (.slice qa ql qc) ∧ W.cell? ⟨B, 2, none⟩ = some (.slice va ol vc))) 17 (by kernel_rfl) ?_ (fun hHeld => ?_)
                  · exact HST.out
                  refine tkT 0 ⟨some 104, .fieldAddr 25 (.tmp 6) 2, 0, "ref.go:266", #[], none⟩ ?_
                  try simp only [Act.put, List.setIfInBounds_toArray, List.set_cons_zero, List.set_cons_succ]
                  refine tkT 1 ⟨some 105, .load 23 (.tmp 104), 23, "ref.go:266", #[⟨0, .data⟩], none⟩ ?_
                  try simp only [Act.put, List.setIfInBounds_toArray, List.set_cons_zero, List.set_cons_succ]
                  refine tkT 2 ⟨some 106, .fieldAddr 56 (.tmp 12) 0, 0, "ref.go:266", #[], none⟩ ?_
                  try simp only [Act.put, List.setIfInBounds_toArray, List.set_cons_zero, List.set_cons_succ]
                  refine tkT 3 ⟨some 107, .load 3 (.tmp 106), 3, "ref.go:266", #[⟨2, .data⟩], none⟩ ?_
                  try simp only [Act.put, List.setIfInBounds_toArray, List.set_cons_zero, List.set_cons_succ]
                  refine tkT 4 ⟨some 108, .binOp BinOp.sub 3 (.const (Value.int IntKind.i64 9)) (.tmp 107) 3, 3, "ref.go:266", #[⟨3, .data⟩], none⟩ ?_
                  try simp only [Act.put, List.setIfInBounds_toArray, List.set_cons_zero, List.set_cons_succ]
                  refine tkT 5 ⟨some 109, .fieldAddr 56 (.tmp 12) 1, 0, "ref.go:266", #[], none⟩ ?_
                  try simp only [Act.put, List.setIfInBounds_toArray, List.set_cons_zero, List.set_cons_succ]
                  refine tkT 6 ⟨some 110, .load 54 (.tmp 109), 54, "ref.go:266", #[⟨5, .data⟩], none⟩ ?_
                  try simp only [Act.put, List.setIfInBounds_toArray, List.set_cons_zero, List.set_cons_succ]
                  refine tkT 7 ⟨some 111, .fieldAddr 25 (.tmp 1) 1, 0, "ref.go:266", #[], none⟩ ?_
                  try simp only [Act.put, List.setIfInBounds_toArray, List.set_cons_zero, List.set_cons_succ]
                  refine tkT 8 ⟨some 112, .load 22 (.tmp 111), 22, "ref.go:266", #[⟨7, .data⟩], none⟩ ?_
                  try simp only [Act.put, List.setIfInBounds_toArray, List.set_cons_zero, List.set_cons_succ]
                  refine tkT 9 ⟨some 113, .fieldAddr 25 (.tmp 6) 1, 0, "ref.go:266", #[], none⟩ ?_
                  try simp only [Act.put, List.setIfInBounds_toArray, List.set_cons_zero, List.set_cons_succ]
                  refine tkT 10 ⟨some 114, .load 22 (.tmp 113), 22, "ref.go:266", #[⟨9, .data⟩], none⟩ ?_
                  try simp only [Act.put, List.setIfInBounds_toArray, List.set_cons_zero, List.set_cons_succ]
                  refine tkT 11 ⟨some 115, .move (.tmp 9), 3, "ref.go:266", #[], none⟩ ?_
                  try simp only [Act.put, List.setIfInBounds_toArray, List.set_cons_zero, List.set_cons_succ]
                  refine til_one (i := 12) (o := ⟨some 116, .call { callee := Callee.value (Operand.func 54), args := #[.tmp 110, .tmp 112, .tmp 114, .tmp 115], argTypes := #[54, 22, 22, 3] }, 54, "ref.go:266", #[⟨6, .data⟩, ⟨8, .data⟩, ⟨10, .data⟩, ⟨11, .data⟩], none⟩) (by kernel_rfl) rfl (fun KK hK => ?_)
                  go_simp
                  go_at_call 54
                  (with_reducible refine (CTA.out _ HRD.out.i.b HRD.out.rd).mono ?_)
                  rintro e wA ⟨rfl, hb⟩
                  have HRA := Lib.hid (HRD.out.below hb)
                  have HOA := Lib.hid (HOD.out.below hb)
                  have HSA := Lib.hid (s29_call HST.out hb)
                  clear hb
                  refine hK.out _ _ ?_ (fun hHeld => ?_)
                  · exact HSA.out
                  clear hK KK
                  try simp only [Act.put, List.setIfInBounds_toArray, List.set_cons_zero, List.set_cons_succ]
                  refine tkT 13 ⟨some 117, .build 56 #[(0, .tmp 108), (1, .tmp 116)], 56, "ref.go:266", #[⟨4, .data⟩, ⟨12, .data⟩], none⟩ ?_
                  try simp only [Act.put, List.setIfInBounds_toArray, List.set_cons_zero, List.set_cons_succ]
                  refine til_one (i := 14) (o := ⟨some 118, .buildSlice 23 1 #[(0, .tmp 117)], 23, "ref.go:266", #[⟨13, .data⟩], none⟩) (by kernel_rfl) rfl (fun KK hK => ?_)
                  go_simp
                  obtain ⟨a6, c6, w6, hr6, hoff, hc6, hf6, hRB, hOO, hgo⟩ := rb_push ⟨4, ⟨u1, v1⟩, ⟨0, 0⟩, []⟩ HRA.out HOA.out HOL.out.symm.symm (by have := HOL.out; omega) (Below.refl _ _)
                  dsimp only [opCells] at hr6
                  have HR6 := Lib.hid hr6
                  have HRB := Lib.hid hRB
                  have HOU := Lib.hid hOO
                  have HOF := Lib.hid hoff
                  clear hr6 hoff hRB hOO hgo
                  refine hK.out _ _ ?_ (fun hHeld => ?_)
                  · exact s29_call HSA.out ((Below.refl _ _).alloc (Nat.le_refl _) _)
                  clear hK KK
                  try simp only [Act.put, List.setIfInBounds_toArray, List.set_cons_zero, List.set_cons_succ]
                  refine til_one (i := 15) (o := ⟨some 119, .call { callee := Callee.builtin Builtin.append, args := #[.tmp 105, .tmp 118], argTypes := #[23, 23] }, 23, "ref.go:266", #[⟨1, .data⟩, ⟨14, .data⟩, ⟨12, .chain⟩], none⟩) (by kernel_rfl) rfl (fun KK hK => ?_)
                  refine step_append_run rfl (.tmp 105) (.tmp 118) 23 23 rfl (by simp [Act.eval]) (by simp [Act.eval]) HR6.out ?_
                  refine hK.out _ _ ?_ (fun hHeld => ?_)
                  · exact s29_off (s29_call HSA.out (Below.refl _ _)) HOF.out (fun z => by have := (HO0.out.row.lt _ z).1; omega) (fun z => by have := HOW.out _ z; omega) (fun z => by have := (HO0.out.row.lt _ z).1; omega)
                  clear hK KK
                  try simp only [Act.put, List.setIfInBounds_toArray, List.set_cons_zero, List.set_cons_succ]
                  refine tkT 16 ⟨some 120, .fieldAddr 25 (.tmp 6) 2, 0, "ref.go:266", #[⟨0, .phase⟩, ⟨1, .phase⟩, ⟨2, .phase⟩, ⟨3, .phase⟩, ⟨4, .phase⟩, ⟨5, .phase⟩, ⟨6, .phase⟩, ⟨7, .phase⟩, ⟨8, .phase⟩, ⟨9, .phase⟩, ⟨10, .phase⟩, ⟨11, .phase⟩, ⟨12, .phase⟩, ⟨13, .phase⟩, ⟨14, .phase⟩, ⟨15, .phase⟩], none⟩ ?_
                  try simp only [Act.put, List.setIfInBounds_toArray, List.set_cons_zero, List.set_cons_succ]
                  refine til_last (o := ⟨none, .store 23 (.tmp 120) (.tmp 119), 0, "ref.go:266", #[⟨16, .data⟩, ⟨15, .data⟩, ⟨15, .chain⟩, ⟨0, .phase⟩, ⟨1, .phase⟩, ⟨2, .phase⟩, ⟨3, .phase⟩, ⟨4, .phase⟩, ⟨5, .phase⟩, ⟨6, .phase⟩, ⟨7, .phase⟩, ⟨8, .phase⟩, ⟨9, .phase⟩, ⟨10, .phase⟩, ⟨11, .phase⟩, ⟨12, .phase⟩, ⟨13, .phase⟩, ⟨14, .phase⟩, ⟨15, .phase⟩], none⟩) (by kernel_rfl) rfl (by kernel_rfl) (fun KK hK => ?_)
                  go_simp
                  refine hK.out _ _ ?_
                  clear hK KK
                  try simp only [Act.put, List.setIfInBounds_toArray, List.set_cons_zero, List.set_cons_succ]
                  clear b0 b1 b2 b3 b4 hc6 hf6
                  go_wp2_with fail
                  refine ⟨⟨j, _, by omega, ?_, ?_, HRB, Lib.hid ?_⟩, by simp only [intOf]; omega⟩
                  · rcases j with _ | j'
                    · exact .inl ⟨rfl, rfl⟩
                    · exact .inr ⟨j', rfl, by congr 1; omega⟩
                  · rw [HSX.out]; unfold stepI; rw [if_neg (show ¬ ((5 : Int) = 1) by decide)]
                  · have e : (st j).1 = os ++ [⟨4, ⟨u1, v1⟩, ⟨0, 0⟩, []⟩] := by rw [HSX.out]; unfold stepI; rw [if_neg (show ¬ ((5 : Int) = 1) by decide)]; show os ++ [opI _ _ _ _] = _; unfold opI; simp [← HR1.out]
                    rw [e]; exact HOU.out
end Go.Proofs.YtgjcblginkdinaaGreatDoor
