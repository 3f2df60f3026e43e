/- What stores into the hunt's memory make of it. No function of the program is named here. -/
import Derived.Test.YteaencgbgfnokaaKnB
set_option linter.unusedVariables false
namespace Go.Proofs.Yteaencgbgfnokaa
open Go.ChangeShapes Go.WideShapes Go.ChangeAt Go.RowKit

section
variable {w0 : World} {S p bb lb m : Nat} {fv hv ov wv : Value} {op : List Nat} {bk ls : Nat → Nat} {sv : List (Stp × Value)} {W W' : World}

theorem HuntM.drewN {d : Nat} (h : HuntM w0 S p bb lb m fv hv ov wv op bk ls sv W) : HuntM w0 S p bb lb m fv hv ov wv op bk ls sv (W.drewN d) := h.below (Below.drewN (Below.refl _ _))
theorem HuntM.ownO (h : HuntM w0 S p bb lb m fv hv ov wv op bk ls sv W) {i : Nat} (hi : ov.ownBlock = some i) : p + 1 ≤ i ∧ i < W.heap.size := by have := h.ro.lt i hi; have := h.sp; omega
theorem HuntM.ownO2 (h : HuntM w0 S p bb lb m fv hv ov wv op bk ls sv W) {i : Nat} (hi : ov.ownBlock = some i) : bb < i ∧ lb < i ∧ S ≤ i := by have := h.ro.lt i hi; have := h.sb; have := h.sl; omega
theorem HuntM.ownW (h : HuntM w0 S p bb lb m fv hv ov wv op bk ls sv W) {i : Nat} (hi : wv.ownBlock = some i) : p + 1 ≤ i ∧ i < W.heap.size := by have := h.rw.lt i hi; have := h.sp; omega
theorem HuntM.ownW2 (h : HuntM w0 S p bb lb m fv hv ov wv op bk ls sv W) {i : Nat} (hi : wv.ownBlock = some i) : bb < i ∧ lb < i ∧ S ≤ i := by have := h.rw.lt i hi; have := h.sb; have := h.sl; omega
theorem HuntM.wp (h : HuntM w0 S p bb lb m fv hv ov wv op bk ls sv W) : w0.heap.size ≤ bb ∧ w0.heap.size ≤ lb ∧ w0.heap.size ≤ p := ⟨(h.rb.lt bb rfl).1, (h.rl.lt lb rfl).1, h.wq⟩
theorem below_store {w0 W : World} {q : Addr} {u : Value} (h : Below w0.heap.size w0 W) (hq : w0.heap.size ≤ q.block) : Below w0.heap.size w0 (W.setCell q u) := h.setCell hq u

/-- Another open. -/
theorem HuntM.putO {v' : Value} {op' : List Nat} (h : HuntM w0 S p bb lb m fv hv ov wv op bk ls sv W) (ho : Off (fun i => ov.ownBlock = some i) W W') (hr : Row 1 S W' v' op'.length (iv (nl op'))) (hn : v'.ownBlock = ov.ownBlock ∨ ∃ k, v'.ownBlock = some k ∧ W.heap.size ≤ k) :
    HuntM w0 S p bb lb m fv hv v' wv op' bk ls sv (W'.setCell ⟨p, 2, none⟩ v') := by
  have hpl := h.pl
  obtain ⟨hwb, hwl, hwp⟩ := h.wp
  have hz : ∀ i, i ≤ p → ¬ ov.ownBlock = some i := fun i hi e => by have := (h.ownO e).1; omega
  have hc : ∀ j, W'.cell? ⟨p, j, none⟩ = W.cell? ⟨p, j, none⟩ := fun j => ho.cell (p := ⟨p, j, none⟩) hpl (hz p (Nat.le_refl _))
  have hf : ∀ j, W'.frozen? ⟨p, j, none⟩ = W.frozen? ⟨p, j, none⟩ := fun j => ho.frozen (p := ⟨p, j, none⟩) hpl (hz p (Nat.le_refl _))
  have ne : ∀ j, j ≠ 2 → ((⟨p, 2, none⟩ : Addr) ≠ ⟨p, j, none⟩) := fun j hj e => hj (by injection e with _ e _; exact e.symm)
  have ce : ∀ j x, j ≠ 2 → W.cell? ⟨p, j, none⟩ = some x → (W'.setCell ⟨p, 2, none⟩ v').cell? ⟨p, j, none⟩ = some x := fun j x hj hx => by
    rw [World.cell?_setCell_other _ _ _ _ (ne j hj), hc, hx]
  have hwn : wv.ownBlock ≠ some p := fun e => by have := (h.ownW e).1; omega
  have hwo : ∀ b, wv.ownBlock = some b → ¬ ov.ownBlock = some b := fun b hb e => h.ne (by rw [e]; exact Option.some_ne_none _) (by rw [hb, e])
  have hbp := h.bp
  have hlp := h.lp
  have hsp := h.sp
  have hsb := h.sb
  have hsl := h.sl
  have hsz := h.sz
  refine ⟨?_, ce 0 _ (by decide) h.c0, ce 1 _ (by decide) h.c1, ?_, ce 3 _ (by decide) h.c3, ce 4 _ (by decide) h.c4, ce 5 _ (by decide) h.c5, fun j hj => by rw [World.frozen?_setCell, hf]; exact h.fr j hj, ?_, ?_, ?_, ?_, ?_, h.left, hsp, hsb, hsl, h.bn, hbp, hlp, h.wq, by have := ho.size; simp [World.setCell]; omega⟩
  · exact below_store (h.bl.trans (ho.below (B := w0.heap.size) (fun i hi => by have := (h.ownO hi).1; omega) h.bl.size)) (by show _ ≤ p; omega)
  · exact World.cell?_setCell_same _ _ _ ((hc 2).trans h.c2)
  · exact hr.setOther (fun e => by have := (hr.lt p e).1; omega) _
  · exact (h.rw.off ho hwo).setOther hwn _
  · intro hne e
    rcases hn with hn | ⟨k, hk, hkl⟩
    · exact h.ne (by rw [← hn]; exact hne) (by rw [← hn]; exact e)
    · have := (h.ownW (e.symm.trans hk)).2
      omega
  · exact (h.rb.off ho (fun b hb e => by have : bb = b := Option.some.inj hb; have := (h.ownO2 e).1; omega)).setOther (fun e => by have : bb = p := Option.some.inj e; omega) _
  · exact (h.rl.off ho (fun b hb e => by have : lb = b := Option.some.inj hb; have := (h.ownO2 e).2.1; omega)).setOther (fun e => by have : lb = p := Option.some.inj e; omega) _
/-- Another way. -/
theorem HuntM.putW {v' : Value} {sv' : List (Stp × Value)} (h : HuntM w0 S p bb lb m fv hv ov wv op bk ls sv W) (ho : Off (fun i => wv.ownBlock = some i) W W') (hr : Row 3 S W' v' sv'.length (stV sv')) (hn : v'.ownBlock = wv.ownBlock ∨ ∃ k, v'.ownBlock = some k ∧ W.heap.size ≤ k) (hl : ∀ s ∈ sv', RI w0 s.2 (nl s.1.l)) :
    HuntM w0 S p bb lb m fv hv ov v' op bk ls sv' (W'.setCell ⟨p, 4, none⟩ v') := by
  have hpl := h.pl
  obtain ⟨hwb, hwl, hwp⟩ := h.wp
  have hz : ∀ i, i ≤ p → ¬ wv.ownBlock = some i := fun i hi e => by have := (h.ownW e).1; omega
  have hc : ∀ j, W'.cell? ⟨p, j, none⟩ = W.cell? ⟨p, j, none⟩ := fun j => ho.cell (p := ⟨p, j, none⟩) hpl (hz p (Nat.le_refl _))
  have hf : ∀ j, W'.frozen? ⟨p, j, none⟩ = W.frozen? ⟨p, j, none⟩ := fun j => ho.frozen (p := ⟨p, j, none⟩) hpl (hz p (Nat.le_refl _))
  have ne : ∀ j, j ≠ 4 → ((⟨p, 4, none⟩ : Addr) ≠ ⟨p, j, none⟩) := fun j hj e => hj (by injection e with _ e _; exact e.symm)
  have ce : ∀ j x, j ≠ 4 → W.cell? ⟨p, j, none⟩ = some x → (W'.setCell ⟨p, 4, none⟩ v').cell? ⟨p, j, none⟩ = some x := fun j x hj hx => by
    rw [World.cell?_setCell_other _ _ _ _ (ne j hj), hc, hx]
  have hwn : ov.ownBlock ≠ some p := fun e => by have := (h.ownO e).1; omega
  have hwo : ∀ b, ov.ownBlock = some b → ¬ wv.ownBlock = some b := fun b hb e => h.ne (by rw [hb]; exact Option.some_ne_none _) (by rw [hb, e])
  have hbp := h.bp
  have hlp := h.lp
  have hsp := h.sp
  have hsb := h.sb
  have hsl := h.sl
  have hsz := h.sz
  refine ⟨?_, ce 0 _ (by decide) h.c0, ce 1 _ (by decide) h.c1, ce 2 _ (by decide) h.c2, ce 3 _ (by decide) h.c3, ?_, ce 5 _ (by decide) h.c5, fun j hj => by rw [World.frozen?_setCell, hf]; exact h.fr j hj, ?_, ?_, ?_, ?_, ?_, hl, hsp, hsb, hsl, h.bn, hbp, hlp, h.wq, by have := ho.size; simp [World.setCell]; omega⟩
  · exact below_store (h.bl.trans (ho.below (B := w0.heap.size) (fun i hi => by have := (h.ownW hi).1; omega) h.bl.size)) (by show _ ≤ p; omega)
  · exact World.cell?_setCell_same _ _ _ ((hc 4).trans h.c4)
  · exact (h.ro.off ho hwo).setOther hwn _
  · exact hr.setOther (fun e => by have := (hr.lt p e).1; omega) _
  · intro hne e
    rcases hn with hn | ⟨k, hk, hkl⟩
    · exact h.ne hne (by rw [← hn]; exact e)
    · have := (h.ownO (e.trans hk)).2
      omega
  · exact (h.rb.off ho (fun b hb e => by have : bb = b := Option.some.inj hb; have := (h.ownW2 e).1; omega)).setOther (fun e => by have : bb = p := Option.some.inj e; omega) _
  · exact (h.rl.off ho (fun b hb e => by have : lb = b := Option.some.inj hb; have := (h.ownW2 e).2.1; omega)).setOther (fun e => by have : lb = p := Option.some.inj e; omega) _
/-- Another cell of back. -/
theorem HuntM.putB {v x : Nat} (h : HuntM w0 S p bb lb m fv hv ov wv op bk ls sv W) (hv' : v < m) : HuntM w0 S p bb lb m fv hv ov wv op (upd bk v x) ls sv (W.setCell ⟨bb, v, none⟩ (.int .i64 (x : Int))) := by
  obtain ⟨hwb, hwl, hwp⟩ := h.wp
  have hbp := h.bp
  have hlp := h.lp
  have hsp := h.sp
  have hsb := h.sb
  have hsl := h.sl
  have hsz := h.sz
  have hbn := h.bn
  have ce : ∀ j y, W.cell? ⟨p, j, none⟩ = some y → (W.setCell ⟨bb, v, none⟩ (.int .i64 (x : Int))).cell? ⟨p, j, none⟩ = some y := fun j y hy => by
    rw [World.cell?_setCell_other _ _ _ _ (fun e => by injection e with e _ _; omega), hy]
  have hb := h.rb.put (j := v) (by rw [bkv_len]; exact hv') (.int .i64 (x : Int))
  rw [bkv_set _ hv'] at hb
  exact ⟨below_store h.bl hwb, ce 0 _ h.c0, ce 1 _ h.c1, ce 2 _ h.c2, ce 3 _ h.c3, ce 4 _ h.c4, ce 5 _ h.c5, fun j hj => by rw [World.frozen?_setCell]; exact h.fr j hj, h.ro.setOther (fun e => by have := h.ownO2 e; simp only at this; omega) _, h.rw.setOther (fun e => by have := h.ownW2 e; simp only at this; omega) _, h.ne, hb, h.rl.setOther (fun e => by have : lb = bb := Option.some.inj e; omega) _, h.left, hsp, hsb, hsl, hbn, hbp, hlp, h.wq, by simp [World.setCell]; exact hsz⟩
/-- Another cell of least. -/
theorem HuntM.putL {v x : Nat} (h : HuntM w0 S p bb lb m fv hv ov wv op bk ls sv W) (hv' : v < m) : HuntM w0 S p bb lb m fv hv ov wv op bk (upd ls v x) sv (W.setCell ⟨lb, v, none⟩ (.int .i64 (x : Int))) := by
  obtain ⟨hwb, hwl, hwp⟩ := h.wp
  have hbp := h.bp
  have hlp := h.lp
  have hsp := h.sp
  have hsb := h.sb
  have hsl := h.sl
  have hsz := h.sz
  have hbn := h.bn
  have ce : ∀ j y, W.cell? ⟨p, j, none⟩ = some y → (W.setCell ⟨lb, v, none⟩ (.int .i64 (x : Int))).cell? ⟨p, j, none⟩ = some y := fun j y hy => by
    rw [World.cell?_setCell_other _ _ _ _ (fun e => by injection e with e _ _; omega), hy]
  have hb := h.rl.put (j := v) (by rw [bkv_len]; exact hv') (.int .i64 (x : Int))
  rw [bkv_set _ hv'] at hb
  exact ⟨below_store h.bl hwl, ce 0 _ h.c0, ce 1 _ h.c1, ce 2 _ h.c2, ce 3 _ h.c3, ce 4 _ h.c4, ce 5 _ h.c5, fun j hj => by rw [World.frozen?_setCell]; exact h.fr j hj, h.ro.setOther (fun e => by have := h.ownO2 e; simp only at this; omega) _, h.rw.setOther (fun e => by have := h.ownW2 e; simp only at this; omega) _, h.ne, h.rb.setOther (fun e => by have : bb = lb := Option.some.inj e; omega) _, hb, h.left, hsp, hsb, hsl, hbn, hbp, hlp, h.wq, by simp [World.setCell]; exact hsz⟩
/-- The last stop's cells. -/
theorem stV_at {s : Stp} {u : Value} {r : List (Stp × Value)} : (stV ((s, u) :: r))[r.length * 3]? = some (.int .i64 (s.c : Int)) ∧ (stV ((s, u) :: r))[r.length * 3 + 1]? = some (.int .i64 (s.p : Int)) ∧ (stV ((s, u) :: r))[r.length * 3 + 2]? = some u := by
  rw [stV_cons]
  have hl := stV_len r
  refine ⟨?_, ?_, ?_⟩
  · rw [List.getElem?_append_right (by omega), hl, Nat.sub_self]; rfl
  · rw [List.getElem?_append_right (by omega), hl, show r.length * 3 + 1 - r.length * 3 = 1 by omega]; rfl
  · rw [List.getElem?_append_right (by omega), hl, show r.length * 3 + 2 - r.length * 3 = 2 by omega]; rfl
theorem HuntM.last {s : Stp} {u : Value} {r : List (Stp × Value)} (h : HuntM w0 S p bb lb m fv hv ov wv op bk ls ((s, u) :: r) W) : ∃ q c, wv = .slice (some ⟨q, 0, none⟩) (r.length + 1) c ∧ r.length + 1 ≤ c ∧ c ≤ maxLen ∧ p + 1 ≤ q ∧ q < W.heap.size ∧ W.cell? ⟨q, r.length * 3, none⟩ = some (.int .i64 (s.c : Int)) ∧ W.cell? ⟨q, r.length * 3 + 1, none⟩ = some (.int .i64 (s.p : Int)) ∧ W.cell? ⟨q, r.length * 3 + 2, none⟩ = some u ∧ W.frozen? ⟨q, r.length * 3 + 2, none⟩ = false := by
  have hr := h.rw
  rw [List.length_cons] at hr
  obtain ⟨h0, ⟨_, e⟩ | ⟨q, c, rfl, h2, h3, h4, h5, h6, h7⟩⟩ := hr
  · omega
  · exact ⟨q, c, rfl, h4, h5, by have := h.sp; omega, h3, h7 _ _ stV_at.1, h7 _ _ stV_at.2.1, h7 _ _ stV_at.2.2, (h6 _ (by omega)).2⟩
/-- The last stop goes. -/
theorem HuntM.pop {s : Stp} {u : Value} {r : List (Stp × Value)} {q c : Nat} (h : HuntM w0 S p bb lb m fv hv ov (.slice (some ⟨q, 0, none⟩) (r.length + 1) c) op bk ls ((s, u) :: r) W) : HuntM w0 S p bb lb m fv hv ov (.slice (some ⟨q, 0, none⟩) r.length c) op bk ls r (W.setCell ⟨p, 4, none⟩ (.slice (some ⟨q, 0, none⟩) r.length c)) := by
  have hr := h.rw
  rw [List.length_cons] at hr
  have hf := hr.frontK (m := r.length) (by omega)
  rw [stV_cons, List.take_left' (stV_len r)] at hf
  exact h.putW (Off.refl _ _) hf (.inl rfl) (fun s' hs => h.left s' (List.mem_cons_of_mem _ hs))
/-- The last stop's left is another one. -/
theorem HuntM.putLast {c0 p0 : Nat} {l l' : List Nat} {u u' : Value} {r : List (Stp × Value)} {q c : Nat} (h : HuntM w0 S p bb lb m fv hv ov (.slice (some ⟨q, 0, none⟩) (r.length + 1) c) op bk ls ((⟨c0, p0, l⟩, u) :: r) W) (hu : RI w0 u' (nl l')) :
    HuntM w0 S p bb lb m fv hv ov (.slice (some ⟨q, 0, none⟩) (r.length + 1) c) op bk ls ((⟨c0, p0, l'⟩, u') :: r) (W.setCell ⟨q, r.length * 3 + 2, none⟩ u') := by
  obtain ⟨hwb, hwl, hwp⟩ := h.wp
  have hbp := h.bp
  have hlp := h.lp
  have hsp := h.sp
  have hsb := h.sb
  have hsl := h.sl
  have hsz := h.sz
  have hq := h.ownW (i := q) rfl
  have hq2 := h.ownW2 (i := q) rfl
  have hr := h.rw
  rw [List.length_cons] at hr
  have hrp := hr.put (j := r.length * 3 + 2) (by rw [hr.1]; omega) u'
  have hset : (stV ((⟨c0, p0, l⟩, u) :: r)).set (r.length * 3 + 2) u' = stV ((⟨c0, p0, l'⟩, u') :: r) := by
    rw [stV_cons, stV_cons, List.set_append_right _ _ (by rw [stV_len]; omega), stV_len, show r.length * 3 + 2 - r.length * 3 = 2 by omega]
    rfl
  rw [hset] at hrp
  have ce : ∀ j y, W.cell? ⟨p, j, none⟩ = some y → (W.setCell ⟨q, r.length * 3 + 2, none⟩ u').cell? ⟨p, j, none⟩ = some y := fun j y hy => by
    rw [World.cell?_setCell_other _ _ _ _ (fun e => by injection e with e _ _; omega), hy]
  refine ⟨below_store h.bl (by show _ ≤ q; omega), ce 0 _ h.c0, ce 1 _ h.c1, ce 2 _ h.c2, ce 3 _ h.c3, ce 4 _ h.c4, ce 5 _ h.c5, fun j hj => by rw [World.frozen?_setCell]; exact h.fr j hj, h.ro.setOther (fun e => h.ne (by rw [e]; exact Option.some_ne_none _) (by rw [e]; rfl)) _, hrp, h.ne, h.rb.setOther (fun e => by have : bb = q := Option.some.inj e; omega) _, h.rl.setOther (fun e => by have : lb = q := Option.some.inj e; omega) _, ?_, hsp, hsb, hsl, h.bn, hbp, hlp, h.wq, by simp [World.setCell]; exact hsz⟩
  intro s hs
  rcases List.mem_cons.1 hs with rfl | hs
  · exact hu
  · exact h.left s (List.mem_cons_of_mem _ hs)
end
end Go.Proofs.Yteaencgbgfnokaa
