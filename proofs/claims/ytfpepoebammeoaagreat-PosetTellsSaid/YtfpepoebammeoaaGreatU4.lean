/- Memory of the hunt for knots: slices of numbers that are read; a web of heads; the hunt's box. No function of the program is named here. What stores into the hunt's memory make of it. No function of the program is named here. Tables of truths in memory: a slice of slices of truths, each row in a block of its own. No function of the program is named here. The contracts of size, behind, and slices.Min. -/
import Derived.Test.YtfpepoebammeoaaGreatU2
import Derived.Test.YtfpepoebammeoaaGreatU3
set_option linter.unusedVariables false
namespace Go.Proofs.YtfpepoebammeoaaGreat
open Go.ChangeShapes Go.WideShapes Go.ChangeAt Go.RowKit

abbrev nl (l : List Nat) : List Int := l.map fun x : Nat => (x : Int)
theorem nl_len (l : List Nat) : (nl l).length = l.length := by simp
theorem nl_at {l : List Nat} {j x : Nat} (h : l[j]? = some x) : (nl l)[j]? = some (x : Int) := by simp [nl, h]
theorem nl_inv {l : List Nat} {j : Nat} {y : Int} (h : (nl l)[j]? = some y) : ∃ x : Nat, l[j]? = some x ∧ y = (x : Int) := by
  rw [nl, List.getElem?_map] at h
  obtain ⟨x, hx, e⟩ := Option.map_eq_some_iff.1 h
  exact ⟨x, hx, e.symm⟩
def RI (w : World) (v : Value) (l : List Int) : Prop :=
  (l = [] ∧ ∃ a c, v = .slice a 0 c) ∨ (l ≠ [] ∧ ∃ b o c, v = .slice (some ⟨b, o, none⟩) l.length c ∧ l.length ≤ c ∧ c ≤ maxLen ∧ b < w.heap.size ∧ ∀ (j : Nat) x, l[j]? = some x → w.cell? ⟨b, o + j, none⟩ = some (.int .i64 x))
theorem RI.below {w w' : World} {v : Value} {l : List Int} (h : RI w v l) (hb : Below w.heap.size w w') : RI w' v l := by
  rcases h with h | ⟨hn, b, o, c, h1, h2, h3, h4, h5⟩
  · exact .inl h
  · exact .inr ⟨hn, b, o, c, h1, h2, h3, Nat.lt_of_lt_of_le h4 hb.size, fun j x hx => (hb.cell (p := ⟨b, o + j, none⟩) h4).trans (h5 j x hx)⟩
theorem RI.off {Z : Nat → Prop} {w w' : World} {v : Value} {l : List Int} (h : RI w v l) (ho : Off Z w w') (hz : ∀ b, v.ownBlock = some b → ¬ Z b) (hv : ∀ b o c n, v = .slice (some ⟨b, o, none⟩) n c → ¬ Z b) : RI w' v l := by
  rcases h with h | ⟨hn, b, o, c, h1, h2, h3, h4, h5⟩
  · exact .inl h
  · exact .inr ⟨hn, b, o, c, h1, h2, h3, Nat.lt_of_lt_of_le h4 ho.size, fun j x hx => (ho.cell (p := ⟨b, o + j, none⟩) h4 (hv b o c _ h1)).trans (h5 j x hx)⟩
theorem RI.form {w : World} {v : Value} {l : List Int} (h : RI w v l) : ∃ a c, v = .slice a l.length c := by
  rcases h with ⟨rfl, a, c, rfl⟩ | ⟨hn, b, o, c, rfl, _⟩
  · exact ⟨_, _, rfl⟩
  · exact ⟨_, _, rfl⟩
theorem RI.at {w : World} {a : Option Addr} {n c : Nat} {l : List Int} (h : RI w (.slice a n c) l) {j : Nat} {x : Int} (hx : l[j]? = some x) : ∃ b o, a = some ⟨b, o, none⟩ ∧ b < w.heap.size ∧ n ≤ c ∧ c ≤ maxLen ∧ w.cell? ⟨b, o + j, none⟩ = some (.int .i64 x) := by
  rcases h with ⟨rfl, a', c', e⟩ | ⟨hn, b, o, c', e, hc, hm, hl, hx'⟩
  · simp at hx
  · simp only [Value.slice.injEq] at e
    obtain ⟨rfl, rfl, rfl⟩ := e
    exact ⟨b, o, rfl, hl, hc, hm, hx' j x hx⟩
theorem RI.some {w : World} {a : Option Addr} {n c : Nat} {l : List Int} (h : RI w (.slice a n c) l) (h0 : 0 < n) : ∃ b o, a = .some ⟨b, o, none⟩ ∧ n = l.length ∧ b < w.heap.size ∧ n ≤ c ∧ c ≤ maxLen ∧ ∀ (j : Nat) x, l[j]? = .some x → w.cell? ⟨b, o + j, none⟩ = .some (.int .i64 x) := by
  rcases h with ⟨rfl, a', c', e⟩ | ⟨hn, b, o, c', e, hc, hm, hl, hx'⟩
  · simp only [Value.slice.injEq] at e
    omega
  · simp only [Value.slice.injEq] at e
    obtain ⟨rfl, rfl, rfl⟩ := e
    exact ⟨b, o, rfl, rfl, hl, hc, hm, hx'⟩
theorem RI.ofRow {B : Nat} {w : World} {v : Value} {l : List Int} (h : Row 1 B w v l.length (iv l)) : RI w v l := by
  rcases Nat.eq_zero_or_pos l.length with h0 | hp
  · obtain ⟨a, c, rfl⟩ := h.form
    rw [h0]
    exact .inl ⟨List.length_eq_zero_iff.1 h0, _, _, rfl⟩
  · obtain ⟨b, cap, rfl, h2, h3, h4, h5, h6, h7⟩ := h.pos hp
    exact .inr ⟨fun e => by rw [e] at hp; simp at hp, b, 0, cap, rfl, h4, h5, h3, fun j x hx => by rw [Nat.zero_add]; exact h7 j _ (by simp [iv, hx])⟩
theorem RI.tail {w : World} {b o n c : Nat} {x : Int} {l : List Int} (h : RI w (.slice (.some ⟨b, o, none⟩) n c) (x :: l)) : RI w (.slice (if c = 1 then .some ⟨b, o, none⟩ else .some ⟨b, o + 1, none⟩) (n - 1) (c - 1)) l := by
  rcases h with ⟨e, _⟩ | ⟨hn, b', o', c', e, hc, hm, hl, hx'⟩
  · cases e
  · simp only [Value.slice.injEq, Option.some.injEq, Addr.mk.injEq] at e
    obtain ⟨⟨rfl, rfl, _⟩, rfl, rfl⟩ := e
    rw [List.length_cons] at hc ⊢
    rw [Nat.add_sub_cancel]
    by_cases hl0 : l = []
    · subst hl0
      exact .inl ⟨rfl, _, _, rfl⟩
    · have : 0 < l.length := List.length_pos_iff.2 hl0
      rw [if_neg (by omega)]
      exact .inr ⟨hl0, b, o + 1, c - 1, rfl, by omega, by unfold maxLen at hm ⊢; omega, hl, fun j y hy => by
        have := hx' (j + 1) y (by rw [List.getElem?_cons_succ]; exact hy)
        rw [show o + 1 + j = o + (j + 1) by omega]
        exact this⟩

def bkv (f : Nat → Nat) (m : Nat) : List Value := (List.range m).map fun v => .int .i64 (f v : Int)
theorem bkv_len (f : Nat → Nat) (m : Nat) : (bkv f m).length = m := by simp [bkv]
theorem bkv_at (f : Nat → Nat) {m v : Nat} (h : v < m) : (bkv f m)[v]? = some (.int .i64 (f v : Int)) := by simp [bkv, h]
theorem bkv_set (f : Nat → Nat) {m v x : Nat} (h : v < m) : (bkv f m).set v (.int .i64 (x : Int)) = bkv (upd f v x) m := by
  apply List.ext_getElem?
  intro u
  by_cases hu : u < m
  · by_cases e : v = u
    · subst e
      rw [List.getElem?_set_self (by rw [bkv_len]; exact h), bkv_at _ hu, upd_same]
    · rw [List.getElem?_set_ne e, bkv_at _ hu, bkv_at _ hu, upd_other _ _ (fun x => e x.symm)]
  · rw [List.getElem?_eq_none (by rw [List.length_set, bkv_len]; omega), List.getElem?_eq_none (by rw [bkv_len]; omega)]
theorem bkv_congr {f g : Nat → Nat} {m : Nat} (h : ∀ v, v < m → f v = g v) : bkv f m = bkv g m := by
  unfold bkv
  exact List.map_congr_left fun v hv => by rw [h v (List.mem_range.1 hv)]

structure WebK (w : World) (fv hv : Value) (m E : Nat) (F : Nat → Nat) (H : List Nat) : Prop where
  f : ∃ fb fc, fv = .slice (some ⟨fb, 0, none⟩) (m + 1) fc ∧ m + 1 ≤ fc ∧ fc ≤ maxLen ∧ fb < w.heap.size ∧ ∀ j, j < m + 1 → w.cell? ⟨fb, j, none⟩ = some (.int .i64 (F j : Int))
  h : ∃ hb hc, hv = .slice (some ⟨hb, 0, none⟩) E hc ∧ E ≤ hc ∧ hc ≤ maxLen ∧ hb < w.heap.size ∧ ∀ (j x : Nat), H[j]? = some x → w.cell? ⟨hb, j, none⟩ = some (.int .i64 (x : Int))
  el : H.length = E
  mono : ∀ v, v < m → F v ≤ F (v + 1)
  le : ∀ v, v ≤ m → F v ≤ E
  lt : ∀ x ∈ H, x < m
theorem WebK.below {w w' : World} {fv hv : Value} {m E : Nat} {F : Nat → Nat} {H : List Nat} (h : WebK w fv hv m E F H) (hb : Below w.heap.size w w') : WebK w' fv hv m E F H := by
  obtain ⟨fb, fc, f1, f2, f3, f4, f5⟩ := h.f
  obtain ⟨hb', hc, h1, h2, h3, h4, h5⟩ := h.h
  exact ⟨⟨fb, fc, f1, f2, f3, Nat.lt_of_lt_of_le f4 hb.size, fun j hj => (hb.cell (p := ⟨fb, j, none⟩) f4).trans (f5 j hj)⟩, ⟨hb', hc, h1, h2, h3, Nat.lt_of_lt_of_le h4 hb.size, fun j x hx => (hb.cell (p := ⟨hb', j, none⟩) h4).trans (h5 j x hx)⟩, h.el, h.mono, h.le, h.lt⟩
def adjK (m : Nat) (F : Nat → Nat) (H : List Nat) (v : Nat) : List Nat := if v < m then (H.drop (F v)).take (F (v + 1) - F v) else []
theorem adjK_len {w : World} {fv hv : Value} {m E : Nat} {F : Nat → Nat} {H : List Nat} (h : WebK w fv hv m E F H) {v : Nat} (hv : v < m) : (adjK m F H v).length = F (v + 1) - F v := by
  have := h.el
  have := h.le (v + 1) (by omega)
  simp [adjK, hv]
  omega
theorem adjK_at {m : Nat} {F : Nat → Nat} {H : List Nat} {v j x : Nat} (h : (adjK m F H v)[j]? = some x) : H[F v + j]? = some x := by
  unfold adjK at h
  split at h
  · have hl := (List.getElem?_eq_some_iff.1 h).1
    rw [List.length_take] at hl
    rw [List.getElem?_take_of_lt (by omega), List.getElem?_drop] at h
    exact h
  · simp at h
theorem adjK_lt {m : Nat} {F : Nat → Nat} {H : List Nat} (h : ∀ x ∈ H, x < m) (v : Nat) : ∀ x ∈ adjK m F H v, x < m := fun x hx => by
  obtain ⟨j, hj⟩ := List.getElem?_of_mem hx
  exact h x (List.mem_of_getElem? (adjK_at hj))

def stV (sv : List (Stp × Value)) : List Value := sv.reverse.flatMap fun s => [.int .i64 (s.1.c : Int), .int .i64 (s.1.p : Int), s.2]
theorem stV_cons (s : Stp × Value) (sv : List (Stp × Value)) : stV (s :: sv) = stV sv ++ [.int .i64 (s.1.c : Int), .int .i64 (s.1.p : Int), s.2] := by simp [stV]
theorem stV_len (sv : List (Stp × Value)) : (stV sv).length = sv.length * 3 := by
  induction sv with
  | nil => rfl
  | cons s sv ih => rw [stV_cons, List.length_append, ih, List.length_cons]; simp; omega
structure HuntM (w0 : World) (S p bb lb m : Nat) (fv hv ov wv : Value) (op : List Nat) (bk ls : Nat → Nat) (sv : List (Stp × Value)) (W : World) : Prop where
  bl : Below w0.heap.size w0 W
  c0 : W.cell? ⟨p, 0, none⟩ = some fv
  c1 : W.cell? ⟨p, 1, none⟩ = some hv
  c2 : W.cell? ⟨p, 2, none⟩ = some ov
  c3 : W.cell? ⟨p, 3, none⟩ = some (.slice (some ⟨bb, 0, none⟩) m m)
  c4 : W.cell? ⟨p, 4, none⟩ = some wv
  c5 : W.cell? ⟨p, 5, none⟩ = some (.slice (some ⟨lb, 0, none⟩) m m)
  fr : ∀ j, j < 6 → W.frozen? ⟨p, j, none⟩ = false
  ro : Row 1 S W ov op.length (iv (nl op))
  rw : Row 3 S W wv sv.length (stV sv)
  ne : ov.ownBlock ≠ none → ov.ownBlock ≠ wv.ownBlock
  rb : Row 1 w0.heap.size W (.slice (some ⟨bb, 0, none⟩) m m) m (bkv bk m)
  rl : Row 1 w0.heap.size W (.slice (some ⟨lb, 0, none⟩) m m) m (bkv ls m)
  left : ∀ s ∈ sv, RI w0 s.2 (nl s.1.l)
  sp : p < S
  sb : bb < S
  sl : lb < S
  bn : bb ≠ lb
  bp : bb ≠ p
  lp : lb ≠ p
  wq : w0.heap.size ≤ p
  sz : S ≤ W.heap.size
theorem HuntM.pl {w0 : World} {S p bb lb m : Nat} {fv hv ov wv : Value} {op : List Nat} {bk ls : Nat → Nat} {sv : List (Stp × Value)} {W : World} (h : HuntM w0 S p bb lb m fv hv ov wv op bk ls sv W) : p < W.heap.size := cell_lt h.c0
theorem HuntM.below {w0 : World} {S p bb lb m : Nat} {fv hv ov wv : Value} {op : List Nat} {bk ls : Nat → Nat} {sv : List (Stp × Value)} {W W' : World} (h : HuntM w0 S p bb lb m fv hv ov wv op bk ls sv W) (hb : Below W.heap.size W W') : HuntM w0 S p bb lb m fv hv ov wv op bk ls sv W' := by
  have hp := h.pl
  have hc : ∀ j, W'.cell? ⟨p, j, none⟩ = W.cell? ⟨p, j, none⟩ := fun j => hb.cell (p := ⟨p, j, none⟩) hp
  exact ⟨h.bl.trans (hb.mono h.bl.size), (hc 0).trans h.c0, (hc 1).trans h.c1, (hc 2).trans h.c2, (hc 3).trans h.c3, (hc 4).trans h.c4, (hc 5).trans h.c5, fun j hj => (hb.frozen (p := ⟨p, j, none⟩) hp).trans (h.fr j hj), h.ro.below hb, h.rw.below hb, h.ne, h.rb.below hb, h.rl.below hb, h.left, h.sp, h.sb, h.sl, h.bn, h.bp, h.lp, h.wq, Nat.le_trans h.sz hb.size⟩
theorem Row.cellK {k B b n cap j : Nat} {w : World} {cs : List Value} {u : Value} (h : Row k B w (.slice (some ⟨b, 0, none⟩) n cap) n cs) (hj : cs[j]? = some u) : w.cell? ⟨b, j, none⟩ = some u ∧ w.frozen? ⟨b, j, none⟩ = false ∧ B ≤ b ∧ b < w.heap.size ∧ n ≤ cap ∧ cap ≤ maxLen := by
  obtain ⟨h0, ⟨h, _⟩ | ⟨b', cap', h1, h2, h3, h4, h5, h6, h7⟩⟩ := h
  · cases h
  · injection h1 with e1 e2 e3
    injection e1 with e1
    injection e1 with e1
    subst e1; subst e3
    have hl := (List.getElem?_eq_some_iff.1 hj).1
    exact ⟨h7 j u hj, (h6 j (by rw [h0] at hl; exact Nat.lt_of_lt_of_le hl (Nat.mul_le_mul_right k h4))).2, h2, h3, h4, h5⟩
theorem Row.frontK {k B n b cap m : Nat} {w : World} {cs : List Value} (h : Row k B w (.slice (some ⟨b, 0, none⟩) n cap) n cs) (hm : m ≤ n) : Row k B w (.slice (some ⟨b, 0, none⟩) m cap) m (cs.take (m * k)) := by
  obtain ⟨h0, ⟨h, _⟩ | ⟨b', cap', h1, h2, h3, h4, h5, h6, h7⟩⟩ := h
  · cases h
  · injection h1 with e1 e2 e3
    injection e1 with e1
    injection e1 with e1
    subst e1; subst e3
    refine ⟨by rw [List.length_take, h0]; exact Nat.min_eq_left (Nat.mul_le_mul_right k hm), .inr ⟨b, cap, rfl, h2, h3, by omega, h5, h6, fun j u hj => h7 j u ?_⟩⟩
    rw [List.getElem?_take] at hj
    split at hj
    · exact hj
    · cases hj
end Go.Proofs.YtfpepoebammeoaaGreat
set_option linter.unusedVariables false
namespace Go.Proofs.YtfpepoebammeoaaGreat
open Go.ChangeShapes Go.WideShapes Go.ChangeAt Go.RowKit

section
variable {w0 : World} {S p bb lb m : Nat} {fv hv ov wv : Value} {op : List Nat} {bk ls : Nat → Nat} {sv : List (Stp × Value)} {W W' : World}

theorem HuntM.drewN {d : Nat} (h : HuntM w0 S p bb lb m fv hv ov wv op bk ls sv W) : HuntM w0 S p bb lb m fv hv ov wv op bk ls sv (W.drewN d) := h.below (Below.drewN (Below.refl _ _))
theorem HuntM.ownO (h : HuntM w0 S p bb lb m fv hv ov wv op bk ls sv W) {i : Nat} (hi : ov.ownBlock = some i) : p + 1 ≤ i ∧ i < W.heap.size := by have := h.ro.lt i hi; have := h.sp; omega
theorem HuntM.ownO2 (h : HuntM w0 S p bb lb m fv hv ov wv op bk ls sv W) {i : Nat} (hi : ov.ownBlock = some i) : bb < i ∧ lb < i ∧ S ≤ i := by have := h.ro.lt i hi; have := h.sb; have := h.sl; omega
theorem HuntM.ownW (h : HuntM w0 S p bb lb m fv hv ov wv op bk ls sv W) {i : Nat} (hi : wv.ownBlock = some i) : p + 1 ≤ i ∧ i < W.heap.size := by have := h.rw.lt i hi; have := h.sp; omega
theorem HuntM.ownW2 (h : HuntM w0 S p bb lb m fv hv ov wv op bk ls sv W) {i : Nat} (hi : wv.ownBlock = some i) : bb < i ∧ lb < i ∧ S ≤ i := by have := h.rw.lt i hi; have := h.sb; have := h.sl; omega
theorem HuntM.wp (h : HuntM w0 S p bb lb m fv hv ov wv op bk ls sv W) : w0.heap.size ≤ bb ∧ w0.heap.size ≤ lb ∧ w0.heap.size ≤ p := ⟨(h.rb.lt bb rfl).1, (h.rl.lt lb rfl).1, h.wq⟩
theorem below_store {w0 W : World} {q : Addr} {u : Value} (h : Below w0.heap.size w0 W) (hq : w0.heap.size ≤ q.block) : Below w0.heap.size w0 (W.setCell q u) := h.setCell hq u

theorem HuntM.putO {v' : Value} {op' : List Nat} (h : HuntM w0 S p bb lb m fv hv ov wv op bk ls sv W) (ho : Off (fun i => ov.ownBlock = some i) W W') (hr : Row 1 S W' v' op'.length (iv (nl op'))) (hn : v'.ownBlock = ov.ownBlock ∨ ∃ k, v'.ownBlock = some k ∧ W.heap.size ≤ k) :
    HuntM w0 S p bb lb m fv hv v' wv op' bk ls sv (W'.setCell ⟨p, 2, none⟩ v') := by
  have hpl := h.pl
  obtain ⟨hwb, hwl, hwp⟩ := h.wp
  have hz : ∀ i, i ≤ p → ¬ ov.ownBlock = some i := fun i hi e => by have := (h.ownO e).1; omega
  have hc : ∀ j, W'.cell? ⟨p, j, none⟩ = W.cell? ⟨p, j, none⟩ := fun j => ho.cell (p := ⟨p, j, none⟩) hpl (hz p (Nat.le_refl _))
  have hf : ∀ j, W'.frozen? ⟨p, j, none⟩ = W.frozen? ⟨p, j, none⟩ := fun j => ho.frozen (p := ⟨p, j, none⟩) hpl (hz p (Nat.le_refl _))
  have ne : ∀ j, j ≠ 2 → ((⟨p, 2, none⟩ : Addr) ≠ ⟨p, j, none⟩) := fun j hj e => hj (by injection e with _ e _; exact e.symm)
  have ce : ∀ j x, j ≠ 2 → W.cell? ⟨p, j, none⟩ = some x → (W'.setCell ⟨p, 2, none⟩ v').cell? ⟨p, j, none⟩ = some x := fun j x hj hx => by
    rw [World.cell?_setCell_other _ _ _ _ (ne j hj), hc, hx]
  have hwn : wv.ownBlock ≠ some p := fun e => by have := (h.ownW e).1; omega
  have hwo : ∀ b, wv.ownBlock = some b → ¬ ov.ownBlock = some b := fun b hb e => h.ne (by rw [e]; exact Option.some_ne_none _) (by rw [hb, e])
  have hbp := h.bp
  have hlp := h.lp
  have hsp := h.sp
  have hsb := h.sb
  have hsl := h.sl
  have hsz := h.sz
  refine ⟨?_, ce 0 _ (by decide) h.c0, ce 1 _ (by decide) h.c1, ?_, ce 3 _ (by decide) h.c3, ce 4 _ (by decide) h.c4, ce 5 _ (by decide) h.c5, fun j hj => by rw [World.frozen?_setCell, hf]; exact h.fr j hj, ?_, ?_, ?_, ?_, ?_, h.left, hsp, hsb, hsl, h.bn, hbp, hlp, h.wq, by have := ho.size; simp [World.setCell]; omega⟩
  · exact below_store (h.bl.trans (ho.below (B := w0.heap.size) (fun i hi => by have := (h.ownO hi).1; omega) h.bl.size)) (by show _ ≤ p; omega)
  · exact World.cell?_setCell_same _ _ _ ((hc 2).trans h.c2)
  · exact hr.setOther (fun e => by have := (hr.lt p e).1; omega) _
  · exact (h.rw.off ho hwo).setOther hwn _
  · intro hne e
    rcases hn with hn | ⟨k, hk, hkl⟩
    · exact h.ne (by rw [← hn]; exact hne) (by rw [← hn]; exact e)
    · have := (h.ownW (e.symm.trans hk)).2
      omega
  · exact (h.rb.off ho (fun b hb e => by have : bb = b := Option.some.inj hb; have := (h.ownO2 e).1; omega)).setOther (fun e => by have : bb = p := Option.some.inj e; omega) _
  · exact (h.rl.off ho (fun b hb e => by have : lb = b := Option.some.inj hb; have := (h.ownO2 e).2.1; omega)).setOther (fun e => by have : lb = p := Option.some.inj e; omega) _
theorem HuntM.putW {v' : Value} {sv' : List (Stp × Value)} (h : HuntM w0 S p bb lb m fv hv ov wv op bk ls sv W) (ho : Off (fun i => wv.ownBlock = some i) W W') (hr : Row 3 S W' v' sv'.length (stV sv')) (hn : v'.ownBlock = wv.ownBlock ∨ ∃ k, v'.ownBlock = some k ∧ W.heap.size ≤ k) (hl : ∀ s ∈ sv', RI w0 s.2 (nl s.1.l)) :
    HuntM w0 S p bb lb m fv hv ov v' op bk ls sv' (W'.setCell ⟨p, 4, none⟩ v') := by
  have hpl := h.pl
  obtain ⟨hwb, hwl, hwp⟩ := h.wp
  have hz : ∀ i, i ≤ p → ¬ wv.ownBlock = some i := fun i hi e => by have := (h.ownW e).1; omega
  have hc : ∀ j, W'.cell? ⟨p, j, none⟩ = W.cell? ⟨p, j, none⟩ := fun j => ho.cell (p := ⟨p, j, none⟩) hpl (hz p (Nat.le_refl _))
  have hf : ∀ j, W'.frozen? ⟨p, j, none⟩ = W.frozen? ⟨p, j, none⟩ := fun j => ho.frozen (p := ⟨p, j, none⟩) hpl (hz p (Nat.le_refl _))
  have ne : ∀ j, j ≠ 4 → ((⟨p, 4, none⟩ : Addr) ≠ ⟨p, j, none⟩) := fun j hj e => hj (by injection e with _ e _; exact e.symm)
  have ce : ∀ j x, j ≠ 4 → W.cell? ⟨p, j, none⟩ = some x → (W'.setCell ⟨p, 4, none⟩ v').cell? ⟨p, j, none⟩ = some x := fun j x hj hx => by
    rw [World.cell?_setCell_other _ _ _ _ (ne j hj), hc, hx]
  have hwn : ov.ownBlock ≠ some p := fun e => by have := (h.ownO e).1; omega
  have hwo : ∀ b, ov.ownBlock = some b → ¬ wv.ownBlock = some b := fun b hb e => h.ne (by rw [hb]; exact Option.some_ne_none _) (by rw [hb, e])
  have hbp := h.bp
  have hlp := h.lp
  have hsp := h.sp
  have hsb := h.sb
  have hsl := h.sl
  have hsz := h.sz
  refine ⟨?_, ce 0 _ (by decide) h.c0, ce 1 _ (by decide) h.c1, ce 2 _ (by decide) h.c2, ce 3 _ (by decide) h.c3, ?_, ce 5 _ (by decide) h.c5, fun j hj => by rw [World.frozen?_setCell, hf]; exact h.fr j hj, ?_, ?_, ?_, ?_, ?_, hl, hsp, hsb, hsl, h.bn, hbp, hlp, h.wq, by have := ho.size; simp [World.setCell]; omega⟩
  · exact below_store (h.bl.trans (ho.below (B := w0.heap.size) (fun i hi => by have := (h.ownW hi).1; omega) h.bl.size)) (by show _ ≤ p; omega)
  · exact World.cell?_setCell_same _ _ _ ((hc 4).trans h.c4)
  · exact (h.ro.off ho hwo).setOther hwn _
  · exact hr.setOther (fun e => by have := (hr.lt p e).1; omega) _
  · intro hne e
    rcases hn with hn | ⟨k, hk, hkl⟩
    · exact h.ne hne (by rw [← hn]; exact e)
    · have := (h.ownO (e.trans hk)).2
      omega
  · exact (h.rb.off ho (fun b hb e => by have : bb = b := Option.some.inj hb; have := (h.ownW2 e).1; omega)).setOther (fun e => by have : bb = p := Option.some.inj e; omega) _
  · exact (h.rl.off ho (fun b hb e => by have : lb = b := Option.some.inj hb; have := (h.ownW2 e).2.1; omega)).setOther (fun e => by have : lb = p := Option.some.inj e; omega) _
theorem HuntM.putB {v x : Nat} (h : HuntM w0 S p bb lb m fv hv ov wv op bk ls sv W) (hv' : v < m) : HuntM w0 S p bb lb m fv hv ov wv op (upd bk v x) ls sv (W.setCell ⟨bb, v, none⟩ (.int .i64 (x : Int))) := by
  obtain ⟨hwb, hwl, hwp⟩ := h.wp
  have hbp := h.bp
  have hlp := h.lp
  have hsp := h.sp
  have hsb := h.sb
  have hsl := h.sl
  have hsz := h.sz
  have hbn := h.bn
  have ce : ∀ j y, W.cell? ⟨p, j, none⟩ = some y → (W.setCell ⟨bb, v, none⟩ (.int .i64 (x : Int))).cell? ⟨p, j, none⟩ = some y := fun j y hy => by
    rw [World.cell?_setCell_other _ _ _ _ (fun e => by injection e with e _ _; omega), hy]
  have hb := h.rb.put (j := v) (by rw [bkv_len]; exact hv') (.int .i64 (x : Int))
  rw [bkv_set _ hv'] at hb
  exact ⟨below_store h.bl hwb, ce 0 _ h.c0, ce 1 _ h.c1, ce 2 _ h.c2, ce 3 _ h.c3, ce 4 _ h.c4, ce 5 _ h.c5, fun j hj => by rw [World.frozen?_setCell]; exact h.fr j hj, h.ro.setOther (fun e => by have := h.ownO2 e; simp only at this; omega) _, h.rw.setOther (fun e => by have := h.ownW2 e; simp only at this; omega) _, h.ne, hb, h.rl.setOther (fun e => by have : lb = bb := Option.some.inj e; omega) _, h.left, hsp, hsb, hsl, hbn, hbp, hlp, h.wq, by simp [World.setCell]; exact hsz⟩
theorem HuntM.putL {v x : Nat} (h : HuntM w0 S p bb lb m fv hv ov wv op bk ls sv W) (hv' : v < m) : HuntM w0 S p bb lb m fv hv ov wv op bk (upd ls v x) sv (W.setCell ⟨lb, v, none⟩ (.int .i64 (x : Int))) := by
  obtain ⟨hwb, hwl, hwp⟩ := h.wp
  have hbp := h.bp
  have hlp := h.lp
  have hsp := h.sp
  have hsb := h.sb
  have hsl := h.sl
  have hsz := h.sz
  have hbn := h.bn
  have ce : ∀ j y, W.cell? ⟨p, j, none⟩ = some y → (W.setCell ⟨lb, v, none⟩ (.int .i64 (x : Int))).cell? ⟨p, j, none⟩ = some y := fun j y hy => by
    rw [World.cell?_setCell_other _ _ _ _ (fun e => by injection e with e _ _; omega), hy]
  have hb := h.rl.put (j := v) (by rw [bkv_len]; exact hv') (.int .i64 (x : Int))
  rw [bkv_set _ hv'] at hb
  exact ⟨below_store h.bl hwl, ce 0 _ h.c0, ce 1 _ h.c1, ce 2 _ h.c2, ce 3 _ h.c3, ce 4 _ h.c4, ce 5 _ h.c5, fun j hj => by rw [World.frozen?_setCell]; exact h.fr j hj, h.ro.setOther (fun e => by have := h.ownO2 e; simp only at this; omega) _, h.rw.setOther (fun e => by have := h.ownW2 e; simp only at this; omega) _, h.ne, h.rb.setOther (fun e => by have : bb = lb := Option.some.inj e; omega) _, hb, h.left, hsp, hsb, hsl, hbn, hbp, hlp, h.wq, by simp [World.setCell]; exact hsz⟩
theorem stV_at {s : Stp} {u : Value} {r : List (Stp × Value)} : (stV ((s, u) :: r))[r.length * 3]? = some (.int .i64 (s.c : Int)) ∧ (stV ((s, u) :: r))[r.length * 3 + 1]? = some (.int .i64 (s.p : Int)) ∧ (stV ((s, u) :: r))[r.length * 3 + 2]? = some u := by
  rw [stV_cons]
  have hl := stV_len r
  refine ⟨?_, ?_, ?_⟩
  · rw [List.getElem?_append_right (by omega), hl, Nat.sub_self]; rfl
  · rw [List.getElem?_append_right (by omega), hl, show r.length * 3 + 1 - r.length * 3 = 1 by omega]; rfl
  · rw [List.getElem?_append_right (by omega), hl, show r.length * 3 + 2 - r.length * 3 = 2 by omega]; rfl
theorem HuntM.last {s : Stp} {u : Value} {r : List (Stp × Value)} (h : HuntM w0 S p bb lb m fv hv ov wv op bk ls ((s, u) :: r) W) : ∃ q c, wv = .slice (some ⟨q, 0, none⟩) (r.length + 1) c ∧ r.length + 1 ≤ c ∧ c ≤ maxLen ∧ p + 1 ≤ q ∧ q < W.heap.size ∧ W.cell? ⟨q, r.length * 3, none⟩ = some (.int .i64 (s.c : Int)) ∧ W.cell? ⟨q, r.length * 3 + 1, none⟩ = some (.int .i64 (s.p : Int)) ∧ W.cell? ⟨q, r.length * 3 + 2, none⟩ = some u ∧ W.frozen? ⟨q, r.length * 3 + 2, none⟩ = false := by
  have hr := h.rw
  rw [List.length_cons] at hr
  obtain ⟨h0, ⟨_, e⟩ | ⟨q, c, rfl, h2, h3, h4, h5, h6, h7⟩⟩ := hr
  · omega
  · exact ⟨q, c, rfl, h4, h5, by have := h.sp; omega, h3, h7 _ _ stV_at.1, h7 _ _ stV_at.2.1, h7 _ _ stV_at.2.2, (h6 _ (by omega)).2⟩
theorem HuntM.pop {s : Stp} {u : Value} {r : List (Stp × Value)} {q c : Nat} (h : HuntM w0 S p bb lb m fv hv ov (.slice (some ⟨q, 0, none⟩) (r.length + 1) c) op bk ls ((s, u) :: r) W) : HuntM w0 S p bb lb m fv hv ov (.slice (some ⟨q, 0, none⟩) r.length c) op bk ls r (W.setCell ⟨p, 4, none⟩ (.slice (some ⟨q, 0, none⟩) r.length c)) := by
  have hr := h.rw
  rw [List.length_cons] at hr
  have hf := hr.frontK (m := r.length) (by omega)
  rw [stV_cons, List.take_left' (stV_len r)] at hf
  exact h.putW (Off.refl _ _) hf (.inl rfl) (fun s' hs => h.left s' (List.mem_cons_of_mem _ hs))
theorem HuntM.putLast {c0 p0 : Nat} {l l' : List Nat} {u u' : Value} {r : List (Stp × Value)} {q c : Nat} (h : HuntM w0 S p bb lb m fv hv ov (.slice (some ⟨q, 0, none⟩) (r.length + 1) c) op bk ls ((⟨c0, p0, l⟩, u) :: r) W) (hu : RI w0 u' (nl l')) :
    HuntM w0 S p bb lb m fv hv ov (.slice (some ⟨q, 0, none⟩) (r.length + 1) c) op bk ls ((⟨c0, p0, l'⟩, u') :: r) (W.setCell ⟨q, r.length * 3 + 2, none⟩ u') := by
  obtain ⟨hwb, hwl, hwp⟩ := h.wp
  have hbp := h.bp
  have hlp := h.lp
  have hsp := h.sp
  have hsb := h.sb
  have hsl := h.sl
  have hsz := h.sz
  have hq := h.ownW (i := q) rfl
  have hq2 := h.ownW2 (i := q) rfl
  have hr := h.rw
  rw [List.length_cons] at hr
  have hrp := hr.put (j := r.length * 3 + 2) (by rw [hr.1]; omega) u'
  have hset : (stV ((⟨c0, p0, l⟩, u) :: r)).set (r.length * 3 + 2) u' = stV ((⟨c0, p0, l'⟩, u') :: r) := by
    rw [stV_cons, stV_cons, List.set_append_right _ _ (by rw [stV_len]; omega), stV_len, show r.length * 3 + 2 - r.length * 3 = 2 by omega]
    rfl
  rw [hset] at hrp
  have ce : ∀ j y, W.cell? ⟨p, j, none⟩ = some y → (W.setCell ⟨q, r.length * 3 + 2, none⟩ u').cell? ⟨p, j, none⟩ = some y := fun j y hy => by
    rw [World.cell?_setCell_other _ _ _ _ (fun e => by injection e with e _ _; omega), hy]
  refine ⟨below_store h.bl (by show _ ≤ q; omega), ce 0 _ h.c0, ce 1 _ h.c1, ce 2 _ h.c2, ce 3 _ h.c3, ce 4 _ h.c4, ce 5 _ h.c5, fun j hj => by rw [World.frozen?_setCell]; exact h.fr j hj, h.ro.setOther (fun e => h.ne (by rw [e]; exact Option.some_ne_none _) (by rw [e]; rfl)) _, hrp, h.ne, h.rb.setOther (fun e => by have : bb = q := Option.some.inj e; omega) _, h.rl.setOther (fun e => by have : lb = q := Option.some.inj e; omega) _, ?_, hsp, hsb, hsl, h.bn, hbp, hlp, h.wq, by simp [World.setCell]; exact hsz⟩
  intro s hs
  rcases List.mem_cons.1 hs with rfl | hs
  · exact hu
  · exact h.left s (List.mem_cons_of_mem _ hs)
end
end Go.Proofs.YtfpepoebammeoaaGreat
set_option linter.unusedVariables false
namespace Go.Proofs.YtfpepoebammeoaaGreat
open Go.ChangeShapes Go.WideShapes Go.ChangeAt Go.RowKit

def slv (rb : Nat → Nat) (m n : Nat) : List Value := (List.range n).map fun i => .slice (some ⟨rb i, 0, none⟩) m m
theorem slv_at (rb : Nat → Nat) (m : Nat) {n i : Nat} (h : i < n) : (slv rb m n)[i]? = some (.slice (some ⟨rb i, 0, none⟩) m m) := by simp [slv, h]
theorem slv_snoc (rb : Nat → Nat) (m n b : Nat) : slv (upd rb n b) m (n + 1) = slv rb m n ++ [.slice (some ⟨b, 0, none⟩) m m] := by
  unfold slv
  rw [List.range_succ, List.map_append]
  congr 1
  · exact List.map_congr_left fun i hi => by rw [upd_other _ _ (fun e => by have := List.mem_range.1 hi; omega)]
  · simp [upd_same]
def tbv (f : Nat → Bool) (m : Nat) : List Value := (List.range m).map fun j => .bool (f j)
theorem tbv_len (f : Nat → Bool) (m : Nat) : (tbv f m).length = m := by simp [tbv]
theorem tbv_at (f : Nat → Bool) {m j : Nat} (h : j < m) : (tbv f m)[j]? = some (.bool (f j)) := by simp [tbv, h]
theorem tbv_congr {f g : Nat → Bool} {m : Nat} (h : ∀ j, j < m → f j = g j) : tbv f m = tbv g m := List.map_congr_left fun j hj => by rw [h j (List.mem_range.1 hj)]
theorem tbv_set (f g : Nat → Bool) {m j : Nat} (h : j < m) (x : Bool) (hg : ∀ i, i < m → g i = if i = j then x else f i) : (tbv f m).set j (.bool x) = tbv g m := by
  apply List.ext_getElem?
  intro u
  by_cases hu : u < m
  · by_cases e : j = u
    · subst e
      rw [List.getElem?_set_self (by rw [tbv_len]; exact h), tbv_at _ hu, hg _ hu, if_pos rfl]
    · rw [List.getElem?_set_ne e, tbv_at _ hu, tbv_at _ hu, hg _ hu, if_neg (fun x => e x.symm)]
  · rw [List.getElem?_eq_none (by rw [List.length_set, tbv_len]; omega), List.getElem?_eq_none (by rw [tbv_len]; omega)]
theorem made_boolk {w : World} {m B : Nat} (hm : m ≤ 1000000) (hB : B ≤ w.heap.size) (t : TypeId) : Row 1 B (w.alloc (.cells (madeCells #[.bool false] m) t)) (.slice (some ⟨w.heap.size, 0, none⟩) m m) m (tbv (fun _ => false) m) :=
  row_new hB (by rw [tbv_len]; omega) (Nat.le_refl _) (by unfold maxLen; omega) (by simp [size_madeCells]) (.inl rfl) (fun j u hu => by
    have hj : j < m := by have := (List.getElem?_eq_some_iff.1 hu).1; rw [tbv_len] at this; exact this
    rw [tbv_at _ hj] at hu
    cases hu
    simp [madeCells, hj, Nat.mod_one])

structure Tab (B : Nat) (w : World) (v : Value) (n m : Nat) (rb : Nat → Nat) (T : Nat → Nat → Bool) : Prop where
  r : Row 1 B w v n (slv rb m n)
  c : ∀ i, i < n → Row 1 B w (.slice (some ⟨rb i, 0, none⟩) m m) m (tbv (T i) m)
  o : ∀ i, i < n → v.ownBlock ≠ some (rb i)
  d : ∀ i k, i < n → k < n → rb i = rb k → i = k
theorem Tab.nil (B m : Nat) (w : World) (rb : Nat → Nat) (T : Nat → Nat → Bool) : Tab B w (.slice none 0 0) 0 m rb T :=
  ⟨Row.nil _ _ _, fun i h => absurd h (Nat.not_lt_zero _), fun i h => absurd h (Nat.not_lt_zero _), fun i k h => absurd h (Nat.not_lt_zero _)⟩
theorem Tab.below {B n m : Nat} {w w' : World} {v : Value} {rb : Nat → Nat} {T : Nat → Nat → Bool} (h : Tab B w v n m rb T) (hb : Below w.heap.size w w') : Tab B w' v n m rb T :=
  ⟨h.r.below hb, fun i hi => (h.c i hi).below hb, h.o, h.d⟩
theorem Tab.drew {B n m : Nat} {w : World} {v : Value} {rb : Nat → Nat} {T : Nat → Nat → Bool} (h : Tab B w v n m rb T) : Tab B w.drew v n m rb T := ⟨h.r.drew, fun i hi => (h.c i hi).drew, h.o, h.d⟩
theorem Tab.lt {B n m i : Nat} {w : World} {v : Value} {rb : Nat → Nat} {T : Nat → Nat → Bool} (h : Tab B w v n m rb T) (hi : i < n) : B ≤ rb i ∧ rb i < w.heap.size := (h.c i hi).lt (rb i) rfl
theorem Tab.push {B n m : Nat} {w w1 : World} {v v1 : Value} {rb : Nat → Nat} {T : Nat → Nat → Bool} {o : Obj} (h : Tab B w v n m rb T) (h1 : Row 1 B (w.alloc o) (.slice (some ⟨w.heap.size, 0, none⟩) m m) m (tbv (fun _ => false) m))
    (hr : Row 1 B w1 v1 (n + 1) (slv rb m n ++ [.slice (some ⟨w.heap.size, 0, none⟩) m m]))
    (ho : Off (fun i => v.ownBlock = some i) (w.alloc o) w1) (hv : v1.ownBlock = v.ownBlock ∨ ∃ k, v1.ownBlock = some k ∧ w.heap.size < k) :
    Tab B w1 v1 (n + 1) m (upd rb n w.heap.size) (fun i j => if i = n then false else T i j) := by
  have hv0 : ∀ b, v.ownBlock = some b → b < w.heap.size := fun b hb => (h.r.lt b hb).2
  refine ⟨by rw [slv_snoc]; exact hr, fun i hi => ?_, fun i hi e => ?_, fun i k hi hk e => ?_⟩
  · by_cases he : i = n
    · subst he
      rw [upd_same]
      have e : tbv (fun j => if i = i then false else T i j) m = tbv (fun _ => false) m := tbv_congr fun j _ => by simp
      rw [e]
      exact h1.off ho (fun b hb e2 => by
        have : b = w.heap.size := by simp [Value.ownBlock] at hb; exact hb.symm
        have := hv0 b e2
        omega)
    · rw [upd_other _ _ he]
      have e2 : tbv (fun j => if i = n then false else T i j) m = tbv (T i) m := tbv_congr fun j _ => by simp [he]
      rw [e2]
      exact ((h.c i (by omega)).alloc _).off ho (fun b hb e3 => h.o i (by omega) (by rw [e3]; exact hb.symm))
  · by_cases he : i = n
    · subst he
      rw [upd_same] at e
      rcases hv with hv | ⟨k, hk, hlt⟩
      · rw [hv] at e
        have := hv0 _ e
        omega
      · rw [hk] at e
        injection e with e
        omega
    · rw [upd_other _ _ he] at e
      rcases hv with hv | ⟨k, hk, hlt⟩
      · rw [hv] at e
        exact h.o i (by omega) e
      · rw [hk] at e
        injection e with e
        have := (h.lt (i := i) (by omega)).2
        omega
  · by_cases h1 : i = n <;> by_cases h2 : k = n
    · omega
    · subst h1
      rw [upd_same, upd_other _ _ h2] at e
      have := (h.lt (i := k) (by omega)).2
      omega
    · subst h2
      rw [upd_same, upd_other _ _ h1] at e
      have := (h.lt (i := i) (by omega)).2
      omega
    · rw [upd_other _ _ h1, upd_other _ _ h2] at e
      exact h.d i k (by omega) (by omega) e
theorem Tab.set {B n m i j : Nat} {w : World} {v : Value} {rb : Nat → Nat} {T T' : Nat → Nat → Bool} (h : Tab B w v n m rb T) (hi : i < n) (hj : j < m) (x : Bool) (hT : ∀ a b, a < n → b < m → T' a b = if a = i ∧ b = j then x else T a b) :
    Tab B (w.setCell ⟨rb i, j, none⟩ (.bool x)) v n m rb T' := by
  refine ⟨h.r.setOther (h.o i hi) _, fun k hk => ?_, h.o, h.d⟩
  by_cases he : k = i
  · subst he
    have h1 := (h.c k hk).put (j := j) (by rw [tbv_len]; exact hj) (.bool x)
    rw [tbv_set (T k) (T' k) hj x (fun b hb => by rw [hT k b hk hb]; simp)] at h1
    exact h1
  · have h1 := (h.c k hk).setOther (p := ⟨rb i, j, none⟩) (fun e => he (h.d k i hk hi (by injection e))) (.bool x)
    rw [tbv_congr (g := T' k) (fun b hb => by rw [hT k b hk hb, if_neg (fun e => he e.1)])] at h1
    exact h1
theorem Tab.congr {B n m : Nat} {w : World} {v : Value} {rb : Nat → Nat} {T T' : Nat → Nat → Bool} (h : Tab B w v n m rb T) (hT : ∀ a b, a < n → b < m → T' a b = T a b) : Tab B w v n m rb T' :=
  ⟨h.r, fun i hi => by rw [tbv_congr (f := T' i) (g := T i) (fun b hb => hT i b hi hb)]; exact h.c i hi, h.o, h.d⟩
theorem Tab.form {B n m : Nat} {w : World} {v : Value} {rb : Nat → Nat} {T : Nat → Nat → Bool} (h : Tab B w v n m rb T) (hn : 0 < n) : ∃ b c, v = .slice (some ⟨b, 0, none⟩) n c ∧ n ≤ c ∧ c ≤ maxLen := by
  obtain ⟨b, c, h1, _, _, h4, h5, _⟩ := h.r.pos hn
  exact ⟨b, c, h1, h4, h5⟩
theorem Tab.row {B n m b c i : Nat} {w : World} {rb : Nat → Nat} {T : Nat → Nat → Bool} (h : Tab B w (.slice (some ⟨b, 0, none⟩) n c) n m rb T) (hi : i < n) : w.cell? ⟨b, i, none⟩ = some (.slice (some ⟨rb i, 0, none⟩) m m) := (h.r.cellF (slv_at rb m hi)).1
theorem Tab.cell {B n m i j : Nat} {w : World} {v : Value} {rb : Nat → Nat} {T : Nat → Nat → Bool} (h : Tab B w v n m rb T) (hi : i < n) (hj : j < m) : w.cell? ⟨rb i, j, none⟩ = some (.bool (T i j)) ∧ w.frozen? ⟨rb i, j, none⟩ = false := by
  have h1 := (h.c i hi).cellF (tbv_at (T i) hj)
  exact ⟨h1.1, h1.2.1⟩
theorem Tab.stored {B n m i j : Nat} {w0 w : World} {v : Value} {rb : Nat → Nat} {T : Nat → Nat → Bool} (h : Tab B w v n m rb T) (hi : i < n) (hb : Below B w0 w) (x : Value) : Below B w0 (w.setCell ⟨rb i, j, none⟩ x) :=
  hb.setCell (h.lt hi).1 x
end Go.Proofs.YtfpepoebammeoaaGreat
set_option linter.unusedVariables false
namespace Go.Proofs.YtfpepoebammeoaaGreat
open Go.ChangeShapes Go.WideShapes Go.ChangeAt Go.RowKit

set_option maxHeartbeats 400000 in
theorem ksize_any (a : Option Addr) (m c : Nat) (hv : Value) (w : World) (hm : m ≤ 1000000) :
    Calls Tryz.prog 72 #[.agg #[.slice a (m + 1) c, hv]] w fun e w' => e = .returned (.int .i64 (m : Nat)) ∧ w' = w.alloc (.cells #[.slice a (m + 1) c, hv] 71) := by
  go_enter Tryz.func72, Tryz.ntmps72
  go_wp2
  go_ret
  exact ⟨ret_int (by omega), rfl⟩

set_option maxHeartbeats 1000000 in
theorem behind_any (fv hv : Value) (m E : Nat) (F : Nat → Nat) (H : List Nat) (w0 w : World) (hw : WebK w0 fv hv m E F H) (hb0 : Below w0.heap.size w0 w) (hm : m ≤ 1000000) (hE : E ≤ 1000000) (v : Nat) (hv' : v < m) :
    Calls Tryz.prog 76 #[.agg #[fv, hv], .int .i64 (v : Nat)] w fun e w' => ∃ bv, e = .returned bv ∧ RI w0 bv (nl (adjK m F H v)) ∧ Below w.heap.size w w' := by
  have hlen := adjK_len hw hv'
  obtain ⟨fb, fc, rfl, f2, f3, f4, f5⟩ := hw.f
  obtain ⟨hb, hc, rfl, h2, h3, h4, h5⟩ := hw.h
  have hmo := hw.mono v hv'
  have hle := hw.le (v + 1) (by omega)
  obtain ⟨lo, hlo⟩ : ∃ lo, lo = F v := ⟨_, rfl⟩
  obtain ⟨hi, hhi⟩ : ∃ hi, hi = F (v + 1) := ⟨_, rfl⟩
  have d0 := f5 v (by omega)
  have d1 := f5 (v + 1) (by omega)
  rw [← hlo] at hmo d0 hlen
  rw [← hhi] at hmo hle d1 hlen
  have hfr : ∀ c', c' = hc - lo → RI w0 (.slice (if hc = lo then some ⟨hb, 0, none⟩ else some ⟨hb, lo, none⟩) (hi - lo) c') (nl (adjK m F H v)) := by
    intro c' hc'
    by_cases h0 : hi - lo = 0
    · rw [h0]
      exact .inl ⟨List.length_eq_zero_iff.1 (by rw [nl_len, hlen, h0]), _, _, rfl⟩
    · rw [if_neg (by omega)]
      refine .inr ⟨fun e => h0 (by rw [← hlen, ← nl_len, e]; rfl), hb, lo, c', by rw [nl_len, hlen], by rw [nl_len, hlen]; omega, by unfold maxLen at h3 ⊢; omega, h4, fun j y hy => ?_⟩
      obtain ⟨x, hx, rfl⟩ := nl_inv hy
      have := adjK_at hx
      rw [← hlo] at this
      exact h5 _ x this
  have HF := Lib.hid hfr
  have HF1 : Hid (hc = lo → RI w0 (.slice (some ⟨hb, 0, none⟩) (hi - lo) 0) (nl (adjK m F H v))) := Lib.hid (fun e => by
    have := hfr 0 (by omega)
    rw [if_pos e] at this
    exact this)
  unfold maxLen at f3 h3
  obtain ⟨M, hM⟩ : ∃ M, M = m + 1 := ⟨_, rfl⟩
  rw [← hM] at f2 ⊢
  have hv1 : v < M := by omega
  have hv2 : v + 1 < M := by omega
  have hM6 : M ≤ 1000001 := by omega
  obtain ⟨wb, hwb⟩ : ∃ wb, wb = w.alloc (.cells #[.slice (some ⟨fb, 0, none⟩) M fc, .slice (some ⟨hb, 0, none⟩) E hc] 71) := ⟨_, rfl⟩
  have hbb : Below w.heap.size w wb := by rw [hwb]; exact (Below.refl _ _).alloc (Nat.le_refl _) _
  have g0 : wb.cell? ⟨fb, v, none⟩ = some (.int .i64 (lo : Int)) := (hbb.cell (p := ⟨fb, v, none⟩) (Nat.lt_of_lt_of_le f4 hb0.size)).trans ((hb0.cell (p := ⟨fb, v, none⟩) f4).trans d0)
  have g1 : wb.cell? ⟨fb, v + 1, none⟩ = some (.int .i64 (hi : Int)) := (hbb.cell (p := ⟨fb, v + 1, none⟩) (Nat.lt_of_lt_of_le f4 hb0.size)).trans ((hb0.cell (p := ⟨fb, v + 1, none⟩) f4).trans d1)
  have k0 : wb.cell? ⟨w.heap.size, 0, none⟩ = some (.slice (some ⟨fb, 0, none⟩) M fc) := by rw [hwb, World.cell?_alloc_at _ _ _ _ rfl]; rfl
  have k1 : wb.cell? ⟨w.heap.size, 1, none⟩ = some (.slice (some ⟨hb, 0, none⟩) E hc) := by rw [hwb, World.cell?_alloc_at _ _ _ _ rfl]; rfl
  have HB := Lib.hid hbb
  clear hw hlen hlo hhi hfr f5 h5 d0 d1 hbb hM hv' hm hb0 f4 h4
  by_cases hx : hc = lo
  · have HF2 := Lib.hid (HF1.out hx)
    subst hx
    clear HF HF1
    go_enter Tryz.func76, Tryz.ntmps76
    go_wp2_with fail
    rw [← hwb]
    clear hwb
    go_quiet (fail)
    go_wp2_with fail
    go_ret
    exact ⟨_, rfl, HF2.out, Below.drewN HB.out⟩
  · go_enter Tryz.func76, Tryz.ntmps76
    go_wp2_with fail
    rw [← hwb]
    clear hwb
    go_quiet (fail)
    go_wp2_with fail
    go_ret
    have := HF.out (hc - lo) rfl
    rw [if_neg hx] at this
    exact ⟨_, rfl, this, Below.drewN HB.out⟩

set_option maxHeartbeats 1000000 in
theorem min_any (l : List Nat) (a : Option Addr) (n c : Nat) (w : World) (hr : RI w (.slice a n c) (nl l)) (hn : n = l.length) (h0 : 0 < n) (hm : n ≤ 1000000) :
    Calls Tryz.prog 117 #[.slice a n c] w fun e w' => e = .returned (.int .i64 (minL l : Nat)) ∧ ∃ d, w' = w.drewN d := by
  obtain ⟨b, o, rfl, hl, hb, hc, hcm, hx⟩ := hr.some h0
  unfold maxLen at hcm
  obtain ⟨x0, hx0⟩ : ∃ x0, l[0]? = some x0 := ⟨l[0]'(by omega), by simp⟩
  have d0 := hx 0 _ (nl_at hx0)
  have HX := Lib.hid hx
  have HN := Lib.hid hn
  have HM0 : Hid (minL (l.take 1) = x0) := Lib.hid (by
    cases l with
    | nil => simp at hx0
    | cons y l => simp at hx0; subst hx0; rfl)
  rw [Nat.add_zero] at d0
  clear hr hl hx hn hx0
  have hlt : ¬ (n : Int) < 1 := by omega
  go_enter Tryz.func117, Tryz.ntmps117
  go_wp2_with fail
  go_loopw [3, 4] (fun mv jv wr => ∃ j : Nat, jv = .int .i64 (j : Nat) ∧ 1 ≤ j ∧ j ≤ n ∧ mv = .int .i64 (minL (l.take j) : Nat) ∧ ∃ d, wr = w.drewN d) (fun _ jv _ => n - (intOf jv).toNat)
  case atStart => exact ⟨1, rfl, Nat.le_refl _, by omega, by rw [HM0.out], 0, rfl⟩
  case round =>
    obtain ⟨j, rfl, hj1, hjn, rfl, d, rfl⟩ := hrel
    by_cases hlt2 : j < n
    · obtain ⟨y, hy⟩ : ∃ y, l[j]? = some y := ⟨l[j]'(by rw [← HN.out]; exact hlt2), by simp⟩
      have hcy : (w.drewN d).cell? ⟨b, o + j, none⟩ = some (.int .i64 (y : Int)) := HX.out j _ (nl_at hy)
      have hst : minL (l.take (j + 1)) = min (minL (l.take j)) y := by
        rw [List.take_add_one, hy]
        cases l with
        | nil => simp at hy
        | cons z l =>
          obtain ⟨k, rfl⟩ : ∃ k, j = k + 1 := ⟨j - 1, by omega⟩
          simp [minL, List.foldl_append]
      have HST := Lib.hid hst
      obtain ⟨q, hq⟩ : ∃ q, q = minL (l.take j) := ⟨_, rfl⟩
      rw [← hq] at hst ⊢
      have HQ := Lib.hid hq
      clear hst hy hq
      go_wp2
      refine ⟨⟨j + 1, by go_num, by omega, by omega, ?_, _, rfl⟩, by simp [intOf]; omega⟩
      rw [HST.out, ← HQ.out]
      congr 1
      omega
    · obtain rfl : j = n := by omega
      have ht : minL (l.take j) = minL l := by rw [HN.out, List.take_length]
      rw [ht]
      go_wp2
      go_ret
      exact ⟨rfl, _, rfl⟩
end Go.Proofs.YtfpepoebammeoaaGreat
