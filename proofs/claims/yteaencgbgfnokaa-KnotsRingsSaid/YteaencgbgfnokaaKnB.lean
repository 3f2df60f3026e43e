/- Memory of the hunt for knots: slices of numbers that are read; a web of heads; the hunt's box. No function of the program is named here. -/
import Derived.Test.YteaencgbgfnokaaHp
import Derived.Test.YteaencgbgfnokaaKnotS
set_option linter.unusedVariables false
namespace Go.Proofs.Yteaencgbgfnokaa
open Go.ChangeShapes Go.WideShapes Go.ChangeAt Go.RowKit

abbrev nl (l : List Nat) : List Int := l.map fun x : Nat => (x : Int)
theorem nl_len (l : List Nat) : (nl l).length = l.length := by simp
theorem nl_at {l : List Nat} {j x : Nat} (h : l[j]? = some x) : (nl l)[j]? = some (x : Int) := by simp [nl, h]
theorem nl_inv {l : List Nat} {j : Nat} {y : Int} (h : (nl l)[j]? = some y) : ∃ x : Nat, l[j]? = some x ∧ y = (x : Int) := by
  rw [nl, List.getElem?_map] at h
  obtain ⟨x, hx, e⟩ := Option.map_eq_some_iff.1 h
  exact ⟨x, hx, e.symm⟩
/-- The slice v reads as the numbers l. -/
def RI (w : World) (v : Value) (l : List Int) : Prop :=
  (l = [] ∧ ∃ a c, v = .slice a 0 c) ∨ (l ≠ [] ∧ ∃ b o c, v = .slice (some ⟨b, o, none⟩) l.length c ∧ l.length ≤ c ∧ c ≤ maxLen ∧ b < w.heap.size ∧ ∀ (j : Nat) x, l[j]? = some x → w.cell? ⟨b, o + j, none⟩ = some (.int .i64 x))
theorem RI.below {w w' : World} {v : Value} {l : List Int} (h : RI w v l) (hb : Below w.heap.size w w') : RI w' v l := by
  rcases h with h | ⟨hn, b, o, c, h1, h2, h3, h4, h5⟩
  · exact .inl h
  · exact .inr ⟨hn, b, o, c, h1, h2, h3, Nat.lt_of_lt_of_le h4 hb.size, fun j x hx => (hb.cell (p := ⟨b, o + j, none⟩) h4).trans (h5 j x hx)⟩
theorem RI.off {Z : Nat → Prop} {w w' : World} {v : Value} {l : List Int} (h : RI w v l) (ho : Off Z w w') (hz : ∀ b, v.ownBlock = some b → ¬ Z b) (hv : ∀ b o c n, v = .slice (some ⟨b, o, none⟩) n c → ¬ Z b) : RI w' v l := by
  rcases h with h | ⟨hn, b, o, c, h1, h2, h3, h4, h5⟩
  · exact .inl h
  · exact .inr ⟨hn, b, o, c, h1, h2, h3, Nat.lt_of_lt_of_le h4 ho.size, fun j x hx => (ho.cell (p := ⟨b, o + j, none⟩) h4 (hv b o c _ h1)).trans (h5 j x hx)⟩
theorem RI.form {w : World} {v : Value} {l : List Int} (h : RI w v l) : ∃ a c, v = .slice a l.length c := by
  rcases h with ⟨rfl, a, c, rfl⟩ | ⟨hn, b, o, c, rfl, _⟩
  · exact ⟨_, _, rfl⟩
  · exact ⟨_, _, rfl⟩
theorem RI.at {w : World} {a : Option Addr} {n c : Nat} {l : List Int} (h : RI w (.slice a n c) l) {j : Nat} {x : Int} (hx : l[j]? = some x) : ∃ b o, a = some ⟨b, o, none⟩ ∧ b < w.heap.size ∧ n ≤ c ∧ c ≤ maxLen ∧ w.cell? ⟨b, o + j, none⟩ = some (.int .i64 x) := by
  rcases h with ⟨rfl, a', c', e⟩ | ⟨hn, b, o, c', e, hc, hm, hl, hx'⟩
  · simp at hx
  · simp only [Value.slice.injEq] at e
    obtain ⟨rfl, rfl, rfl⟩ := e
    exact ⟨b, o, rfl, hl, hc, hm, hx' j x hx⟩
theorem RI.some {w : World} {a : Option Addr} {n c : Nat} {l : List Int} (h : RI w (.slice a n c) l) (h0 : 0 < n) : ∃ b o, a = .some ⟨b, o, none⟩ ∧ n = l.length ∧ b < w.heap.size ∧ n ≤ c ∧ c ≤ maxLen ∧ ∀ (j : Nat) x, l[j]? = .some x → w.cell? ⟨b, o + j, none⟩ = .some (.int .i64 x) := by
  rcases h with ⟨rfl, a', c', e⟩ | ⟨hn, b, o, c', e, hc, hm, hl, hx'⟩
  · simp only [Value.slice.injEq] at e
    omega
  · simp only [Value.slice.injEq] at e
    obtain ⟨rfl, rfl, rfl⟩ := e
    exact ⟨b, o, rfl, rfl, hl, hc, hm, hx'⟩
theorem RI.ofRow {B : Nat} {w : World} {v : Value} {l : List Int} (h : Row 1 B w v l.length (iv l)) : RI w v l := by
  rcases Nat.eq_zero_or_pos l.length with h0 | hp
  · obtain ⟨a, c, rfl⟩ := h.form
    rw [h0]
    exact .inl ⟨List.length_eq_zero_iff.1 h0, _, _, rfl⟩
  · obtain ⟨b, cap, rfl, h2, h3, h4, h5, h6, h7⟩ := h.pos hp
    exact .inr ⟨fun e => by rw [e] at hp; simp at hp, b, 0, cap, rfl, h4, h5, h3, fun j x hx => by rw [Nat.zero_add]; exact h7 j _ (by simp [iv, hx])⟩
/-- Without the first. -/
theorem RI.tail {w : World} {b o n c : Nat} {x : Int} {l : List Int} (h : RI w (.slice (.some ⟨b, o, none⟩) n c) (x :: l)) : RI w (.slice (if c = 1 then .some ⟨b, o, none⟩ else .some ⟨b, o + 1, none⟩) (n - 1) (c - 1)) l := by
  rcases h with ⟨e, _⟩ | ⟨hn, b', o', c', e, hc, hm, hl, hx'⟩
  · cases e
  · simp only [Value.slice.injEq, Option.some.injEq, Addr.mk.injEq] at e
    obtain ⟨⟨rfl, rfl, _⟩, rfl, rfl⟩ := e
    rw [List.length_cons] at hc ⊢
    rw [Nat.add_sub_cancel]
    by_cases hl0 : l = []
    · subst hl0
      exact .inl ⟨rfl, _, _, rfl⟩
    · have : 0 < l.length := List.length_pos_iff.2 hl0
      rw [if_neg (by omega)]
      exact .inr ⟨hl0, b, o + 1, c - 1, rfl, by omega, by unfold maxLen at hm ⊢; omega, hl, fun j y hy => by
        have := hx' (j + 1) y (by rw [List.getElem?_cons_succ]; exact hy)
        rw [show o + 1 + j = o + (j + 1) by omega]
        exact this⟩

/-- Cells that hold what f says. -/
def bkv (f : Nat → Nat) (m : Nat) : List Value := (List.range m).map fun v => .int .i64 (f v : Int)
theorem bkv_len (f : Nat → Nat) (m : Nat) : (bkv f m).length = m := by simp [bkv]
theorem bkv_at (f : Nat → Nat) {m v : Nat} (h : v < m) : (bkv f m)[v]? = some (.int .i64 (f v : Int)) := by simp [bkv, h]
theorem bkv_set (f : Nat → Nat) {m v x : Nat} (h : v < m) : (bkv f m).set v (.int .i64 (x : Int)) = bkv (upd f v x) m := by
  apply List.ext_getElem?
  intro u
  by_cases hu : u < m
  · by_cases e : v = u
    · subst e
      rw [List.getElem?_set_self (by rw [bkv_len]; exact h), bkv_at _ hu, upd_same]
    · rw [List.getElem?_set_ne e, bkv_at _ hu, bkv_at _ hu, upd_other _ _ (fun x => e x.symm)]
  · rw [List.getElem?_eq_none (by rw [List.length_set, bkv_len]; omega), List.getElem?_eq_none (by rw [bkv_len]; omega)]
theorem bkv_congr {f g : Nat → Nat} {m : Nat} (h : ∀ v, v < m → f v = g v) : bkv f m = bkv g m := by
  unfold bkv
  exact List.map_congr_left fun v hv => by rw [h v (List.mem_range.1 hv)]

/-- A web in memory: where each thing's own begin among the heads. -/
structure WebK (w : World) (fv hv : Value) (m E : Nat) (F : Nat → Nat) (H : List Nat) : Prop where
  f : ∃ fb fc, fv = .slice (some ⟨fb, 0, none⟩) (m + 1) fc ∧ m + 1 ≤ fc ∧ fc ≤ maxLen ∧ fb < w.heap.size ∧ ∀ j, j < m + 1 → w.cell? ⟨fb, j, none⟩ = some (.int .i64 (F j : Int))
  h : ∃ hb hc, hv = .slice (some ⟨hb, 0, none⟩) E hc ∧ E ≤ hc ∧ hc ≤ maxLen ∧ hb < w.heap.size ∧ ∀ (j x : Nat), H[j]? = some x → w.cell? ⟨hb, j, none⟩ = some (.int .i64 (x : Int))
  el : H.length = E
  mono : ∀ v, v < m → F v ≤ F (v + 1)
  le : ∀ v, v ≤ m → F v ≤ E
  lt : ∀ x ∈ H, x < m
theorem WebK.below {w w' : World} {fv hv : Value} {m E : Nat} {F : Nat → Nat} {H : List Nat} (h : WebK w fv hv m E F H) (hb : Below w.heap.size w w') : WebK w' fv hv m E F H := by
  obtain ⟨fb, fc, f1, f2, f3, f4, f5⟩ := h.f
  obtain ⟨hb', hc, h1, h2, h3, h4, h5⟩ := h.h
  exact ⟨⟨fb, fc, f1, f2, f3, Nat.lt_of_lt_of_le f4 hb.size, fun j hj => (hb.cell (p := ⟨fb, j, none⟩) f4).trans (f5 j hj)⟩, ⟨hb', hc, h1, h2, h3, Nat.lt_of_lt_of_le h4 hb.size, fun j x hx => (hb.cell (p := ⟨hb', j, none⟩) h4).trans (h5 j x hx)⟩, h.el, h.mono, h.le, h.lt⟩
/-- The heads of a thing's edges. -/
def adjK (m : Nat) (F : Nat → Nat) (H : List Nat) (v : Nat) : List Nat := if v < m then (H.drop (F v)).take (F (v + 1) - F v) else []
theorem adjK_len {w : World} {fv hv : Value} {m E : Nat} {F : Nat → Nat} {H : List Nat} (h : WebK w fv hv m E F H) {v : Nat} (hv : v < m) : (adjK m F H v).length = F (v + 1) - F v := by
  have := h.el
  have := h.le (v + 1) (by omega)
  simp [adjK, hv]
  omega
theorem adjK_at {m : Nat} {F : Nat → Nat} {H : List Nat} {v j x : Nat} (h : (adjK m F H v)[j]? = some x) : H[F v + j]? = some x := by
  unfold adjK at h
  split at h
  · have hl := (List.getElem?_eq_some_iff.1 h).1
    rw [List.length_take] at hl
    rw [List.getElem?_take_of_lt (by omega), List.getElem?_drop] at h
    exact h
  · simp at h
theorem adjK_lt {m : Nat} {F : Nat → Nat} {H : List Nat} (h : ∀ x ∈ H, x < m) (v : Nat) : ∀ x ∈ adjK m F H v, x < m := fun x hx => by
  obtain ⟨j, hj⟩ := List.getElem?_of_mem hx
  exact h x (List.mem_of_getElem? (adjK_at hj))

/-- The cells of the hunt's way. -/
def stV (sv : List (Stp × Value)) : List Value := sv.reverse.flatMap fun s => [.int .i64 (s.1.c : Int), .int .i64 (s.1.p : Int), s.2]
theorem stV_cons (s : Stp × Value) (sv : List (Stp × Value)) : stV (s :: sv) = stV sv ++ [.int .i64 (s.1.c : Int), .int .i64 (s.1.p : Int), s.2] := by simp [stV]
theorem stV_len (sv : List (Stp × Value)) : (stV sv).length = sv.length * 3 := by
  induction sv with
  | nil => rfl
  | cons s sv ih => rw [stV_cons, List.length_append, ih, List.length_cons]; simp; omega
/-- The hunt in memory: its box, and what it holds. -/
structure HuntM (w0 : World) (S p bb lb m : Nat) (fv hv ov wv : Value) (op : List Nat) (bk ls : Nat → Nat) (sv : List (Stp × Value)) (W : World) : Prop where
  bl : Below w0.heap.size w0 W
  c0 : W.cell? ⟨p, 0, none⟩ = some fv
  c1 : W.cell? ⟨p, 1, none⟩ = some hv
  c2 : W.cell? ⟨p, 2, none⟩ = some ov
  c3 : W.cell? ⟨p, 3, none⟩ = some (.slice (some ⟨bb, 0, none⟩) m m)
  c4 : W.cell? ⟨p, 4, none⟩ = some wv
  c5 : W.cell? ⟨p, 5, none⟩ = some (.slice (some ⟨lb, 0, none⟩) m m)
  fr : ∀ j, j < 6 → W.frozen? ⟨p, j, none⟩ = false
  ro : Row 1 S W ov op.length (iv (nl op))
  rw : Row 3 S W wv sv.length (stV sv)
  ne : ov.ownBlock ≠ none → ov.ownBlock ≠ wv.ownBlock
  rb : Row 1 w0.heap.size W (.slice (some ⟨bb, 0, none⟩) m m) m (bkv bk m)
  rl : Row 1 w0.heap.size W (.slice (some ⟨lb, 0, none⟩) m m) m (bkv ls m)
  left : ∀ s ∈ sv, RI w0 s.2 (nl s.1.l)
  sp : p < S
  sb : bb < S
  sl : lb < S
  bn : bb ≠ lb
  bp : bb ≠ p
  lp : lb ≠ p
  wq : w0.heap.size ≤ p
  sz : S ≤ W.heap.size
theorem HuntM.pl {w0 : World} {S p bb lb m : Nat} {fv hv ov wv : Value} {op : List Nat} {bk ls : Nat → Nat} {sv : List (Stp × Value)} {W : World} (h : HuntM w0 S p bb lb m fv hv ov wv op bk ls sv W) : p < W.heap.size := cell_lt h.c0
/-- What has been made since does it no harm. -/
theorem HuntM.below {w0 : World} {S p bb lb m : Nat} {fv hv ov wv : Value} {op : List Nat} {bk ls : Nat → Nat} {sv : List (Stp × Value)} {W W' : World} (h : HuntM w0 S p bb lb m fv hv ov wv op bk ls sv W) (hb : Below W.heap.size W W') : HuntM w0 S p bb lb m fv hv ov wv op bk ls sv W' := by
  have hp := h.pl
  have hc : ∀ j, W'.cell? ⟨p, j, none⟩ = W.cell? ⟨p, j, none⟩ := fun j => hb.cell (p := ⟨p, j, none⟩) hp
  exact ⟨h.bl.trans (hb.mono h.bl.size), (hc 0).trans h.c0, (hc 1).trans h.c1, (hc 2).trans h.c2, (hc 3).trans h.c3, (hc 4).trans h.c4, (hc 5).trans h.c5, fun j hj => (hb.frozen (p := ⟨p, j, none⟩) hp).trans (h.fr j hj), h.ro.below hb, h.rw.below hb, h.ne, h.rb.below hb, h.rl.below hb, h.left, h.sp, h.sb, h.sl, h.bn, h.bp, h.lp, h.wq, Nat.le_trans h.sz hb.size⟩
/-- Rows whose element has several cells: a cell of one. -/
theorem Row.cellK {k B b n cap j : Nat} {w : World} {cs : List Value} {u : Value} (h : Row k B w (.slice (some ⟨b, 0, none⟩) n cap) n cs) (hj : cs[j]? = some u) : w.cell? ⟨b, j, none⟩ = some u ∧ w.frozen? ⟨b, j, none⟩ = false ∧ B ≤ b ∧ b < w.heap.size ∧ n ≤ cap ∧ cap ≤ maxLen := by
  obtain ⟨h0, ⟨h, _⟩ | ⟨b', cap', h1, h2, h3, h4, h5, h6, h7⟩⟩ := h
  · cases h
  · injection h1 with e1 e2 e3
    injection e1 with e1
    injection e1 with e1
    subst e1; subst e3
    have hl := (List.getElem?_eq_some_iff.1 hj).1
    exact ⟨h7 j u hj, (h6 j (by rw [h0] at hl; exact Nat.lt_of_lt_of_le hl (Nat.mul_le_mul_right k h4))).2, h2, h3, h4, h5⟩
theorem Row.frontK {k B n b cap m : Nat} {w : World} {cs : List Value} (h : Row k B w (.slice (some ⟨b, 0, none⟩) n cap) n cs) (hm : m ≤ n) : Row k B w (.slice (some ⟨b, 0, none⟩) m cap) m (cs.take (m * k)) := by
  obtain ⟨h0, ⟨h, _⟩ | ⟨b', cap', h1, h2, h3, h4, h5, h6, h7⟩⟩ := h
  · cases h
  · injection h1 with e1 e2 e3
    injection e1 with e1
    injection e1 with e1
    subst e1; subst e3
    refine ⟨by rw [List.length_take, h0]; exact Nat.min_eq_left (Nat.mul_le_mul_right k hm), .inr ⟨b, cap, rfl, h2, h3, by omega, h5, h6, fun j u hj => h7 j u ?_⟩⟩
    rw [List.getElem?_take] at hj
    split at hj
    · exact hj
    · cases hj
end Go.Proofs.Yteaencgbgfnokaa
