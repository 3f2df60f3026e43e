/- The contract of search: the fronts, up to the one where it stops. -/
import Derived.Test.YteppgjdkoakpeaaDoorFronts3
set_option linter.unusedVariables false
namespace Go.Proofs.YteppgjdkoakpeaaDoor
open Go.ChangeShapes Go.WideShapes Go.ChangeAt Go.RowKit

theorem Tryd.infoFront : (Tryd.prog.info? 52).map (fun i => (i.zero, i.size, i.bytes)) = some (some (.slice none 0 0), 1, 24) := by kernel_rfl

/-- The slice value v reads as the fronts up to number K. -/
def Fronts (lo : Nat) (w : World) (v : Value) (a b : Ls) (K : Nat) : Prop :=
  ∃ g cap, v = .slice (some ⟨g, 0, none⟩) (K + 1) cap ∧ K + 1 ≤ cap ∧ cap ≤ 9223372036854775807 ∧ g < w.heap.size ∧ ∀ j, j ≤ K → ∃ vj, w.cell? ⟨g, j, none⟩ = some vj ∧ Ints w vj (fr a b j) ∧ ∀ g, vj.ownBlock = some g → lo ≤ g

theorem Fronts.below {lo : Nat} {w w' : World} {v : Value} {a b : Ls} {K : Nat} (h : Fronts lo w v a b K) (hb : Below w.heap.size w w') : Fronts lo w' v a b K := by
  obtain ⟨g, cap, e, h1, h2, h3, h4⟩ := h
  refine ⟨g, cap, e, h1, h2, Nat.lt_of_lt_of_le h3 hb.size, fun j hj => ?_⟩
  obtain ⟨vj, c, i, lw⟩ := h4 j hj
  exact ⟨vj, (hb.cell (p := ⟨g, j, none⟩) h3).trans c, i.below hb, lw⟩

/-- A slice's length: for a loop's measure. -/
def slen : Value → Nat | .slice _ l _ => l | _ => 0

/-- The fronts while they are gathered. -/
structure Gath (w0 wr : World) (fv lv : Value) (a b : Ls) (k : Nat) (vals : List Value) : Prop where
  own : wr.ownsRow w0.heap.size 52 1 fv (k + 1) vals
  bel : Below w0.heap.size w0 wr
  ints : ∀ (j : Nat) v, vals[j]? = some v → Ints wr v (fr a b j)
  low : ∀ (j : Nat) v, vals[j]? = some v → ∀ g, v.ownBlock = some g → w0.heap.size ≤ g
  last : vals[k]? = some lv
  dull : ∀ j, j < k → wholeF (fr a b j) a b = false
  stp : stop a b = stopFrom a b (100 - k) k

theorem ints_grown {w w' : World} {fv v : Value} {base : Nat} {vals : List Value} {n : Nat} {f : List Int} (hown : w.ownsRow base 52 1 fv n vals) (hn : 0 < n) (hv : ∀ u, vals[0]? = some u → ∃ a l c, u = .slice a l c)
    (hi : Ints w v f) (hf : 0 < f.length) (hg : w.grownBy w' fv.ownBlock) : Ints w' v f := by
  obtain ⟨b, c, e, h1, h2, h3, h4⟩ := hi
  have hne : some b ≠ fv.ownBlock := by
    intro h
    rcases hown.2 with ⟨rfl, _⟩ | ⟨g, cap, cur, rfl, _⟩
    · simp [Value.ownBlock] at h
    · simp [Value.ownBlock] at h
      subst h
      have c1 := hown.cellAt 0 (by omega)
      have hl := hown.1
      obtain ⟨a, l, c, hu⟩ := hv (vals[0]'(by omega)) (by simp)
      have c2 := h4 0 (f[0]'hf) (by simp)
      rw [c1, List.getElem?_eq_getElem (by omega), hu] at c2
      simp at c2
  refine ⟨b, c, e, h1, h2, Nat.lt_of_lt_of_le h3 hg.size, fun j x hx => ?_⟩
  exact hg.cell (h4 j x hx) hne

theorem Gath.push {w0 wr w2 w3 : World} {fv lv lv' fv' : Value} {a b : Ls} {k : Nat} {vals : List Value} {o : Obj} (h : Gath w0 wr fv lv a b k vals) (hb2 : Below wr.heap.size wr w2) (hi : Ints w2 lv' (fr a b (k + 1))) (hlow : ∀ g, lv'.ownBlock = some g → wr.heap.size ≤ g)
    (hown : w3.ownsRow w0.heap.size 52 1 fv' (k + 1 + 1) (vals ++ [lv'])) (hg : (w2.alloc o).grownBy w3 fv.ownBlock) (hb3 : Below w0.heap.size w2 w3) (hw : wholeF (fr a b k) a b = false) (hk : k < 100) :
    Gath w0 w3 fv' lv' a b (k + 1) (vals ++ [lv']) := by
  obtain ⟨own, bel, ints, low, last, dull, stp⟩ := h
  have hl : vals.length = k + 1 := by have := own.1; omega
  have hown2 : w2.ownsRow w0.heap.size 52 1 fv (k + 1) vals := by
    refine own.kept (row := none) ⟨hb2.os, hb2.tape, hb2.output, hb2.size, fun i hi _ => hb2.block i hi⟩ ?_
    rcases own.2 with ⟨rfl, h0⟩ | ⟨g, cap, cur, rfl, _⟩
    · omega
    · right; simp [Value.ownBlock]
  have hown3 := hown2.alloc o
  have h0 : ∀ u, vals[0]? = some u → ∃ a l c, u = .slice a l c := by
    intro u hu
    obtain ⟨b, c, e, _⟩ := ints 0 u hu
    exact ⟨_, _, _, e⟩
  have ba : Below w2.heap.size w2 (w2.alloc o) := (Below.refl _ _).alloc (Nat.le_refl _) _
  refine ⟨hown, bel.trans ((hb2.mono bel.size).trans hb3), fun j v hv => ?_, fun j v hv => ?_, by rw [List.getElem?_append_right (by omega), hl]; simp, fun j hj => ?_, ?_⟩
  · rcases Nat.lt_or_ge j (k + 1) with hj | hj
    · rw [List.getElem?_append_left (by omega)] at hv
      have hi2 := ((ints j v hv).below hb2).below ba
      exact ints_grown hown3 (by omega) h0 hi2 (by rw [fr_length]; omega) hg
    · have hjl := (List.getElem?_eq_some_iff.1 hv).1
      simp at hjl
      have : j = k + 1 := by omega
      subst this
      rw [List.getElem?_append_right (by omega), hl, Nat.sub_self] at hv
      have e : lv' = v := by simpa using hv
      subst e
      exact ints_grown hown3 (by omega) h0 (hi.below ba) (by rw [fr_length]; omega) hg
  · rcases Nat.lt_or_ge j (k + 1) with hj | hj
    · rw [List.getElem?_append_left (by omega)] at hv
      exact low j v hv
    · have hjl := (List.getElem?_eq_some_iff.1 hv).1
      simp at hjl
      have : j = k + 1 := by omega
      subst this
      rw [List.getElem?_append_right (by omega), hl, Nat.sub_self] at hv
      have e : lv' = v := by simpa using hv
      subst e
      intro g hg
      have := hlow g hg
      have := bel.size
      omega
  · by_cases e : j = k
    · rw [e]; exact hw
    · exact dull j (by omega)
  · rw [stp, show 100 - k = 100 - (k + 1) + 1 by omega, stopFrom, if_neg (by simp [hw])]

theorem Gath.done {w0 wr : World} {fv lv : Value} {a b : Ls} {k : Nat} {vals : List Value} (h : Gath w0 wr fv lv a b k vals) (hk : k ≤ 100) (hw : wholeF (fr a b k) a b = true ∨ k = 100) : Fronts w0.heap.size wr fv a b (stop a b) := by
  obtain ⟨own, bel, ints, low, last, dull, stp⟩ := h
  have e : stop a b = k := by
    rw [stp]
    rcases hw with hw | rfl
    · cases 100 - k with
      | zero => rfl
      | succ m => rw [stopFrom, if_pos hw]
    · rfl
  rw [e]
  have hl : vals.length = k + 1 := by have := own.1; omega
  rcases own.2 with ⟨rfl, h0⟩ | ⟨g, cap, cur, rfl, hb, hg, hnc, hm, hs, ht⟩
  · omega
  · refine ⟨g, cap, rfl, hnc, by unfold maxLen at hm; omega, (Array.getElem?_eq_some_iff.1 hg).1, fun j hj => ?_⟩
    have hc := own.cellAt j (by omega)
    refine ⟨vals[j]'(by omega), by rw [hc]; simp [List.getElem?_eq_getElem (show j < vals.length by omega)], ints j _ (by simp), low j _ (by simp)⟩

theorem Gath.best {w0 wr : World} {fv lv : Value} {a b : Ls} {k : Nat} {vals : List Value} (h : Gath w0 wr fv lv a b k vals) : ∃ c0 : Nat, bestF (fr a b k) a b = (c0 : Int) ∧ c0 < (fr a b k).length := by
  obtain ⟨c, hc, hg⟩ := fr_some h.dull
  have hl := fr_length a b k
  obtain ⟨c0, h0, e, -, -⟩ := best_some (a := a) (b := b) (f := fr a b k) (c := c) (by omega) hg
  exact ⟨c0, e, h0⟩

theorem gath_start (w : World) (a b : Ls) (L : Int) (t1 : TypeId) (hL : fr a b 0 = [L]) (d : Nat) :
    Gath w (((w.drewN d).alloc (.cells #[.int .i64 L] t1)).alloc (.cells #[.slice (some ⟨w.heap.size, 0, none⟩) 1 1] 52)) (.slice (some ⟨w.heap.size + 1, 0, none⟩) 1 1) (.slice (some ⟨w.heap.size, 0, none⟩) 1 1) a b 0 [.slice (some ⟨w.heap.size, 0, none⟩) 1 1] := by
  have b1 : Below w.heap.size w (w.drewN d) := Below.drewN (Below.refl _ _)
  have b2 := b1.alloc (show w.heap.size ≤ (w.drewN d).heap.size from Nat.le_refl _) (.cells #[.int .i64 L] t1)
  have hs : ((w.drewN d).alloc (.cells #[.int .i64 L] t1)).heap.size = w.heap.size + 1 := by simp
  have b3 := b2.alloc (by omega) (.cells #[.slice (some ⟨w.heap.size, 0, none⟩) 1 1] 52)
  have own := World.ownsRow_lit (base := w.heap.size) (e := 52) (size := 1) ((w.drewN d).alloc (.cells #[.int .i64 L] t1)) #[.slice (some ⟨w.heap.size, 0, none⟩) 1 1] 1 (by omega) (by decide) rfl
  rw [hs] at own
  refine ⟨own, b3, fun j v hv => ?_, fun j v hv => ?_, rfl, fun j hj => by omega, rfl⟩
  rotate_left
  · have hj : j = 0 := by have := (List.getElem?_eq_some_iff.1 hv).1; simp at this; exact this
    subst hj
    have e : v = .slice (some ⟨w.heap.size, 0, none⟩) 1 1 := by simpa using hv.symm
    subst e
    intro g hg
    simp [Value.ownBlock] at hg
    omega
  have hj : j = 0 := by have := (List.getElem?_eq_some_iff.1 hv).1; simp at this; exact this
  subst hj
  have e : v = .slice (some ⟨w.heap.size, 0, none⟩) 1 1 := by simpa using hv.symm
  subst e
  have i1 : Ints ((w.drewN d).alloc (.cells #[.int .i64 L] t1)) (.slice (some ⟨w.heap.size, 0, none⟩) 1 1) (fr a b 0) := by
    rw [hL]
    refine ⟨w.heap.size, 1, rfl, by simp, by omega, by omega, fun j x hx => ?_⟩
    have hj : j = 0 := by have := (List.getElem?_eq_some_iff.1 hx).1; simp at this; exact this
    subst hj
    rw [show w.heap.size = (w.drewN d).heap.size from rfl, World.cell?_alloc_at _ _ _ _ rfl]
    have : L = x := by simpa using hx
    subst this
    rfl
  exact i1.below ((Below.refl _ _).alloc (Nat.le_refl _) _)

set_option maxHeartbeats 2000000 in
theorem search_any (a b : Ls) (va vb : Value) (w : World) (ha : Reads w va a) (hb : Reads w vb b) (h3 : a.length ≤ 1000000) (h4 : b.length ≤ 1000000) :
    Calls Tryd.prog 18 #[va, vb] w fun r w' => ∃ v', r = .returned v' ∧ Fronts w.heap.size w' v' a b (stop a b) ∧ Below w.heap.size w w' := by
  have hk0 := kept_any a b va vb 0 0 w ha hb (by omega) (by omega) h3 h4
  obtain ⟨L, hL⟩ : ∃ L, L = keptI a b ((0 : Nat) : Int) ((0 : Nat) : Int) := ⟨_, rfl⟩
  rw [← hL] at hk0
  have hL0 : fr a b 0 = [L] := by rw [hL]; simp [fr, keptI]
  have ha0 := ha
  have hb0 := hb
  obtain ⟨aa, ca, rfl, -⟩ := ha.form
  obtain ⟨ab, cb, rfl, -⟩ := hb.form
  have HA := Lib.hid ha0
  have HB := Lib.hid hb0
  have HK0 := Lib.hid hk0
  have HL0 := Lib.hid hL0
  have HLL := Lib.hid hL
  obtain ⟨al, hal⟩ : ∃ n, n = a.length := ⟨_, rfl⟩
  obtain ⟨bl, hbl⟩ : ∃ n, n = b.length := ⟨_, rfl⟩
  rw [← hal] at HA h3 HK0 ⊢
  rw [← hbl] at HB h4 HK0 ⊢
  have HAL := Lib.hid hal
  have HBL := Lib.hid hbl
  clear ha hb ha0 hb0 hk0 hL0 hL hal hbl
  go_enter Tryd.func18, Tryd.ntmps18
  go_wp2_with fail
  refine HK0.out.mono ?_
  rintro e w1 ⟨rfl, d, rfl⟩
  go_wp2
  go_loopw [5, 6] (fun lv fv wr => ∃ (k : Nat) (vals : List Value), k ≤ 100 ∧ Gath w wr fv lv a b k vals) (fun _ fv _ => 102 - slen fv)
  case atStart => exact ⟨0, _, by omega, gath_start w a b L _ HL0.out d⟩
  case round =>
    obtain ⟨k, vals, hk, hG⟩ := hrel
    obtain ⟨c0, hc0, hc1⟩ := hG.best
    obtain ⟨g, cap, efv⟩ : ∃ g cap, u6 = .slice (some ⟨g, 0, none⟩) (k + 1) cap := by
      rcases hG.own.2 with ⟨_, h0⟩ | ⟨g, cap, cur, h, _⟩
      · omega
      · exact ⟨g, cap, h⟩
    have hi := hG.ints k u5 hG.last
    have hwh := whole_any (fr a b k) a b u5 c0 al bl aa ab ca cb wr hi (fr_small (by omega) (by rw [← HAL.out]; exact h3)) HAL.out HBL.out h3 h4 hc0 hc1
    have hsz := hG.bel.size
    have hnx := next_any a b k u5 _ _ wr hi (HA.out.below hG.bel) (HB.out.below hG.bel) (by omega) (by rw [← HAL.out]; exact h3) (by rw [← HBL.out]; exact h4)
    have HG := Lib.hid hG
    have HNX := Lib.hid hnx
    clear hc0 hc1 hi hG hnx
    by_cases hw : wholeF (fr a b k) a b = true
    · rw [hw] at hwh
      have HW := Lib.hid hwh
      have HWW := Lib.hid hw
      clear hwh hw
      subst efv
      go_wp2_with fail
      refine HW.out.mono ?_
      rintro e w1 ⟨rfl, rfl⟩
      go_wp2
      go_ret
      exact ⟨_, rfl, HG.out.done hk (.inl HWW.out), HG.out.bel⟩
    · have hw' : wholeF (fr a b k) a b = false := by simpa using hw
      rw [hw'] at hwh
      have HW := Lib.hid hwh
      have HWW := Lib.hid hw'
      clear hwh hw hw'
      subst efv
      by_cases hk1 : k < 100
      · have c1 : ((k : Int) + 1) ≤ 100 := by omega
        go_wp2_with fail
        refine HW.out.mono ?_
        rintro e w1 ⟨rfl, rfl⟩
        go_wp2_with fail
        refine HNX.out.mono ?_
        rintro e w2 ⟨lv', rfl, hi2, hlow2, hb2⟩
        have HI2 := Lib.hid hi2
        have HLOW := Lib.hid hlow2
        clear hlow2
        obtain ⟨b2, c2, e2, -⟩ := hi2
        obtain ⟨l2, hl2⟩ : ∃ l, l = (fr a b (k + 1)).length := ⟨_, rfl⟩
        rw [← hl2] at e2
        clear hl2
        subst e2
        have hown2 : w2.ownsRow w.heap.size 52 1 (.slice (some ⟨g, 0, none⟩) (k + 1) cap) (k + 1) vals := by
          refine HG.out.own.kept (row := none) ⟨hb2.os, hb2.tape, hb2.output, hb2.size, fun i hi _ => hb2.block i hi⟩ ?_
          right; simp [Value.ownBlock]
        have HO2 := Lib.hid hown2
        have HB2 := Lib.hid hb2
        have hsz2 := hb2.size
        clear hown2 hb2
        go_wp2_with (at_builtin; refine wpList_push rfl _ _ 49 rfl w.heap.size 52 (.slice none 0 0) 1 24 Tryd.underlying49 Tryd.infoFront rfl (by decide) w2 _ _ _ rfl (by exact HO2.out) [.slice (some ⟨b2, 0, none⟩) l2 c2] 1 _ _ rfl rfl rfl (by simp [Value.oneCell']) (by omega) (by omega) (by omega) ?_; intro v' w3 hown3 hgr hb3)
        refine ⟨⟨k + 1, _, by omega, HG.out.push HB2.out HI2.out HLOW.out hown3 hgr hb3 HWW.out hk1⟩, ?_⟩
        have := hown3.2
        obtain ⟨g3, cap3, e3⟩ : ∃ g cap, v' = .slice (some ⟨g, 0, none⟩) (k + 1 + 1) cap := by
          rcases hown3.2 with ⟨_, h0⟩ | ⟨g, cap, cur, h, _⟩
          · omega
          · exact ⟨g, cap, h⟩
        subst e3
        simp [slen]
        omega
      · have hk2 : k = 100 := by omega
        subst hk2
        go_wp2_with fail
        refine HW.out.mono ?_
        rintro e w1 ⟨rfl, rfl⟩
        go_wp2
        go_ret
        exact ⟨_, rfl, HG.out.done hk (.inr rfl), HG.out.bel⟩
end Go.Proofs.YteppgjdkoakpeaaDoor
