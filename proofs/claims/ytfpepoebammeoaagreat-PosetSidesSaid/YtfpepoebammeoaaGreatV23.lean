/- Mathematics: a thing's place. An order in memory: its box, the tied things, their places, the ways. No function of the program is named here. Mathematics of what lay lays: a board. Of package poset: has, place. -/
import Derived.Test.YtfpepoebammeoaaGreatShelf
import Derived.Test.YtfpepoebammeoaaGreatV11
import Derived.Test.YtfpepoebammeoaaGreatV12
import Derived.Test.YtfpepoebammeoaaGreatV22
import Derived.Test.YtfpepoebammeoaaGreatV3
set_option linter.unusedVariables false
namespace Go.Proofs.YtfpepoebammeoaaGreat

def plI (T : List Nat) (pl : Nat → Nat) (x : Int) : Int := if x ∈ (T.map fun x : Nat => (x : Int)) then (pl (T.idxOf x.toNat) : Int) else -1 - x
theorem plI_in {T : List Nat} {pl : Nat → Nat} {x : Nat} (h : x ∈ T) : plI T pl (x : Int) = (pl (T.idxOf x) : Int) := by
  unfold plI
  rw [if_pos (List.mem_map.2 ⟨x, h, rfl⟩), Int.toNat_natCast]
theorem plI_out {T : List Nat} {pl : Nat → Nat} {x : Nat} (h : x ∉ T) : plI T pl (x : Int) = -1 - (x : Int) := by
  unfold plI
  rw [if_neg fun c => by
    obtain ⟨y, hy, e⟩ := List.mem_map.1 c
    exact h (by rw [show x = y by omega]; exact hy)]
theorem plI_tied {T : List Nat} {pl : Nat → Nat} {x : Nat} : 0 ≤ plI T pl (x : Int) ↔ x ∈ T := by
  by_cases h : x ∈ T
  · rw [plI_in h]; simp [h]
  · rw [plI_out h]
    constructor
    · intro; omega
    · exact fun c => absurd c h
theorem plI_same {n : Nat} {es : EdN} {T : List Nat} {pl : Nat → Nat} {W : EdN} (h : OrdS n es T pl W) {x y : Nat} : plI T pl (x : Int) = plI T pl (y : Int) ↔ Knot (EdR es) x y := by
  have free : ∀ {a b : Nat}, a ∉ T → ¬ Walk (EdR es) a b ∧ ¬ Walk (EdR es) b a := fun {a b} ha => ⟨fun hw => ha (h.forth hw).1, fun hw => ha (h.forth hw).2.1⟩
  by_cases hx : x ∈ T <;> by_cases hy : y ∈ T
  · rw [plI_in hx, plI_in hy, ← h.knot hx hy]
    omega
  · rw [plI_in hx, plI_out hy]
    constructor
    · intro e; omega
    · rintro ⟨h1 | h1, _⟩
      · exact absurd (h1 ▸ hx) hy
      · exact absurd h1 (free hy).2
  · rw [plI_out hx, plI_in hy]
    constructor
    · intro e; omega
    · rintro ⟨h1 | h1, _⟩
      · exact absurd (h1 ▸ hy) hx
      · exact absurd h1 (free hx).1
  · rw [plI_out hx, plI_out hy]
    constructor
    · intro e
      obtain rfl : x = y := by omega
      exact Knot.refl x
    · rintro ⟨h1 | h1, _⟩
      · rw [h1]
      · exact absurd h1 (free hx).1
end Go.Proofs.YtfpepoebammeoaaGreat
set_option linter.unusedVariables false
namespace Go.Proofs.YtfpepoebammeoaaGreat
open Go.ChangeShapes Go.WideShapes Go.ChangeAt Go.RowKit

def plL (T : List Nat) (pl : Nat → Nat) : List Nat := (List.range T.length).map pl
theorem plL_len (T : List Nat) (pl : Nat → Nat) : (plL T pl).length = T.length := by simp [plL]
theorem plL_at {T : List Nat} (pl : Nat → Nat) {i : Nat} (h : i < T.length) : (plL T pl)[i]? = some (pl i) := by simp [plL, h]
structure OrdO (w : World) (p : Nat) (n : Int) (T : List Nat) (pl : Nat → Nat) (W : EdN) : Prop where
  lt : p < w.heap.size
  c0 : w.cell? ⟨p, 0, none⟩ = some (.int .i64 n)
  c1 : ∃ v, w.cell? ⟨p, 1, none⟩ = some v ∧ RI w v (nl T)
  c2 : ∃ v, w.cell? ⟨p, 2, none⟩ = some v ∧ RI w v (nl (plL T pl))
  c3 : ∃ v, w.cell? ⟨p, 3, none⟩ = some v ∧ RE w v (toI W)
theorem OrdO.below {w w' : World} {p : Nat} {n : Int} {T : List Nat} {pl : Nat → Nat} {W : EdN} (h : OrdO w p n T pl W) (hb : Below w.heap.size w w') : OrdO w' p n T pl W := by
  have hc : ∀ j, w'.cell? ⟨p, j, none⟩ = w.cell? ⟨p, j, none⟩ := fun j => hb.cell (p := ⟨p, j, none⟩) h.lt
  obtain ⟨v1, a1, b1⟩ := h.c1
  obtain ⟨v2, a2, b2⟩ := h.c2
  obtain ⟨v3, a3, b3⟩ := h.c3
  exact ⟨Nat.lt_of_lt_of_le h.lt hb.size, (hc 0).trans h.c0, ⟨v1, (hc 1).trans a1, b1.below hb⟩, ⟨v2, (hc 2).trans a2, b2.below hb⟩, ⟨v3, (hc 3).trans a3, b3.below hb⟩⟩
end Go.Proofs.YtfpepoebammeoaaGreat
set_option linter.unusedVariables false
namespace Go.Proofs.YtfpepoebammeoaaGreat

def StrS (P : Int → Int) (A : List Nat) (lo hi : Nat) : Prop := lo ≤ hi ∧ hi ≤ 200000 ∧ (hi = 0 → lo = 0) ∧ ∀ x ∈ A, 0 ≤ P (x : Int) → (lo : Int) ≤ P (x : Int) ∧ P (x : Int) < (hi : Int)
theorem str_skip {P : Int → Int} {A : List Nat} {lo hi x : Nat} (h : StrS P A lo hi) (hx : P (x : Int) < 0) : StrS P (A ++ [x]) lo hi := ⟨h.1, h.2.1, h.2.2.1, fun y hy h0 => by
  rcases List.mem_append.1 hy with c | c
  · exact h.2.2.2 y c h0
  · have := List.mem_singleton.1 c
    subst this
    omega⟩
theorem str_take {P : Int → Int} {A : List Nat} {lo hi lo' hi' x q : Nat} (h : StrS P A lo hi) (hx : P (x : Int) = (q : Int)) (hq : q < 200000) (h1 : lo' ≤ q) (h2 : q < hi') (h3 : hi = 0 ∨ lo' ≤ lo) (h4 : hi ≤ hi') (h5 : hi' ≤ 200000) : StrS P (A ++ [x]) lo' hi' := ⟨by omega, h5, by omega, fun y hy h0 => by
  rcases List.mem_append.1 hy with c | c
  · have := h.2.2.2 y c h0
    omega
  · have := List.mem_singleton.1 c
    subst this
    omega⟩
def rkB (P : Int → Int) (A : List Nat) (lo D v : Nat) : Nat := if v < D then lo + v else (P ((A.getD (v - D) 0 : Nat) : Int)).toNat
section
variable {n : Int} {es : EdN} {T : List Nat} {pl : Nat → Nat} {W : EdN} {A : List Nat} {lo hi : Nat} {l : List Int}
theorem num_rk (hA : AskS n (plI T pl) l A) (q : Nat) (hq : lo + q < hi) : numK (plI T pl) A lo (hi - lo) A.length q < hi - lo + A.length ∧ rkB (plI T pl) A lo (hi - lo) (numK (plI T pl) A lo (hi - lo) A.length q) = lo + q ∧ ∀ i x : Nat, A[i]? = some x → (numK (plI T pl) A lo (hi - lo) A.length q = hi - lo + i ↔ plI T pl (x : Int) = ((lo + q : Nat) : Int)) := by
  by_cases h : ∃ i x : Nat, A[i]? = some x ∧ plI T pl (x : Int) = ((lo + q : Nat) : Int)
  · obtain ⟨i, x, hx, hp⟩ := h
    have hi' := (List.getElem?_eq_some_iff.1 hx).1
    rw [numK_hit hA.inj hx hp A.length hi' (Nat.le_refl _)]
    refine ⟨by omega, ?_, fun j y hy => ?_⟩
    · unfold rkB
      rw [if_neg (by omega), show hi - lo + i - (hi - lo) = i by omega, List.getD_eq_getElem?_getD, hx]
      show (plI T pl (x : Int)).toNat = _
      rw [hp]; omega
    · constructor
      · intro e
        have : i = j := by omega
        subst this
        rw [hx] at hy
        rw [← Option.some.inj hy]; exact hp
      · intro hp2
        have := hA.inj i j x y hx hy (hp.trans hp2.symm)
        omega
  · have hn : ∀ x ∈ A, plI T pl (x : Int) ≠ ((lo + q : Nat) : Int) := fun x hx e => by
      obtain ⟨i, hi'⟩ := List.mem_iff_getElem?.1 hx
      exact h ⟨i, x, hi', e⟩
    rw [numK_miss hn]
    refine ⟨by omega, ?_, fun j y hy => ?_⟩
    · unfold rkB
      rw [if_pos (by omega)]
    · constructor
      · intro e; omega
      · intro e; exact absurd e (hn y (List.mem_of_getElem? hy))
theorem lay_board (h : OrdS n.toNat es T pl W) (hA : AskS n (plI T pl) l A) (hS : StrS (plI T pl) A lo hi) : BoardS (fun i j => AheadK (EdR es) (A.getD i 0) (A.getD j 0)) A.length (hi - lo) (rkB (plI T pl) A lo (hi - lo)) (layE (numK (plI T pl) A lo (hi - lo) A.length) lo hi (betw W lo hi)) := by
  obtain ⟨f, hf⟩ : ∃ f, f = numK (plI T pl) A lo (hi - lo) A.length := ⟨_, rfl⟩
  have hnum := fun q hq => num_rk (lo := lo) (hi := hi) hA q hq
  rw [← hf] at hnum ⊢
  obtain ⟨L, hL⟩ : ∃ L, L = (betw W lo hi).filter fun e => decide (e.2 < hi) := ⟨_, rfl⟩
  have hmem : ∀ e, e ∈ L ↔ e ∈ W ∧ lo ≤ e.1 ∧ e.2 < hi := fun e => by
    rw [hL, List.mem_filter]
    unfold betw
    rw [List.mem_filter, Bool.and_eq_true, decide_eq_true_iff, decide_eq_true_iff, decide_eq_true_iff]
    constructor
    · rintro ⟨⟨a, b, c⟩, d⟩; exact ⟨a, b, d⟩
    · rintro ⟨a, b, d⟩
      have := h.up e a
      exact ⟨⟨a, b, by omega⟩, d⟩
  have hLs : L.Pairwise lexL := by
    rw [hL]
    exact h.sorted.sublist (List.filter_sublist.trans List.filter_sublist)
  have hlay : layE f lo hi (betw W lo hi) = L.map fun e => (f (e.1 - lo), f (e.2 - lo)) := by unfold layE; rw [hL]
  rw [hlay]
  have hin : ∀ e ∈ L, lo ≤ e.1 ∧ e.1 < e.2 ∧ e.2 < hi := fun e he => by
    obtain ⟨a, b, c⟩ := (hmem e).1 he
    exact ⟨b, h.up e a, c⟩
  have hrk : ∀ e ∈ L, rkB (plI T pl) A lo (hi - lo) (f (e.1 - lo)) = e.1 ∧ rkB (plI T pl) A lo (hi - lo) (f (e.2 - lo)) = e.2 := fun e he => by
    obtain ⟨a, b, c⟩ := hin e he
    have h1 := (hnum (e.1 - lo) (by omega)).2.1
    have h2 := (hnum (e.2 - lo) (by omega)).2.1
    exact ⟨by omega, by omega⟩
  refine ⟨fun e he => ?_, fun e he => ?_, ?_, fun i j hi' hj' => ?_⟩
  · obtain ⟨e0, h0, rfl⟩ := List.mem_map.1 he
    obtain ⟨a, b, c⟩ := hin e0 h0
    exact ⟨(hnum (e0.1 - lo) (by omega)).1, (hnum (e0.2 - lo) (by omega)).1⟩
  · obtain ⟨e0, h0, rfl⟩ := List.mem_map.1 he
    obtain ⟨a, b⟩ := hrk e0 h0
    show rkB _ _ _ _ (f (e0.1 - lo)) < rkB _ _ _ _ (f (e0.2 - lo))
    rw [a, b]
    exact (hin e0 h0).2.1
  · rw [List.pairwise_map]
    refine (List.Pairwise.and_mem.1 hLs).imp fun {a b} hab => ?_
    obtain ⟨ha, hb, hab⟩ := hab
    show rkB _ _ _ _ (f (a.1 - lo)) ≤ rkB _ _ _ _ (f (b.1 - lo))
    rw [(hrk a ha).1, (hrk b hb).1]
    unfold lexL at hab
    omega
  · have hmap : (L.map fun e => (f (e.1 - lo), f (e.2 - lo))) = L.map fun e => ((fun q => f (q - lo)) e.1, (fun q => f (q - lo)) e.2) := rfl
    rw [hmap, walk_map (S := fun q => lo ≤ q ∧ q < hi) (f := fun q => f (q - lo)) (fun e he => by have := hin e he; exact ⟨⟨this.1, by omega⟩, by omega, this.2.2⟩) (fun a b ha hb e => by
      have h1 := (hnum (a - lo) (by omega)).2.1
      have h2 := (hnum (b - lo) (by omega)).2.1
      have e' : f (a - lo) = f (b - lo) := e
      rw [e', h2] at h1
      omega)]
    have hx : A[i]? = some (A.getD i 0) := by rw [List.getD_eq_getElem?_getD, List.getElem?_eq_getElem hi']; rfl
    have hy : A[j]? = some (A.getD j 0) := by rw [List.getD_eq_getElem?_getD, List.getElem?_eq_getElem hj']; rfl
    generalize A.getD i 0 = x at hx
    generalize A.getD j 0 = y at hy
    rw [h.ahead]
    constructor
    · rintro ⟨a, b, ha, hb, e1, e2, hw⟩
      have e1' := ((hnum (a - lo) (by omega)).2.2 i x hx).1 e1
      have e2' := ((hnum (b - lo) (by omega)).2.2 j y hy).1 e2
      rw [show lo + (a - lo) = a by omega] at e1'
      rw [show lo + (b - lo) = b by omega] at e2'
      have tx : x ∈ T := plI_tied (pl := pl).1 (by omega)
      have ty : y ∈ T := plI_tied (pl := pl).1 (by omega)
      rw [plI_in tx] at e1'
      rw [plI_in ty] at e2'
      refine ⟨tx, ty, ?_⟩
      rw [show pl (T.idxOf x) = a by omega, show pl (T.idxOf y) = b by omega]
      exact walk_mono (fun a b he => ((hmem _).1 he).1) hw
    · rintro ⟨tx, ty, hw⟩
      have px := plI_in (pl := pl) tx
      have py := plI_in (pl := pl) ty
      have bx := hS.2.2.2 x (List.mem_of_getElem? hx) (by omega)
      have bY := hS.2.2.2 y (List.mem_of_getElem? hy) (by omega)
      rw [px] at bx
      rw [py] at bY
      have ux : lo ≤ pl (T.idxOf x) ∧ pl (T.idxOf x) < hi := by omega
      have uy : lo ≤ pl (T.idxOf y) ∧ pl (T.idxOf y) < hi := by omega
      refine ⟨pl (T.idxOf x), pl (T.idxOf y), ux, uy, ?_, ?_, ?_⟩
      · exact ((hnum _ (by omega)).2.2 i x hx).2 (by rw [px]; omega)
      · exact ((hnum _ (by omega)).2.2 j y hy).2 (by rw [py]; omega)
      · have key : ∀ {a b : Nat}, Walk (EdR W) a b → lo ≤ a → b < hi → Walk (EdR L) a b := by
          intro a b hw
          induction hw with
          | one he => exact fun h1 h2 => .one ((hmem _).2 ⟨he, h1, h2⟩)
          | more he t ih =>
            intro h1 h2
            have u1 := h.up _ he
            have u2 := walk_up h.up t
            simp only at u1
            exact .more ((hmem _).2 ⟨he, h1, by simp only; omega⟩) (ih (by omega) h2)
        exact key hw ux.1 uy.2
end
end Go.Proofs.YtfpepoebammeoaaGreat
set_option linter.unusedVariables false
set_option linter.unusedSimpArgs false
namespace Go.Proofs.YtfpepoebammeoaaGreat
open Go.ChangeShapes Go.WideShapes Go.ChangeAt Go.RowKit

theorem has_nil (t : Int) (w : World) : Calls Tryz.prog 30 #[.pointer none, .int .i64 t] w fun e w' => e = .returned (.bool false) ∧ w' = w := by
  go_enter Tryz.func30, Tryz.ntmps30
  go_wp2_with fail
  go_ret
  exact ⟨rfl, rfl⟩
theorem has_any (p : Nat) (n t : Int) (w : World) (h0 : w.cell? ⟨p, 0, none⟩ = some (.int .i64 n)) : Calls Tryz.prog 30 #[.pointer (some ⟨p, 0, none⟩), .int .i64 t] w fun e w' => e = .returned (.bool (hasB n t)) ∧ w' = w := by
  unfold hasB
  by_cases h1 : 0 ≤ t
  · by_cases h2 : t < n
    · rw [decide_eq_true h1, decide_eq_true h2]
      go_enter Tryz.func30, Tryz.ntmps30
      go_wp2_with fail
      go_ret
      exact ⟨rfl, rfl⟩
    · rw [decide_eq_true h1, decide_eq_false h2]
      go_enter Tryz.func30, Tryz.ntmps30
      go_wp2_with fail
      go_ret
      exact ⟨rfl, rfl⟩
  · rw [decide_eq_false h1]
    go_enter Tryz.func30, Tryz.ntmps30
    go_wp2_with fail
    go_ret
    exact ⟨rfl, rfl⟩

theorem search_any (l : List Int) (v : Value) (x : Int) (w : World) (hr : RI w v l) (hs : l.Pairwise (· < ·)) (hl : l.length ≤ 1000000) :
    Calls Tryz.prog 42 #[v, .int .i64 x] w fun e w' => e = .returned (.tuple #[.int .i64 (l.countP (· < x) : Nat), .bool (l.contains x)]) ∧ ∃ q, w' = w.drewN q := by
  rcases hr with ⟨rfl, a, c, rfl⟩ | ⟨hn, b, o, c, rfl, hc, hm, hb, hx⟩
  · refine (Tryz.slices_BinarySearch_int_empty a c x w).mono ?_
    rintro e w' ⟨rfl, rfl⟩
    exact ⟨rfl, 0, rfl⟩
  · have h := Tryz.slices_BinarySearch_int b o l.length c l x w (Nat.le_refl _) (by omega) (fun j hj => by rw [hx j (l.getD j 0) (by rw [List.getD_eq_getElem?_getD, List.getElem?_eq_getElem hj]; rfl)]) (by rw [List.take_length]; exact hs.imp fun h => Int.le_of_lt h)
    rw [List.take_length] at h
    exact h
theorem count_at {T : List Nat} (hs : T.Pairwise (· < ·)) {x : Nat} (hx : x ∈ T) : (nl T).countP (· < (x : Int)) = T.idxOf x := by
  induction T with
  | nil => cases hx
  | cons b T ih =>
    obtain ⟨h1, h2⟩ := List.pairwise_cons.1 hs
    by_cases e : b = x
    · subst e
      rw [List.idxOf_cons_self, List.countP_eq_zero]
      intro y hy
      obtain ⟨z, hz, rfl⟩ := List.mem_map.1 hy
      rcases List.mem_cons.1 hz with rfl | hz
      · simp
      · have := h1 z hz; simp; omega
    · have hxT : x ∈ T := (List.mem_cons.1 hx).resolve_left fun c => e c.symm
      have hlt := h1 x hxT
      have hbe : (b == x) = false := by rw [beq_eq_false_iff_ne]; exact e
      rw [List.idxOf_cons, hbe]
      have := ih h2 hxT
      simp only [nl, List.map_cons, List.countP_cons] at this ⊢
      rw [this]
      simp
      omega
theorem place_any (p : Nat) (n : Int) (T : List Nat) (pl : Nat → Nat) (W : EdN) (t : Int) (w : World) (h : OrdO w p n T pl W) (hs : T.Pairwise (· < ·)) (hl : T.length ≤ 1000000) (hpl : ∀ i, pl i ≤ 1000000) (ht1 : -9223372036854775807 ≤ t) (ht2 : t ≤ 9223372036854775807) :
    Calls Tryz.prog 31 #[.pointer (some ⟨p, 0, none⟩), .int .i64 t] w fun e w' => e = .returned (.int .i64 (plI T pl t)) ∧ ∃ q, w' = w.drewN q := by
  obtain ⟨v1, c1, r1⟩ := h.c1
  obtain ⟨v2, c2, r2⟩ := h.c2
  have SE := Lib.hid (search_any (nl T) v1 t w r1 (by rw [nl, List.pairwise_map]; exact hs.imp fun hab => by omega) (by simpa using hl))
  by_cases hm : t ∈ nl T
  · obtain ⟨x, hx, rfl⟩ := List.mem_map.1 hm
    have hi := List.idxOf_lt_length_of_mem hx
    obtain ⟨b2, o2, c', rfl⟩ : ∃ b o c, v2 = .slice (some ⟨b, o, none⟩) T.length c := by
      rcases r2 with ⟨e, _⟩ | ⟨_, b, o, c, e, _⟩
      · have : (nl (plL T pl)).length = 0 := by rw [e]; rfl
        rw [nl_len, plL_len] at this; omega
      · exact ⟨b, o, c, by rw [e, nl_len, plL_len]⟩
    have hat := nl_at (plL_at pl hi)
    obtain ⟨b3, o3, e3, _, hc1, hc2, cx⟩ := r2.at hat
    injection e3 with e3
    injection e3 with e4 e5
    subst e4; subst e5
    have hres : plI T pl (x : Int) = (pl (T.idxOf x) : Int) := plI_in hx
    have hcp : (nl T).countP (· < (x : Int)) = T.idxOf x := count_at hs hx
    have hct : (nl T).contains (x : Int) = true := List.contains_iff_mem.2 hm
    rw [hcp, hct] at SE
    rw [hres]
    obtain ⟨i, hie⟩ : ∃ i, i = T.idxOf x := ⟨_, rfl⟩
    obtain ⟨L, hL⟩ : ∃ L, L = T.length := ⟨_, rfl⟩
    rw [← hie] at SE cx hi ⊢
    rw [← hL] at c2 hc1 hi hl
    obtain ⟨y, hy⟩ : ∃ y, y = pl i := ⟨_, rfl⟩
    have hy9 : y ≤ 1000000 := by rw [hy]; exact hpl i
    rw [← hy] at cx ⊢
    unfold maxLen at hc2
    have HX : Hid (∀ q, (w.drewN q).cell? ⟨p, 2, none⟩ = some (.slice (some ⟨b2, o2, none⟩) L c') ∧ (w.drewN q).cell? ⟨b2, o2 + i, none⟩ = some (.int .i64 (y : Int))) := Lib.hid (fun q => ⟨c2, cx⟩)
    clear r1 r2 h hat hres hcp hct hie hL hy hm hx c2 cx
    go_enter Tryz.func31, Tryz.ntmps31
    go_wp2_with fail
    refine SE.out.mono ?_
    rintro e w2 ⟨rfl, q, rfl⟩
    obtain ⟨c2, cx⟩ := HX.out q
    go_wp2_with fail
    go_ret
    exact ⟨rfl, q, rfl⟩
  · have hres : plI T pl t = -1 - t := by unfold plI; rw [if_neg hm]
    have hct : (nl T).contains t = false := Bool.eq_false_iff.2 fun c => hm (List.contains_iff_mem.1 c)
    rw [hct] at SE
    rw [hres]
    clear r1 r2 h hres hct hm c2
    have hw : IntKind.i64.wrap (-1 - t) = -1 - t := by rw [IntKind.wrap_i64]; omega
    go_enter Tryz.func31, Tryz.ntmps31
    go_wp2_with fail
    refine SE.out.mono ?_
    rintro e w2 ⟨rfl, q, rfl⟩
    go_wp2_with fail
    go_ret
    exact ⟨rfl, q, rfl⟩
end Go.Proofs.YtfpepoebammeoaaGreat
