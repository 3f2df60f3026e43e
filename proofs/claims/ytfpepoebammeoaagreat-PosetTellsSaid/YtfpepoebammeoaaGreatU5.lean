/- Edges in memory: slices of pairs that are read; which of them name things. No function of the program is named here. Mathematics: a thing's place. An order in memory: its box, the tied things, their places, the ways. No function of the program is named here. Mathematics of a board of an order: the line of its things; how far one comes from a number, back and on; what is single. Mathematics of what is asked for: of each knot the first thing; the board that is laid. Mathematics of what lay lays: a board. An argument that is a slice of pairs of numbers, opened. An argument that is a slice of numbers, opened. -/
import Derived.Deep.Slices
import Derived.Deep.Fields
import Derived.Test.YtfpepoebammeoaaGreatU2
import Derived.Test.YtfpepoebammeoaaGreatU4
set_option linter.unusedVariables false
namespace Go.Proofs.YtfpepoebammeoaaGreat
open Go.ChangeShapes Go.WideShapes Go.ChangeAt Go.RowKit

abbrev Ed := List (Int × Int)
def RE (w : World) (v : Value) (es : Ed) : Prop :=
  (es = [] ∧ ∃ a c, v = .slice a 0 c) ∨ (es ≠ [] ∧ ∃ b o c, v = .slice (some ⟨b, o, none⟩) es.length c ∧ es.length ≤ c ∧ c ≤ maxLen ∧ b < w.heap.size ∧ ∀ (j : Nat) e, es[j]? = some e → w.cell? ⟨b, o + j * 2, none⟩ = some (.int .i64 e.1) ∧ w.cell? ⟨b, o + j * 2 + 1, none⟩ = some (.int .i64 e.2))
theorem RE.below {w w' : World} {v : Value} {es : Ed} (h : RE w v es) (hb : Below w.heap.size w w') : RE w' v es := by
  rcases h with h | ⟨hn, b, o, c, h1, h2, h3, h4, h5⟩
  · exact .inl h
  · exact .inr ⟨hn, b, o, c, h1, h2, h3, Nat.lt_of_lt_of_le h4 hb.size, fun j e he => ⟨(hb.cell (p := ⟨b, o + j * 2, none⟩) h4).trans (h5 j e he).1, (hb.cell (p := ⟨b, o + j * 2 + 1, none⟩) h4).trans (h5 j e he).2⟩⟩
theorem RE.form {w : World} {v : Value} {es : Ed} (h : RE w v es) : ∃ a c, v = .slice a es.length c := by
  rcases h with ⟨rfl, a, c, rfl⟩ | ⟨hn, b, o, c, rfl, _⟩
  · exact ⟨_, _, rfl⟩
  · exact ⟨_, _, rfl⟩
theorem RE.at {w : World} {a : Option Addr} {n c : Nat} {es : Ed} (h : RE w (.slice a n c) es) {j : Nat} {e : Int × Int} (he : es[j]? = some e) : ∃ b o, a = some ⟨b, o, none⟩ ∧ b < w.heap.size ∧ n ≤ c ∧ c ≤ maxLen ∧ w.cell? ⟨b, o + j * 2, none⟩ = some (.int .i64 e.1) ∧ w.cell? ⟨b, o + j * 2 + 1, none⟩ = some (.int .i64 e.2) := by
  rcases h with ⟨rfl, a', c', e'⟩ | ⟨hn, b, o, c', e', hc, hm, hl, hx⟩
  · simp at he
  · simp only [Value.slice.injEq] at e'
    obtain ⟨rfl, rfl, rfl⟩ := e'
    exact ⟨b, o, rfl, hl, hc, hm, hx j e he⟩
def evs (es : Ed) : List Value := es.flatMap fun e => [.int .i64 e.1, .int .i64 e.2]
theorem evs_snoc (es : Ed) (e : Int × Int) : evs (es ++ [e]) = evs es ++ [.int .i64 e.1, .int .i64 e.2] := by simp [evs]
theorem evs_len (es : Ed) : (evs es).length = es.length * 2 := by
  induction es with
  | nil => rfl
  | cons e es ih =>
    have : evs (e :: es) = [.int .i64 e.1, .int .i64 e.2] ++ evs es := by simp [evs]
    rw [this, List.length_append, ih, List.length_cons]
    simp; omega
theorem evs_at : ∀ {es : Ed} {j : Nat} {e : Int × Int}, es[j]? = some e → (evs es)[j * 2]? = some (.int .i64 e.1) ∧ (evs es)[j * 2 + 1]? = some (.int .i64 e.2)
  | e0 :: es, 0, e, h => by
    simp at h; subst h
    simp [evs]
  | e0 :: es, j + 1, e, h => by
    rw [List.getElem?_cons_succ] at h
    obtain ⟨h1, h2⟩ := evs_at h
    have : evs (e0 :: es) = [.int .i64 e0.1, .int .i64 e0.2] ++ evs es := by simp [evs]
    rw [this]
    constructor
    · rw [List.getElem?_append_right (by simp; omega)]
      rw [show (j + 1) * 2 - ([Value.int .i64 e0.1, Value.int .i64 e0.2] : List Value).length = j * 2 by simp; omega]
      exact h1
    · rw [List.getElem?_append_right (by simp; omega)]
      rw [show (j + 1) * 2 + 1 - ([Value.int .i64 e0.1, Value.int .i64 e0.2] : List Value).length = j * 2 + 1 by simp; omega]
      exact h2
theorem RE.ofRow {B : Nat} {w : World} {v : Value} {es : Ed} (h : Row 2 B w v es.length (evs es)) : RE w v es := by
  rcases Nat.eq_zero_or_pos es.length with h0 | hp
  · obtain ⟨a, c, rfl⟩ := h.form
    rw [h0]
    exact .inl ⟨List.length_eq_zero_iff.1 h0, _, _, rfl⟩
  · obtain ⟨b, cap, rfl, h2, h3, h4, h5, h6, h7⟩ := h.pos hp
    exact .inr ⟨fun e => by rw [e] at hp; simp at hp, b, 0, cap, rfl, h4, h5, h3, fun j e he => by
      rw [Nat.zero_add]
      exact ⟨h7 _ _ (evs_at he).1, h7 _ _ (evs_at he).2⟩⟩
theorem evs_set {es : Ed} {j : Nat} {e e' : Int × Int} (h : es[j]? = some e) : ((evs es).set (j * 2) (.int .i64 e'.1)).set (j * 2 + 1) (.int .i64 e'.2) = evs (es.set j e') := by
  induction es generalizing j with
  | nil => simp at h
  | cons e0 es ih =>
    have hc : ∀ e1 es1, evs (e1 :: es1) = .int .i64 e1.1 :: .int .i64 e1.2 :: evs es1 := fun e1 es1 => by simp [evs]
    cases j with
    | zero => simp [hc]
    | succ j =>
      rw [List.getElem?_cons_succ] at h
      rw [hc, List.set_cons_succ, hc, ← ih h, show (j + 1) * 2 = (j * 2 + 1) + 1 by omega]
      simp [List.set_cons_succ]

def rightP (n : Int) (e : Int × Int) : Bool := decide (0 ≤ min e.1 e.2) && decide (max e.1 e.2 < n)
def amongL (n : Int) (es : Ed) : Ed := es.filter (rightP n)
def toN (es : Ed) : List (Nat × Nat) := es.map fun e => (e.1.toNat, e.2.toNat)
def toI (es : List (Nat × Nat)) : Ed := es.map fun e => ((e.1 : Int), (e.2 : Int))
theorem rightP_iff {n : Int} {e : Int × Int} : rightP n e = true ↔ 0 ≤ e.1 ∧ 0 ≤ e.2 ∧ e.1 < n ∧ e.2 < n := by
  simp only [rightP, Bool.and_eq_true, decide_eq_true_eq]
  omega
theorem amongL_take {n : Int} {es : Ed} {j : Nat} {e : Int × Int} (h : es[j]? = some e) : amongL n (es.take (j + 1)) = amongL n (es.take j) ++ if rightP n e then [e] else [] := by
  unfold amongL
  rw [List.take_add_one, h, List.filter_append]
  cases hp : rightP n e <;> simp [hp]
theorem toI_toN {n : Int} {es : Ed} : toI (toN (amongL n es)) = amongL n es := by
  unfold toI toN amongL
  rw [List.map_map]
  refine (List.map_congr_left (g := id) fun e he => ?_).trans (List.map_id _)
  obtain ⟨h1, h2, _⟩ := rightP_iff.1 (List.mem_filter.1 he).2
  simp only [Function.comp_apply, id]
  ext <;> simp <;> omega
theorem toN_lt {n : Nat} {es : Ed} : ∀ e ∈ toN (amongL (n : Int) es), e.1 < n ∧ e.2 < n := by
  intro e he
  obtain ⟨e0, h0, rfl⟩ := List.mem_map.1 he
  obtain ⟨h1, h2, h3, h4⟩ := rightP_iff.1 (List.mem_filter.1 h0).2
  simp only
  omega
end Go.Proofs.YtfpepoebammeoaaGreat
set_option linter.unusedVariables false
namespace Go.Proofs.YtfpepoebammeoaaGreat

def plI (T : List Nat) (pl : Nat → Nat) (x : Int) : Int := if x ∈ (T.map fun x : Nat => (x : Int)) then (pl (T.idxOf x.toNat) : Int) else -1 - x
theorem plI_in {T : List Nat} {pl : Nat → Nat} {x : Nat} (h : x ∈ T) : plI T pl (x : Int) = (pl (T.idxOf x) : Int) := by
  unfold plI
  rw [if_pos (List.mem_map.2 ⟨x, h, rfl⟩), Int.toNat_natCast]
theorem plI_out {T : List Nat} {pl : Nat → Nat} {x : Nat} (h : x ∉ T) : plI T pl (x : Int) = -1 - (x : Int) := by
  unfold plI
  rw [if_neg fun c => by
    obtain ⟨y, hy, e⟩ := List.mem_map.1 c
    exact h (by rw [show x = y by omega]; exact hy)]
theorem plI_tied {T : List Nat} {pl : Nat → Nat} {x : Nat} : 0 ≤ plI T pl (x : Int) ↔ x ∈ T := by
  by_cases h : x ∈ T
  · rw [plI_in h]; simp [h]
  · rw [plI_out h]
    constructor
    · intro; omega
    · exact fun c => absurd c h
theorem plI_same {n : Nat} {es : EdN} {T : List Nat} {pl : Nat → Nat} {W : EdN} (h : OrdS n es T pl W) {x y : Nat} : plI T pl (x : Int) = plI T pl (y : Int) ↔ Knot (EdR es) x y := by
  have free : ∀ {a b : Nat}, a ∉ T → ¬ Walk (EdR es) a b ∧ ¬ Walk (EdR es) b a := fun {a b} ha => ⟨fun hw => ha (h.forth hw).1, fun hw => ha (h.forth hw).2.1⟩
  by_cases hx : x ∈ T <;> by_cases hy : y ∈ T
  · rw [plI_in hx, plI_in hy, ← h.knot hx hy]
    omega
  · rw [plI_in hx, plI_out hy]
    constructor
    · intro e; omega
    · rintro ⟨h1 | h1, _⟩
      · exact absurd (h1 ▸ hx) hy
      · exact absurd h1 (free hy).2
  · rw [plI_out hx, plI_in hy]
    constructor
    · intro e; omega
    · rintro ⟨h1 | h1, _⟩
      · exact absurd (h1 ▸ hy) hx
      · exact absurd h1 (free hx).1
  · rw [plI_out hx, plI_out hy]
    constructor
    · intro e
      obtain rfl : x = y := by omega
      exact Knot.refl x
    · rintro ⟨h1 | h1, _⟩
      · rw [h1]
      · exact absurd h1 (free hx).1
end Go.Proofs.YtfpepoebammeoaaGreat
set_option linter.unusedVariables false
namespace Go.Proofs.YtfpepoebammeoaaGreat
open Go.ChangeShapes Go.WideShapes Go.ChangeAt Go.RowKit

def plL (T : List Nat) (pl : Nat → Nat) : List Nat := (List.range T.length).map pl
theorem plL_len (T : List Nat) (pl : Nat → Nat) : (plL T pl).length = T.length := by simp [plL]
theorem plL_at {T : List Nat} (pl : Nat → Nat) {i : Nat} (h : i < T.length) : (plL T pl)[i]? = some (pl i) := by simp [plL, h]
structure OrdO (w : World) (p : Nat) (n : Int) (T : List Nat) (pl : Nat → Nat) (W : EdN) : Prop where
  lt : p < w.heap.size
  c0 : w.cell? ⟨p, 0, none⟩ = some (.int .i64 n)
  c1 : ∃ v, w.cell? ⟨p, 1, none⟩ = some v ∧ RI w v (nl T)
  c2 : ∃ v, w.cell? ⟨p, 2, none⟩ = some v ∧ RI w v (nl (plL T pl))
  c3 : ∃ v, w.cell? ⟨p, 3, none⟩ = some v ∧ RE w v (toI W)
theorem OrdO.below {w w' : World} {p : Nat} {n : Int} {T : List Nat} {pl : Nat → Nat} {W : EdN} (h : OrdO w p n T pl W) (hb : Below w.heap.size w w') : OrdO w' p n T pl W := by
  have hc : ∀ j, w'.cell? ⟨p, j, none⟩ = w.cell? ⟨p, j, none⟩ := fun j => hb.cell (p := ⟨p, j, none⟩) h.lt
  obtain ⟨v1, a1, b1⟩ := h.c1
  obtain ⟨v2, a2, b2⟩ := h.c2
  obtain ⟨v3, a3, b3⟩ := h.c3
  exact ⟨Nat.lt_of_lt_of_le h.lt hb.size, (hc 0).trans h.c0, ⟨v1, (hc 1).trans a1, b1.below hb⟩, ⟨v2, (hc 2).trans a2, b2.below hb⟩, ⟨v3, (hc 3).trans a3, b3.below hb⟩⟩
end Go.Proofs.YtfpepoebammeoaaGreat
set_option linter.unusedVariables false
namespace Go.Proofs.YtfpepoebammeoaaGreat

noncomputable def pairA (R : Nat → Nat → Prop) (m : Nat) : EdN := open Classical in (List.range m).flatMap fun i => ((List.range m).filter fun j => decide (R i j)).map fun j => (i, j)
theorem mem_pairA {R : Nat → Nat → Prop} {m i j : Nat} : (i, j) ∈ pairA R m ↔ i < m ∧ j < m ∧ R i j := by
  classical
  unfold pairA
  rw [List.mem_flatMap]
  constructor
  · rintro ⟨a, ha, h⟩
    obtain ⟨b, hb, e⟩ := List.mem_map.1 h
    injection e with e1 e2
    subst e1; subst e2
    obtain ⟨h1, h2⟩ := List.mem_filter.1 hb
    exact ⟨List.mem_range.1 ha, List.mem_range.1 h1, of_decide_eq_true h2⟩
  · rintro ⟨h1, h2, h3⟩
    exact ⟨i, List.mem_range.2 h1, List.mem_map.2 ⟨j, List.mem_filter.2 ⟨List.mem_range.2 h2, decide_eq_true h3⟩, rfl⟩⟩
structure BoardS (R : Nat → Nat → Prop) (m D : Nat) (rk : Nat → Nat) (E : EdN) : Prop where
  lt : ∀ e ∈ E, e.1 < D + m ∧ e.2 < D + m
  up : ∀ e ∈ E, rk e.1 < rk e.2
  sorted : E.Pairwise fun e f => rk e.1 ≤ rk f.1
  walk : ∀ i j, i < m → j < m → (Walk (EdR E) (D + i) (D + j) ↔ R i j)
theorem rk_walk {rk : Nat → Nat} {E : EdN} (h : ∀ e ∈ E, rk e.1 < rk e.2) {a b : Nat} (hw : Walk (EdR E) a b) : rk a < rk b := by
  induction hw with
  | one he => exact h _ he
  | more he _ ih => exact Nat.lt_trans (h _ he) ih
theorem first_open {rk : Nat → Nat} {E : EdN} (h : ∀ e ∈ E, rk e.1 < rk e.2) {told : List Int} {x : Nat} (hx : (x : Int) ∉ told) : ∃ v, (v = x ∨ Walk (EdR E) v x) ∧ (v : Int) ∉ told ∧ ∀ e ∈ E, e.2 = v → (e.1 : Int) ∈ told := by
  have key : ∀ (d v : Nat), rk v ≤ d → (v = x ∨ Walk (EdR E) v x) → (v : Int) ∉ told → ∃ v, (v = x ∨ Walk (EdR E) v x) ∧ (v : Int) ∉ told ∧ ∀ e ∈ E, e.2 = v → (e.1 : Int) ∈ told := by
    intro d
    induction d with
    | zero =>
      intro v hd hv hn
      refine ⟨v, hv, hn, fun e he e2 => ?_⟩
      have := h e he
      rw [e2] at this; omega
    | succ d ih =>
      intro v hd hv hn
      by_cases hp : ∀ e ∈ E, e.2 = v → (e.1 : Int) ∈ told
      · exact ⟨v, hv, hn, hp⟩
      · have : ∃ e ∈ E, e.2 = v ∧ (e.1 : Int) ∉ told := by
          refine Classical.byContradiction fun c => hp fun e he e2 => Classical.byContradiction fun c2 => c ⟨e, he, e2, c2⟩
        obtain ⟨e, he, e2, hn2⟩ := this
        have hlt := h e he
        rw [e2] at hlt
        refine ih e.1 (by omega) (.inr ?_) hn2
        have hone : EdR E e.1 v := by rw [← e2]; exact he
        rcases hv with hv | hv
        · rw [← hv]; exact .one hone
        · exact .more hone hv
  exact key _ x (Nat.le_refl _) (.inl rfl) hx
section
variable {R : Nat → Nat → Prop} {m D : Nat} {rk : Nat → Nat} {E : EdN}
theorem BoardS.told (h : BoardS R m D rk E) {told : List Int} (hr : ReachK (needE E) (D + m) told) : ∃ L : List Int, told.filter (fun x => decide ((D : Int) ≤ x)) = L.map (fun x => (D : Int) + x) ∧ ReachK (needE (pairA R m)) m L := by
  induction hr with
  | nil => exact ⟨[], rfl, .nil⟩
  | @step told u h1 hu ih =>
    obtain ⟨L, e, hL⟩ := ih
    have hmem : ∀ i : Nat, (i : Int) ∈ L ↔ ((D + i : Nat) : Int) ∈ told := by
      intro i
      have : ((D + i : Nat) : Int) ∈ told ↔ ((D + i : Nat) : Int) ∈ told.filter (fun x => decide ((D : Int) ≤ x)) := by
        rw [List.mem_filter]
        exact ⟨fun c => ⟨c, decide_eq_true (by omega)⟩, fun c => c.1⟩
      rw [this, e, List.mem_map]
      constructor
      · exact fun c => ⟨_, c, by omega⟩
      · rintro ⟨a, ha, e2⟩
        rw [show (i : Int) = a by omega]; exact ha
    by_cases hd : u < D
    · refine ⟨L, ?_, hL⟩
      rw [List.filter_append, e, List.filter_cons_of_neg (by simp; omega)]
      simp
    · obtain ⟨i, rfl⟩ : ∃ i, u = D + i := ⟨u - D, by omega⟩
      obtain ⟨hlt, hcan⟩ := next_lt hu
      obtain ⟨hfresh, hneed⟩ := canB_iff.1 hcan
      have him : i < m := by omega
      refine ⟨L ++ [(i : Int)], ?_, .step hL (next_of him ?_ fun k hk => ?_)⟩
      · have hp : decide ((D : Int) ≤ ((D + i : Nat) : Int)) = true := decide_eq_true (by omega)
        rw [List.filter_append, e, List.filter_cons_of_pos (p := fun x : Int => decide ((D : Int) ≤ x)) hp]
        simp
      · refine canB_iff.2 ⟨fun c => hfresh ((hmem i).1 c), fun p hp e2 => ?_⟩
        obtain ⟨a, b⟩ := p
        simp only at e2
        subst e2
        obtain ⟨ha, _, hR⟩ := mem_pairA.1 hp
        have hw := (h.walk a b ha him).2 hR
        obtain ⟨j, k, hjk, hj, hk⟩ := reach_noring (.step h1 hu) hw (by simp)
        refine (hmem a).2 ?_
        have hjm := List.mem_of_getElem? hj
        rcases List.mem_append.1 hjm with c | c
        · exact c
        · have := List.mem_singleton.1 c
          have hr := rk_walk h.up hw
          rw [show D + a = D + b by omega] at hr
          omega
      · refine Bool.eq_false_iff.2 fun hc => ?_
        obtain ⟨hk1, hk2⟩ := canB_iff.1 hc
        have hkm : k < m := by omega
        obtain ⟨v, hv, hvn, hvp⟩ := first_open h.up (x := D + k) (told := told) (fun c => hk1 ((hmem k).2 c))
        have hcv : canB (needE E) told v = true := canB_iff.2 ⟨hvn, hvp⟩
        have hvu : ¬ v < D + i := fun c => by
          rw [next_min hu c] at hcv; cases hcv
        rcases hv with hv | hv
        · omega
        · have hvm : v < D + m := by
            cases hv with
            | one he => exact (h.lt _ he).1
            | more he _ => exact (h.lt _ he).1
          obtain ⟨j, rfl⟩ : ∃ j, v = D + j := ⟨v - D, by omega⟩
          have hR := (h.walk j k (by omega) hkm).1 hv
          have := hk2 (j, k) (mem_pairA.2 ⟨by omega, hkm, hR⟩) rfl
          exact hvn ((hmem j).1 this)
theorem BoardS.noring (h : BoardS R m D rk E) (u : Nat) : ¬ Walk (EdR E) u u := fun hw => by have := rk_walk h.up hw; omega
theorem BoardS.line (h : BoardS R m D rk E) {out : List Int} {ok : Bool} (hs : SortR (D + m) E out ok) : ok = true ∧ out.length = D + m ∧ ∃ L : List Int, out.filter (fun x => decide ((D : Int) ≤ x)) = L.map (fun x => (D : Int) + x) ∧ ReachK (needE (pairA R m)) m L ∧ L.length = m := by
  have hok := sort_ok (fun e he => (h.lt e he).1) h.noring hs
  subst hok
  obtain ⟨hr, hl⟩ : ReachK (needE E) (D + m) out ∧ out.length = D + m := by
    rcases hs with ⟨_, hr, hl⟩ | ⟨h, _⟩
    · exact ⟨hr, hl⟩
    · cases h
  refine ⟨rfl, hl, ?_⟩
  obtain ⟨L, e, hL⟩ := h.told hr
  refine ⟨L, e, hL, ?_⟩
  obtain ⟨n1, n2⟩ := reach_tame hL
  have hle := reach_len hL
  refine Nat.le_antisymm hle ?_
  have := nodup_sub (a := (List.range m).map fun i : Nat => (i : Int)) (b := L) ?_ ?_
  · simpa using this
  · rw [List.nodup_iff_pairwise_ne, List.pairwise_map]
    exact List.nodup_range.imp fun hab e => hab (by omega)
  · intro x hx
    obtain ⟨i, hi, rfl⟩ := List.mem_map.1 hx
    have him := List.mem_range.1 hi
    obtain ⟨t1, t2⟩ := reach_tame hr
    have hm := full_mem t1 t2 hl (v := D + i) (by omega)
    have : ((D + i : Nat) : Int) ∈ out.filter (fun x => decide ((D : Int) ≤ x)) := List.mem_filter.2 ⟨hm, decide_eq_true (by omega)⟩
    rw [e] at this
    obtain ⟨a, ha, e2⟩ := List.mem_map.1 this
    rw [show (i : Int) = a by omega]; exact ha
theorem line_ahead {L : List Int} (hL : ReachK (needE (pairA R m)) m L) {i j p q : Nat} (hp : L[p]? = some (i : Int)) (hq : L[q]? = some (j : Int)) (hR : R i j) : p < q := by
  obtain ⟨n1, n2⟩ := reach_tame hL
  have hi : i < m := by
    obtain ⟨u, hu, e⟩ := n2 _ (List.mem_of_getElem? hp); omega
  have hj : j < m := by
    obtain ⟨u, hu, e⟩ := n2 _ (List.mem_of_getElem? hq); omega
  obtain ⟨k, hk, e⟩ := reach_beh hL q _ hq (i : Int) (mem_needE.2 ⟨_, mem_pairA.2 ⟨hi, hj, hR⟩, rfl, rfl⟩)
  rw [nodupI_at n1 hp e]
  exact hk
end

theorem walk_lastR {rk : Nat → Nat} {L : EdN} {e : Nat × Nat} (h1 : ∀ f ∈ L, rk f.1 ≤ rk e.1) (h2 : rk e.1 < rk e.2) {a p : Nat} : Walk (EdR (L ++ [e])) a p ↔ Walk (EdR L) a p ∨ (p = e.2 ∧ (a = e.1 ∨ Walk (EdR L) a e.1)) := by
  have up : ∀ {x y : Nat}, EdR L x y → EdR (L ++ [e]) x y := fun h => List.mem_append.2 (.inl h)
  have none : ∀ {y : Nat}, ¬ Walk (EdR L) e.2 y := fun {y} h => by
    cases h with
    | one he => have := h1 _ he; simp only at this; omega
    | more he _ => have := h1 _ he; simp only at this; omega
  constructor
  · intro h
    induction h with
    | @one a b he =>
      rcases List.mem_append.1 he with he | he
      · exact .inl (.one he)
      · have := List.mem_singleton.1 he
        subst this
        exact .inr ⟨rfl, .inl rfl⟩
    | @more a b c he _ ih =>
      rcases List.mem_append.1 he with he | he
      · rcases ih with ih | ⟨rfl, rfl | ih⟩
        · exact .inl (.more he ih)
        · exact .inr ⟨rfl, .inr (.one he)⟩
        · exact .inr ⟨rfl, .inr (.more he ih)⟩
      · have := List.mem_singleton.1 he
        subst this
        rcases ih with ih | ⟨_, ih | ih⟩
        · exact absurd ih none
        · simp only at ih h2; rw [ih] at h2; omega
        · exact absurd ih none
  · rintro (h | ⟨rfl, rfl | h⟩)
    · exact walk_mono (fun a b h => up h) h
    · exact .one (List.mem_append.2 (.inr (List.mem_singleton.2 rfl)))
    · exact (walk_mono (fun a b h => up h) h).trans (.one (List.mem_append.2 (.inr (List.mem_singleton.2 rfl))))
theorem walk_firstR {rk : Nat → Nat} {L : EdN} {e : Nat × Nat} (h1 : ∀ f ∈ L, rk e.1 ≤ rk f.1) (hu : ∀ f ∈ L, rk f.1 < rk f.2) (h2 : rk e.1 < rk e.2) {a p : Nat} : Walk (EdR (e :: L)) a p ↔ Walk (EdR L) a p ∨ (a = e.1 ∧ (p = e.2 ∨ Walk (EdR L) e.2 p)) := by
  have up : ∀ {x y : Nat}, EdR L x y → EdR (e :: L) x y := fun h => List.mem_cons.2 (.inr h)
  have into : ∀ {x : Nat}, ¬ EdR L x e.1 := fun {x} h => by
    have a := h1 _ h; have b := hu _ h; simp only at a b; omega
  constructor
  · intro h
    induction h with
    | @one a b he =>
      rcases List.mem_cons.1 he with he | he
      · subst he
        exact .inr ⟨rfl, .inl rfl⟩
      · exact .inl (.one he)
    | @more a b c he _ ih =>
      rcases List.mem_cons.1 he with he | he
      · subst he
        rcases ih with ih | ⟨ih, _⟩
        · exact .inr ⟨rfl, .inr ih⟩
        · simp only at ih h2; rw [ih] at h2; omega
      · rcases ih with ih | ⟨rfl, _⟩
        · exact .inl (.more he ih)
        · exact absurd he into
  · rintro (h | ⟨rfl, rfl | h⟩)
    · exact walk_mono (fun a b h => up h) h
    · exact .one (List.mem_cons.2 (.inl rfl))
    · exact .more (List.mem_cons.2 (.inl rfl)) (walk_mono (fun a b h => up h) h)

def updI (f : Nat → Int) (v : Nat) (x : Int) : Nat → Int := fun u => if u = v then x else f u
def bkS (ob : Nat → Int) (f : Nat → Int) (e : Nat × Nat) : Nat → Int := updI f e.2 (max (max (f e.2) (f e.1)) (ob e.1))
def onS (oo : Nat → Int) (g : Nat → Int) (e : Nat × Nat) : Nat → Int := updI g e.1 (min (min (g e.1) (g e.2)) (oo e.2))
def BkI (ob : Nat → Int) (E : EdN) (f : Nat → Int) : Prop := ∀ x, (f x = -1 ∨ ∃ y, Walk (EdR E) y x ∧ ob y = f x) ∧ -1 ≤ f x ∧ ∀ y, Walk (EdR E) y x → ob y ≤ f x
def OnI (oo : Nat → Int) (m : Int) (E : EdN) (g : Nat → Int) : Prop := ∀ x, (g x = m ∨ ∃ y, Walk (EdR E) x y ∧ oo y = g x) ∧ g x ≤ m ∧ ∀ y, Walk (EdR E) x y → g x ≤ oo y
theorem noWalk {a b : Nat} : ¬ Walk (EdR []) a b := fun h => by
  cases h with
  | one he => cases he
  | more he _ => cases he
theorem bk_first (ob : Nat → Int) : BkI ob [] (fun _ => -1) := fun x => ⟨.inl rfl, Int.le_refl _, fun y hy => absurd hy noWalk⟩
theorem on_first (oo : Nat → Int) (m : Int) : OnI oo m [] (fun _ => m) := fun x => ⟨.inl rfl, Int.le_refl _, fun y hy => absurd hy noWalk⟩
theorem bk_step {ob : Nat → Int} {rk : Nat → Nat} {L : EdN} {e : Nat × Nat} {f : Nat → Int} (h : BkI ob L f) (h1 : ∀ f ∈ L, rk f.1 ≤ rk e.1) (h2 : rk e.1 < rk e.2) (ho : -1 ≤ ob e.1) : BkI ob (L ++ [e]) (bkS ob f e) := by
  intro x
  have hne : e.1 ≠ e.2 := fun c => by rw [c] at h2; omega
  unfold bkS updI
  obtain ⟨a1, a2, a3⟩ := h x
  by_cases hx : x = e.2
  · rw [if_pos hx]
    obtain ⟨b1, b2, b3⟩ := h e.1
    subst hx
    refine ⟨?_, by omega, fun y hy => ?_⟩
    · rcases Int.le_total (max (f e.2) (f e.1)) (ob e.1) with c | c
      · rw [Int.max_eq_right c]
        exact .inr ⟨e.1, (walk_lastR h1 h2).2 (.inr ⟨rfl, .inl rfl⟩), rfl⟩
      · rw [Int.max_eq_left c]
        rcases Int.le_total (f e.2) (f e.1) with d | d
        · rw [Int.max_eq_right d]
          rcases b1 with b1 | ⟨y, hy, e9⟩
          · exact .inl b1
          · exact .inr ⟨y, (walk_lastR h1 h2).2 (.inr ⟨rfl, .inr hy⟩), e9⟩
        · rw [Int.max_eq_left d]
          rcases a1 with a1 | ⟨y, hy, e9⟩
          · exact .inl a1
          · exact .inr ⟨y, (walk_lastR h1 h2).2 (.inl hy), e9⟩
    · rcases (walk_lastR h1 h2).1 hy with c | ⟨_, rfl | c⟩
      · have := a3 y c; omega
      · omega
      · have := b3 y c; omega
  · rw [if_neg hx]
    refine ⟨?_, a2, fun y hy => ?_⟩
    · rcases a1 with a1 | ⟨y, hy, e9⟩
      · exact .inl a1
      · exact .inr ⟨y, (walk_lastR h1 h2).2 (.inl hy), e9⟩
    · rcases (walk_lastR h1 h2).1 hy with c | ⟨c, _⟩
      · exact a3 y c
      · exact absurd c hx
theorem on_step {oo : Nat → Int} {m : Int} {rk : Nat → Nat} {L : EdN} {e : Nat × Nat} {g : Nat → Int} (h : OnI oo m L g) (h1 : ∀ f ∈ L, rk e.1 ≤ rk f.1) (hu : ∀ f ∈ L, rk f.1 < rk f.2) (h2 : rk e.1 < rk e.2) (ho : oo e.2 ≤ m) : OnI oo m (e :: L) (onS oo g e) := by
  intro x
  unfold onS updI
  obtain ⟨a1, a2, a3⟩ := h x
  by_cases hx : x = e.1
  · rw [if_pos hx]
    obtain ⟨b1, b2, b3⟩ := h e.2
    subst hx
    refine ⟨?_, by omega, fun y hy => ?_⟩
    · rcases Int.le_total (min (g e.1) (g e.2)) (oo e.2) with c | c
      · rw [Int.min_eq_left c]
        rcases Int.le_total (g e.1) (g e.2) with d | d
        · rw [Int.min_eq_left d]
          rcases a1 with a1 | ⟨y, hy, e9⟩
          · exact .inl a1
          · exact .inr ⟨y, (walk_firstR h1 hu h2).2 (.inl hy), e9⟩
        · rw [Int.min_eq_right d]
          rcases b1 with b1 | ⟨y, hy, e9⟩
          · exact .inl b1
          · exact .inr ⟨y, (walk_firstR h1 hu h2).2 (.inr ⟨rfl, .inr hy⟩), e9⟩
      · rw [Int.min_eq_right c]
        exact .inr ⟨e.2, (walk_firstR h1 hu h2).2 (.inr ⟨rfl, .inl rfl⟩), rfl⟩
    · rcases (walk_firstR h1 hu h2).1 hy with c | ⟨_, rfl | c⟩
      · have := a3 y c; omega
      · omega
      · have := b3 y c; omega
  · rw [if_neg hx]
    refine ⟨?_, a2, fun y hy => ?_⟩
    · rcases a1 with a1 | ⟨y, hy, e9⟩
      · exact .inl a1
      · exact .inr ⟨y, (walk_firstR h1 hu h2).2 (.inl hy), e9⟩
    · rcases (walk_firstR h1 hu h2).1 hy with c | ⟨c, _⟩
      · exact a3 y c
      · exact absurd c hx
def ownB (D : Nat) (L : List Int) (k : Nat) (y : Nat) : Int := if D ≤ y ∧ ((y - D : Nat) : Int) ∈ L.take k then (L.idxOf ((y - D : Nat) : Int) : Int) else -1
def ownO (D : Nat) (L : List Int) (k : Nat) (y : Nat) : Int := if D ≤ y ∧ ((y - D : Nat) : Int) ∈ L.take k then (L.idxOf ((y - D : Nat) : Int) : Int) else (L.length : Int)
theorem own_zero (D : Nat) (L : List Int) (y : Nat) : ownB D L 0 y = -1 ∧ ownO D L 0 y = (L.length : Int) := by simp [ownB, ownO]
theorem own_step {D : Nat} {L : List Int} (hn : L.Nodup) {k i : Nat} (h : L[k]? = some (i : Int)) (y : Nat) : ownB D L (k + 1) y = (if y = D + i then (k : Int) else ownB D L k y) ∧ ownO D L (k + 1) y = (if y = D + i then (k : Int) else ownO D L k y) := by
  unfold ownB ownO
  rw [List.take_add_one, h]
  by_cases e : y = D + i
  · subst e
    have e2 : D + i - D = i := by omega
    rw [if_pos rfl, if_pos rfl, e2, if_pos ⟨by omega, by simp⟩, if_pos ⟨by omega, by simp⟩, idxI_at hn h]
    exact ⟨rfl, rfl⟩
  · rw [if_neg e, if_neg e]
    have : (D ≤ y ∧ ((y - D : Nat) : Int) ∈ L.take k ++ (some (i : Int)).toList) ↔ (D ≤ y ∧ ((y - D : Nat) : Int) ∈ L.take k) := by
      rw [List.mem_append]
      simp
      omega
    simp only [this]
    exact ⟨trivial, trivial⟩
theorem own_tame {D : Nat} {L : List Int} (k y : Nat) : -1 ≤ ownB D L k y ∧ ownB D L k y < L.length + 1 ∧ 0 ≤ ownO D L k y ∧ ownO D L k y ≤ L.length := by
  unfold ownB ownO
  have : ∀ x : Int, L.idxOf x ≤ L.length := fun x => List.idxOf_le_length
  have h2 := this ((y - D : Nat) : Int)
  split
  · omega
  · omega
theorem own_end {D : Nat} {L : List Int} {y p : Nat} (hn : L.Nodup) (hy : L[p]? = some (((y - D : Nat) : Int))) (hD : D ≤ y) : ownB D L L.length y = p ∧ ownO D L L.length y = p := by
  unfold ownB ownO
  rw [List.take_length, if_pos ⟨hD, List.mem_of_getElem? hy⟩, if_pos ⟨hD, List.mem_of_getElem? hy⟩, idxI_at hn hy]
  exact ⟨rfl, rfl⟩
theorem own_back {D : Nat} {L : List Int} {y : Nat} (hn : 0 ≤ ownB D L L.length y) : D ≤ y ∧ ∃ p : Nat, L[p]? = some ((y - D : Nat) : Int) ∧ ownB D L L.length y = p := by
  unfold ownB at *
  rw [List.take_length] at *
  split at hn
  · rename_i c
    rw [if_pos c]
    exact ⟨c.1, _, by rw [List.getElem?_eq_getElem (List.idxOf_lt_length_of_mem c.2)]; exact congrArg some (List.getElem_idxOf _), rfl⟩
  · omega
theorem own_on {D : Nat} {L : List Int} {y : Nat} (hn : ownO D L L.length y < L.length) : D ≤ y ∧ ∃ p : Nat, L[p]? = some ((y - D : Nat) : Int) ∧ ownO D L L.length y = p := by
  unfold ownO at *
  rw [List.take_length] at *
  split at hn
  · rename_i c
    rw [if_pos c]
    exact ⟨c.1, _, by rw [List.getElem?_eq_getElem (List.idxOf_lt_length_of_mem c.2)]; exact congrArg some (List.getElem_idxOf _), rfl⟩
  · omega
end Go.Proofs.YtfpepoebammeoaaGreat
set_option linter.unusedVariables false
namespace Go.Proofs.YtfpepoebammeoaaGreat

def askF (h : Int → Bool) (P : Int → Int) (out : List Int) (t : Int) : List Int := if h t && !((out.map P).contains (P t)) then out ++ [t] else out
def askL (h : Int → Bool) (P : Int → Int) (l : List Int) : List Int := l.foldl (askF h P) []
theorem ask_take {h : Int → Bool} {P : Int → Int} {l : List Int} {j : Nat} {t : Int} (ht : l[j]? = some t) : askL h P (l.take (j + 1)) = askF h P (askL h P (l.take j)) t := by
  unfold askL
  rw [List.take_add_one, ht, List.foldl_append]
  rfl
theorem ask_len (h : Int → Bool) (P : Int → Int) (l : List Int) : ∀ j, (askL h P (l.take j)).length ≤ j
  | 0 => by simp [askL]
  | j + 1 => by
    have ih := ask_len h P l j
    cases ht : l[j]? with
    | none =>
      have : l.take (j + 1) = l.take j := by rw [List.take_add_one, ht]; simp
      rw [this]; omega
    | some t =>
      rw [ask_take ht]
      unfold askF
      split
      · simp; omega
      · omega
theorem ask_is (h : Int → Bool) (P : Int → Int) (l : List Int) : (∀ x ∈ askL h P l, h x = true ∧ x ∈ l) ∧ ((askL h P l).map P).Nodup ∧ ∀ t ∈ l, h t = true → P t ∈ (askL h P l).map P := by
  have key : ∀ (l out : List Int), (out.map P).Nodup → (∀ x ∈ l.foldl (askF h P) out, x ∈ out ∨ (h x = true ∧ x ∈ l)) ∧ ((l.foldl (askF h P) out).map P).Nodup ∧ (∀ x ∈ out, x ∈ l.foldl (askF h P) out) ∧ ∀ t ∈ l, h t = true → P t ∈ (l.foldl (askF h P) out).map P := by
    intro l
    induction l with
    | nil => intro out ho; exact ⟨fun x hx => .inl hx, ho, fun x hx => hx, fun t ht => by cases ht⟩
    | cons a l ih =>
      intro out ho
      rw [List.foldl_cons]
      have hno : ((askF h P out a).map P).Nodup := by
        unfold askF
        split
        · rename_i hc
          rw [Bool.and_eq_true, Bool.not_eq_true'] at hc
          rw [List.map_append, List.nodup_append]
          refine ⟨ho, by simp, fun x hx y hy e => ?_⟩
          have : y = P a := by simpa using hy
          rw [this] at e
          rw [e] at hx
          have := hc.2
          rw [List.contains_eq_mem, decide_eq_false_iff_not] at this
          exact this hx
        · exact ho
      obtain ⟨h1, h2, h3, h4⟩ := ih (askF h P out a) hno
      have hin : ∀ x ∈ out, x ∈ askF h P out a := fun x hx => by
        unfold askF
        split
        · exact List.mem_append.2 (.inl hx)
        · exact hx
      refine ⟨fun x hx => ?_, h2, fun x hx => h3 x (hin x hx), fun t ht hh => ?_⟩
      · rcases h1 x hx with c | ⟨c, d⟩
        · unfold askF at c
          split at c
          · rename_i hc
            rw [Bool.and_eq_true] at hc
            rcases List.mem_append.1 c with c | c
            · exact .inl c
            · rw [List.mem_singleton.1 c]; exact .inr ⟨hc.1, by simp⟩
          · exact .inl c
        · exact .inr ⟨c, by simp [d]⟩
      · rcases List.mem_cons.1 ht with e | ht
        · subst e
          by_cases hc : ((out.map P).contains (P t)) = true
          · rw [List.contains_eq_mem, decide_eq_true_iff] at hc
            obtain ⟨x, hx, e⟩ := List.mem_map.1 hc
            exact List.mem_map.2 ⟨x, h3 x (hin x hx), e⟩
          · refine List.mem_map.2 ⟨t, h3 t ?_, rfl⟩
            unfold askF
            rw [hh, if_pos (by simpa using hc)]
            simp
        · exact h4 t ht hh
  obtain ⟨h1, h2, _, h4⟩ := key l [] .nil
  exact ⟨fun x hx => (h1 x hx).resolve_left (by simp), h2, h4⟩
def sortI (l : List Int) : List Int := l.mergeSort fun x y => decide (x ≤ y)
theorem sortI_perm (l : List Int) : (sortI l).Perm l := List.mergeSort_perm _ _
theorem sortI_asc (l : List Int) : (sortI l).Pairwise (· ≤ ·) := by
  have := List.pairwise_mergeSort (le := fun x y : Int => decide (x ≤ y)) (fun a b c h1 h2 => by simp only [decide_eq_true_iff] at *; omega) (fun a b => by rw [Bool.or_eq_true, decide_eq_true_iff, decide_eq_true_iff]; omega) l
  exact this.imp fun h => of_decide_eq_true h
def askN (h : Int → Bool) (P : Int → Int) (l : List Int) : List Nat := (sortI (askL h P l)).map Int.toNat
structure AskS (n : Int) (P : Int → Int) (l : List Int) (A : List Nat) : Prop where
  asc : A.Pairwise (· < ·)
  lt : ∀ x ∈ A, (x : Int) < n
  mem : ∀ x ∈ A, (x : Int) ∈ l
  inj : ∀ i j x y : Nat, A[i]? = some x → A[j]? = some y → P x = P y → i = j
  all : ∀ t ∈ l, hasB n t = true → ∃ x ∈ A, P (x : Int) = P t
  ints : A.map (fun x : Nat => (x : Int)) = sortI (askL (hasB n) P l)
theorem askN_is (n : Int) (P : Int → Int) (l : List Int) : AskS n P l (askN (hasB n) P l) := by
  obtain ⟨h1, h2, h3⟩ := ask_is (hasB n) P l
  have hp := sortI_perm (askL (hasB n) P l)
  have hpos : ∀ x ∈ sortI (askL (hasB n) P l), 0 ≤ x ∧ x < n := fun x hx => hasB_iff.1 (h1 x (hp.mem_iff.1 hx)).1
  have hints : (askN (hasB n) P l).map (fun x : Nat => (x : Int)) = sortI (askL (hasB n) P l) := by
    unfold askN
    rw [List.map_map]
    conv => rhs; rw [← List.map_id (sortI (askL (hasB n) P l))]
    refine List.map_congr_left fun x hx => ?_
    have := (hpos x hx).1
    show ((x.toNat : Nat) : Int) = x
    omega
  have hnd : (sortI (askL (hasB n) P l)).Nodup := by
    have : (askL (hasB n) P l).Nodup := (List.nodup_iff_pairwise_ne.2 ((List.pairwise_map.1 (List.nodup_iff_pairwise_ne.1 h2)).imp fun hab e => hab (by rw [e])))
    exact hp.nodup_iff.2 this
  have hndP : ((sortI (askL (hasB n) P l)).map P).Nodup := (hp.map P).nodup_iff.2 h2
  have hmem : ∀ x : Nat, x ∈ askN (hasB n) P l ↔ (x : Int) ∈ sortI (askL (hasB n) P l) := fun x => by
    rw [← hints, List.mem_map]
    exact ⟨fun h => ⟨x, h, rfl⟩, fun ⟨y, hy, e⟩ => by rw [show x = y by omega]; exact hy⟩
  refine ⟨?_, fun x hx => (hpos _ ((hmem x).1 hx)).2, fun x hx => (h1 _ (hp.mem_iff.1 ((hmem x).1 hx))).2, fun i j x y hi hj e => ?_, fun t ht hh => ?_, hints⟩
  · have h4 := (sortI_asc (askL (hasB n) P l)).and (List.nodup_iff_pairwise_ne.1 hnd)
    rw [← hints, List.pairwise_map] at h4
    exact h4.imp fun h => by omega
  · have ei : ((sortI (askL (hasB n) P l)).map P)[i]? = some (P x) := by rw [← hints]; simp [hi]
    have ej : ((sortI (askL (hasB n) P l)).map P)[j]? = some (P x) := by rw [← hints]; simp [hj, e]
    exact (List.getElem?_inj (List.getElem?_eq_some_iff.1 ei).1 hndP).1 (ei.trans ej.symm)
  · obtain ⟨x, hx, e⟩ := List.mem_map.1 (h3 t ht hh)
    have hx2 := hp.mem_iff.2 hx
    have := (hpos x hx2).1
    refine ⟨x.toNat, (hmem _).2 (by rw [show ((x.toNat : Nat) : Int) = x by omega]; exact hx2), by rw [show ((x.toNat : Nat) : Int) = x by omega]; exact e⟩

def numK (P : Int → Int) (A : List Nat) (lo D k q : Nat) : Nat := if (A.take k).any (fun x : Nat => P (x : Int) == ((lo + q : Nat) : Int)) then D + (A.take k).findIdx (fun x : Nat => P (x : Int) == ((lo + q : Nat) : Int)) else q
theorem numK_zero (P : Int → Int) (A : List Nat) (lo D q : Nat) : numK P A lo D 0 q = q := by simp [numK]
theorem numK_step {P : Int → Int} {A : List Nat} (lo D : Nat) {k x : Nat} (hinj : ∀ i j x y : Nat, A[i]? = some x → A[j]? = some y → P x = P y → i = j) (hx : A[k]? = some x) (q : Nat) : numK P A lo D (k + 1) q = if P (x : Int) = ((lo + q : Nat) : Int) then D + k else numK P A lo D k q := by
  have hk := (List.getElem?_eq_some_iff.1 hx).1
  have e : A.take (k + 1) = A.take k ++ [x] := by rw [List.take_add_one, hx]; rfl
  unfold numK
  rw [e, List.any_append, List.findIdx_append]
  by_cases h : P (x : Int) = ((lo + q : Nat) : Int)
  · have hn : (A.take k).any (fun x : Nat => P (x : Int) == ((lo + q : Nat) : Int)) = false := by
      rw [Bool.eq_false_iff]
      intro c
      obtain ⟨y, hy, e2⟩ := List.any_eq_true.1 c
      obtain ⟨t, ht, rfl⟩ := List.mem_take_iff_getElem.1 hy
      have := hinj t k _ x (List.getElem?_eq_getElem (by omega)) hx (by rw [h]; simpa using e2)
      omega
    have hf : (A.take k).findIdx (fun x : Nat => P (x : Int) == ((lo + q : Nat) : Int)) = (A.take k).length := by
      rw [List.findIdx_eq_length]
      intro y hy
      exact List.any_eq_false.1 hn y hy |> Bool.eq_false_iff.2
    rw [hn, hf, if_neg (Nat.lt_irrefl _), if_pos h]
    have : [x].any (fun x : Nat => P (x : Int) == ((lo + q : Nat) : Int)) = true := by simp [h]
    rw [this, Bool.or_true, if_pos rfl]
    simp [h, List.findIdx_cons]
    omega
  · have : [x].any (fun x : Nat => P (x : Int) == ((lo + q : Nat) : Int)) = false := by simpa using h
    rw [this, Bool.or_false, if_neg h]
    by_cases c : (A.take k).any (fun x : Nat => P (x : Int) == ((lo + q : Nat) : Int)) = true
    · rw [if_pos c, if_pos c, if_pos (List.findIdx_lt_length.2 (by obtain ⟨y, hy, e2⟩ := List.any_eq_true.1 c; exact ⟨y, hy, e2⟩))]
    · rw [if_neg c, if_neg c]
theorem numK_hit {P : Int → Int} {A : List Nat} {lo D i x q : Nat} (hinj : ∀ i j x y : Nat, A[i]? = some x → A[j]? = some y → P x = P y → i = j) (hx : A[i]? = some x) (h : P (x : Int) = ((lo + q : Nat) : Int)) : ∀ k, i < k → k ≤ A.length → numK P A lo D k q = D + i := by
  intro k hk hl
  induction k with
  | zero => omega
  | succ k ih =>
    obtain ⟨y, hy⟩ : ∃ y, A[k]? = some y := ⟨A[k], List.getElem?_eq_getElem (by omega)⟩
    rw [numK_step lo D hinj hy q]
    rcases Nat.eq_or_lt_of_le (Nat.le_of_lt_succ hk) with e | e
    · subst e
      rw [hx] at hy
      obtain rfl := Option.some.inj hy
      rw [if_pos h]
    · rw [if_neg (fun c => by have := hinj i k x y hx hy (h.trans c.symm); omega)]
      exact ih e (by omega)
theorem numK_miss {P : Int → Int} {A : List Nat} {lo D q : Nat} (h : ∀ x ∈ A, P (x : Int) ≠ ((lo + q : Nat) : Int)) (k : Nat) : numK P A lo D k q = q := by
  unfold numK
  rw [if_neg]
  intro c
  obtain ⟨y, hy, e2⟩ := List.any_eq_true.1 c
  exact h y (List.mem_of_mem_take hy) (by simpa using e2)
def layE (f : Nat → Nat) (lo hi : Nat) (B : EdN) : EdN := (B.filter fun e => decide (e.2 < hi)).map fun e => (f (e.1 - lo), f (e.2 - lo))
theorem layE_take {f : Nat → Nat} {lo hi : Nat} {B : EdN} {j : Nat} {e : Nat × Nat} (h : B[j]? = some e) : layE f lo hi (B.take (j + 1)) = layE f lo hi (B.take j) ++ if e.2 < hi then [(f (e.1 - lo), f (e.2 - lo))] else [] := by
  unfold layE
  rw [List.take_add_one, h, List.filter_append, List.map_append]
  congr 1
  by_cases c : e.2 < hi
  · simp [c]
  · simp [c]
theorem layE_len (f : Nat → Nat) (lo hi : Nat) (B : EdN) (j : Nat) : (layE f lo hi (B.take j)).length ≤ j := by
  unfold layE
  rw [List.length_map]
  refine Nat.le_trans (List.length_filter_le _ _) ?_
  rw [List.length_take]; omega
theorem walk_map {f : Nat → Nat} {L : EdN} {S : Nat → Prop} (hS : ∀ e ∈ L, S e.1 ∧ S e.2) (hf : ∀ a b, S a → S b → f a = f b → a = b) {u v : Nat} : Walk (EdR (L.map fun e => (f e.1, f e.2))) u v ↔ ∃ a b, S a ∧ S b ∧ f a = u ∧ f b = v ∧ Walk (EdR L) a b := by
  constructor
  · intro h
    have edge : ∀ {u v : Nat}, EdR (L.map fun e => (f e.1, f e.2)) u v → ∃ a b, S a ∧ S b ∧ f a = u ∧ f b = v ∧ EdR L a b := fun {u v} he => by
      obtain ⟨e, hm, e2⟩ := List.mem_map.1 he
      injection e2 with e3 e4
      exact ⟨e.1, e.2, (hS e hm).1, (hS e hm).2, e3, e4, hm⟩
    induction h with
    | one he =>
      obtain ⟨a, b, h1, h2, h3, h4, h5⟩ := edge he
      exact ⟨a, b, h1, h2, h3, h4, .one h5⟩
    | more he _ ih =>
      obtain ⟨a, b, h1, h2, h3, h4, h5⟩ := edge he
      obtain ⟨c, d, g1, g2, g3, g4, g5⟩ := ih
      have := hf b c h2 g1 (h4.trans g3.symm)
      subst this
      exact ⟨a, d, h1, g2, h3, g4, .more h5 g5⟩
  · rintro ⟨a, b, h1, h2, rfl, rfl, h⟩
    clear h1 h2
    induction h with
    | one he => exact .one (List.mem_map.2 ⟨_, he, rfl⟩)
    | more he _ ih => exact .more (List.mem_map.2 ⟨_, he, rfl⟩) ih
end Go.Proofs.YtfpepoebammeoaaGreat
set_option linter.unusedVariables false
namespace Go.Proofs.YtfpepoebammeoaaGreat

def StrS (P : Int → Int) (A : List Nat) (lo hi : Nat) : Prop := lo ≤ hi ∧ hi ≤ 200000 ∧ (hi = 0 → lo = 0) ∧ ∀ x ∈ A, 0 ≤ P (x : Int) → (lo : Int) ≤ P (x : Int) ∧ P (x : Int) < (hi : Int)
theorem str_skip {P : Int → Int} {A : List Nat} {lo hi x : Nat} (h : StrS P A lo hi) (hx : P (x : Int) < 0) : StrS P (A ++ [x]) lo hi := ⟨h.1, h.2.1, h.2.2.1, fun y hy h0 => by
  rcases List.mem_append.1 hy with c | c
  · exact h.2.2.2 y c h0
  · have := List.mem_singleton.1 c
    subst this
    omega⟩
theorem str_take {P : Int → Int} {A : List Nat} {lo hi lo' hi' x q : Nat} (h : StrS P A lo hi) (hx : P (x : Int) = (q : Int)) (hq : q < 200000) (h1 : lo' ≤ q) (h2 : q < hi') (h3 : hi = 0 ∨ lo' ≤ lo) (h4 : hi ≤ hi') (h5 : hi' ≤ 200000) : StrS P (A ++ [x]) lo' hi' := ⟨by omega, h5, by omega, fun y hy h0 => by
  rcases List.mem_append.1 hy with c | c
  · have := h.2.2.2 y c h0
    omega
  · have := List.mem_singleton.1 c
    subst this
    omega⟩
def rkB (P : Int → Int) (A : List Nat) (lo D v : Nat) : Nat := if v < D then lo + v else (P ((A.getD (v - D) 0 : Nat) : Int)).toNat
section
variable {n : Int} {es : EdN} {T : List Nat} {pl : Nat → Nat} {W : EdN} {A : List Nat} {lo hi : Nat} {l : List Int}
theorem num_rk (hA : AskS n (plI T pl) l A) (q : Nat) (hq : lo + q < hi) : numK (plI T pl) A lo (hi - lo) A.length q < hi - lo + A.length ∧ rkB (plI T pl) A lo (hi - lo) (numK (plI T pl) A lo (hi - lo) A.length q) = lo + q ∧ ∀ i x : Nat, A[i]? = some x → (numK (plI T pl) A lo (hi - lo) A.length q = hi - lo + i ↔ plI T pl (x : Int) = ((lo + q : Nat) : Int)) := by
  by_cases h : ∃ i x : Nat, A[i]? = some x ∧ plI T pl (x : Int) = ((lo + q : Nat) : Int)
  · obtain ⟨i, x, hx, hp⟩ := h
    have hi' := (List.getElem?_eq_some_iff.1 hx).1
    rw [numK_hit hA.inj hx hp A.length hi' (Nat.le_refl _)]
    refine ⟨by omega, ?_, fun j y hy => ?_⟩
    · unfold rkB
      rw [if_neg (by omega), show hi - lo + i - (hi - lo) = i by omega, List.getD_eq_getElem?_getD, hx]
      show (plI T pl (x : Int)).toNat = _
      rw [hp]; omega
    · constructor
      · intro e
        have : i = j := by omega
        subst this
        rw [hx] at hy
        rw [← Option.some.inj hy]; exact hp
      · intro hp2
        have := hA.inj i j x y hx hy (hp.trans hp2.symm)
        omega
  · have hn : ∀ x ∈ A, plI T pl (x : Int) ≠ ((lo + q : Nat) : Int) := fun x hx e => by
      obtain ⟨i, hi'⟩ := List.mem_iff_getElem?.1 hx
      exact h ⟨i, x, hi', e⟩
    rw [numK_miss hn]
    refine ⟨by omega, ?_, fun j y hy => ?_⟩
    · unfold rkB
      rw [if_pos (by omega)]
    · constructor
      · intro e; omega
      · intro e; exact absurd e (hn y (List.mem_of_getElem? hy))
theorem lay_board (h : OrdS n.toNat es T pl W) (hA : AskS n (plI T pl) l A) (hS : StrS (plI T pl) A lo hi) : BoardS (fun i j => AheadK (EdR es) (A.getD i 0) (A.getD j 0)) A.length (hi - lo) (rkB (plI T pl) A lo (hi - lo)) (layE (numK (plI T pl) A lo (hi - lo) A.length) lo hi (betw W lo hi)) := by
  obtain ⟨f, hf⟩ : ∃ f, f = numK (plI T pl) A lo (hi - lo) A.length := ⟨_, rfl⟩
  have hnum := fun q hq => num_rk (lo := lo) (hi := hi) hA q hq
  rw [← hf] at hnum ⊢
  obtain ⟨L, hL⟩ : ∃ L, L = (betw W lo hi).filter fun e => decide (e.2 < hi) := ⟨_, rfl⟩
  have hmem : ∀ e, e ∈ L ↔ e ∈ W ∧ lo ≤ e.1 ∧ e.2 < hi := fun e => by
    rw [hL, List.mem_filter]
    unfold betw
    rw [List.mem_filter, Bool.and_eq_true, decide_eq_true_iff, decide_eq_true_iff, decide_eq_true_iff]
    constructor
    · rintro ⟨⟨a, b, c⟩, d⟩; exact ⟨a, b, d⟩
    · rintro ⟨a, b, d⟩
      have := h.up e a
      exact ⟨⟨a, b, by omega⟩, d⟩
  have hLs : L.Pairwise lexL := by
    rw [hL]
    exact h.sorted.sublist (List.filter_sublist.trans List.filter_sublist)
  have hlay : layE f lo hi (betw W lo hi) = L.map fun e => (f (e.1 - lo), f (e.2 - lo)) := by unfold layE; rw [hL]
  rw [hlay]
  have hin : ∀ e ∈ L, lo ≤ e.1 ∧ e.1 < e.2 ∧ e.2 < hi := fun e he => by
    obtain ⟨a, b, c⟩ := (hmem e).1 he
    exact ⟨b, h.up e a, c⟩
  have hrk : ∀ e ∈ L, rkB (plI T pl) A lo (hi - lo) (f (e.1 - lo)) = e.1 ∧ rkB (plI T pl) A lo (hi - lo) (f (e.2 - lo)) = e.2 := fun e he => by
    obtain ⟨a, b, c⟩ := hin e he
    have h1 := (hnum (e.1 - lo) (by omega)).2.1
    have h2 := (hnum (e.2 - lo) (by omega)).2.1
    exact ⟨by omega, by omega⟩
  refine ⟨fun e he => ?_, fun e he => ?_, ?_, fun i j hi' hj' => ?_⟩
  · obtain ⟨e0, h0, rfl⟩ := List.mem_map.1 he
    obtain ⟨a, b, c⟩ := hin e0 h0
    exact ⟨(hnum (e0.1 - lo) (by omega)).1, (hnum (e0.2 - lo) (by omega)).1⟩
  · obtain ⟨e0, h0, rfl⟩ := List.mem_map.1 he
    obtain ⟨a, b⟩ := hrk e0 h0
    show rkB _ _ _ _ (f (e0.1 - lo)) < rkB _ _ _ _ (f (e0.2 - lo))
    rw [a, b]
    exact (hin e0 h0).2.1
  · rw [List.pairwise_map]
    refine (List.Pairwise.and_mem.1 hLs).imp fun {a b} hab => ?_
    obtain ⟨ha, hb, hab⟩ := hab
    show rkB _ _ _ _ (f (a.1 - lo)) ≤ rkB _ _ _ _ (f (b.1 - lo))
    rw [(hrk a ha).1, (hrk b hb).1]
    unfold lexL at hab
    omega
  · have hmap : (L.map fun e => (f (e.1 - lo), f (e.2 - lo))) = L.map fun e => ((fun q => f (q - lo)) e.1, (fun q => f (q - lo)) e.2) := rfl
    rw [hmap, walk_map (S := fun q => lo ≤ q ∧ q < hi) (f := fun q => f (q - lo)) (fun e he => by have := hin e he; exact ⟨⟨this.1, by omega⟩, by omega, this.2.2⟩) (fun a b ha hb e => by
      have h1 := (hnum (a - lo) (by omega)).2.1
      have h2 := (hnum (b - lo) (by omega)).2.1
      have e' : f (a - lo) = f (b - lo) := e
      rw [e', h2] at h1
      omega)]
    have hx : A[i]? = some (A.getD i 0) := by rw [List.getD_eq_getElem?_getD, List.getElem?_eq_getElem hi']; rfl
    have hy : A[j]? = some (A.getD j 0) := by rw [List.getD_eq_getElem?_getD, List.getElem?_eq_getElem hj']; rfl
    generalize A.getD i 0 = x at hx
    generalize A.getD j 0 = y at hy
    rw [h.ahead]
    constructor
    · rintro ⟨a, b, ha, hb, e1, e2, hw⟩
      have e1' := ((hnum (a - lo) (by omega)).2.2 i x hx).1 e1
      have e2' := ((hnum (b - lo) (by omega)).2.2 j y hy).1 e2
      rw [show lo + (a - lo) = a by omega] at e1'
      rw [show lo + (b - lo) = b by omega] at e2'
      have tx : x ∈ T := plI_tied (pl := pl).1 (by omega)
      have ty : y ∈ T := plI_tied (pl := pl).1 (by omega)
      rw [plI_in tx] at e1'
      rw [plI_in ty] at e2'
      refine ⟨tx, ty, ?_⟩
      rw [show pl (T.idxOf x) = a by omega, show pl (T.idxOf y) = b by omega]
      exact walk_mono (fun a b he => ((hmem _).1 he).1) hw
    · rintro ⟨tx, ty, hw⟩
      have px := plI_in (pl := pl) tx
      have py := plI_in (pl := pl) ty
      have bx := hS.2.2.2 x (List.mem_of_getElem? hx) (by omega)
      have bY := hS.2.2.2 y (List.mem_of_getElem? hy) (by omega)
      rw [px] at bx
      rw [py] at bY
      have ux : lo ≤ pl (T.idxOf x) ∧ pl (T.idxOf x) < hi := by omega
      have uy : lo ≤ pl (T.idxOf y) ∧ pl (T.idxOf y) < hi := by omega
      refine ⟨pl (T.idxOf x), pl (T.idxOf y), ux, uy, ?_, ?_, ?_⟩
      · exact ((hnum _ (by omega)).2.2 i x hx).2 (by rw [px]; omega)
      · exact ((hnum _ (by omega)).2.2 j y hy).2 (by rw [py]; omega)
      · have key : ∀ {a b : Nat}, Walk (EdR W) a b → lo ≤ a → b < hi → Walk (EdR L) a b := by
          intro a b hw
          induction hw with
          | one he => exact fun h1 h2 => .one ((hmem _).2 ⟨he, h1, h2⟩)
          | more he t ih =>
            intro h1 h2
            have u1 := h.up _ he
            have u2 := walk_up h.up t
            simp only at u1
            exact .more ((hmem _).2 ⟨he, h1, by simp only; omega⟩) (ih (by omega) h2)
        exact key hw ux.1 uy.2
end
end Go.Proofs.YtfpepoebammeoaaGreat
set_option linter.unusedVariables false
namespace Go.Proofs.YtfpepoebammeoaaGreat
open Go.ChangeShapes Go.WideShapes Go.ChangeAt Go.RowKit Go.Deep

theorem trod_arrayE {H : Type} {enc : TypeId × Value → H} {P : Program} {w : World} {base : Nat} {spare : Nat → Bool} {held : Bool} {t e : TypeId} {fuel : Nat} {c0 c1 : Value} {x : DataW H × List MemPlace} (ht : P.underlying t = some (.array 2 e)) (hce : P.cellsOf e = 1)
    (h : DataW.trod enc P w base spare held fuel t [c0, c1] = some x) :
    ∃ y0 y1 n, x = (.agg [y0.1, y1.1], y0.2 ++ y1.2) ∧ DataW.trod enc P w base spare held n e [c0] = some y0 ∧ DataW.trod enc P w base spare held n e [c1] = some y1 := by
  cases fuel with
  | zero => simp [DataW.trod] at h
  | succ n =>
    unfold DataW.trod at h
    rw [ht] at h
    have r2 : List.range 2 = [0, 1] := rfl
    simp [r2, hce] at h
    obtain ⟨_, h⟩ := h
    cases h0 : DataW.trod enc P w base spare held n e [c0] with
    | none => simp [h0] at h
    | some y0 =>
      cases h1 : DataW.trod enc P w base spare held n e [c1] with
      | none => simp [h0, h1] at h
      | some y1 =>
        simp [h0, h1] at h
        exact ⟨y0, y1, n, h.symm, h0, h1⟩

theorem wfE {n : Int} (h : (Lit.int .i64 n).wf = true) : -9223372036854775808 ≤ n ∧ n ≤ 9223372036854775807 := by
  simp only [Lit.wf, Bool.and_eq_true, decide_eq_true_eq] at h
  exact h
theorem list_ofE {α : Type} (Q : Nat → α → Prop) : ∀ n, (∀ i, i < n → ∃ x, Q i x) → ∃ l : List α, l.length = n ∧ ∀ i x, l[i]? = some x → Q i x
  | 0, _ => ⟨[], rfl, fun i x h => by simp at h⟩
  | n + 1, h => by
    obtain ⟨l, hl, hq⟩ := list_ofE Q n (fun i hi => h i (by omega))
    obtain ⟨y, hy⟩ := h n (by omega)
    refine ⟨l ++ [y], by simp [hl], fun i x hx => ?_⟩
    by_cases hi : i < n
    · rw [List.getElem?_append_left (by omega)] at hx
      exact hq i x hx
    · rw [List.getElem?_append_right (by omega)] at hx
      have hz : i - l.length = 0 := by
        have := (List.getElem?_eq_some_iff.1 hx).1
        simp at this
        omega
      obtain rfl : i = n := by omega
      rw [hz] at hx
      obtain rfl : y = x := by simpa using hx
      exact hy

set_option maxRecDepth 100000 in
theorem open_edArg {H : Type} {enc : TypeId × Value → H} {W : World} {b0 : Nat} {r : Reach} {t : TypeId} {v : Value} {d : DataW H} {p : List MemPlace}
    (ht : Tryz.prog.underlying t = some (.slice 36)) (hval : Value.okWide Tryz.prog W r b0 t v) (h : DataW.Trod enc Tryz.prog W 0 (fun _ => true) true t v d p)
    (hw : ∀ n ∈ d.weights Tryz.prog t, n ≤ reachBytes) : ∃ es : Ed, RE W v es ∧ es.length ≤ 140737488355328 := by
  have hreach : reachBytes ≤ 140737488355328 := by decide
  have hc2 : Tryz.prog.cellsOf 36 = 2 := by kernel_rfl
  have hby : 0 < Tryz.prog.bytesOf 36 := of_decide_eq_true (by kernel_rfl)
  obtain ⟨a0, len, cap, rfl⟩ := okWide_slice ht hval
  obtain ⟨fuel, hf⟩ := h
  rcases open_slice ht hf with ⟨hcs, hx⟩ | ⟨a, len', cap', m, n, D, Pl, hcs, _, hl, hm, hmm, hx, hi⟩
  · simp [Value.cells] at hcs
    obtain ⟨rfl, rfl, rfl⟩ := hcs
    exact ⟨[], .inl ⟨rfl, _, _, rfl⟩, by simp⟩
  · simp [Value.cells] at hcs
    obtain ⟨rfl, rfl, rfl⟩ := hcs
    have hd : d = .slice ((List.range len).map D) ((List.range (m - len)).map fun j => D (len + j)) := (Prod.mk.inj hx).1
    subst hd
    simp only [if_true] at hmm
    subst hmm
    rw [hc2] at hi
    have hel : ∀ i, i < len → ∃ q : Int × Int, W.cell? (a.add (i * 2)) = some (.int .i64 q.1) ∧ W.cell? ((a.add (i * 2)).add 1) = some (.int .i64 q.2) := by
      intro i hil
      obtain ⟨cs', hc, ht'⟩ := hi i (by omega)
      obtain ⟨_, _, _, _, hlen, _⟩ := DataW.trod_array Tryz.underlying36 ht'
      rw [hc2] at hlen
      obtain ⟨c0, c1, rfl⟩ : ∃ c0 c1, cs' = [c0, c1] := by
        match cs', hlen with
        | [c0, c1], _ => exact ⟨c0, c1, rfl⟩
      obtain ⟨y0, y1, n', -, h0, h1⟩ := trod_arrayE Tryz.underlying36 (by kernel_rfl) ht'
      obtain ⟨lo, e0, -, -⟩ := DataW.trod_int Tryz.underlying3 h0
      obtain ⟨hi', e1, -, -⟩ := DataW.trod_int Tryz.underlying3 h1
      obtain ⟨_, _, hat⟩ := World.cells?_some hc
      have g0 := hat 0 (by omega)
      have g1 := hat 1 (by omega)
      rw [show (a.add (i * 2)).add 0 = a.add (i * 2) by rw [Go.Deep.add_add]; rfl] at g0
      injection e0 with e0 _
      injection e1 with e1 _
      subst e0; subst e1
      exact ⟨(lo, hi'), g0, g1⟩
    obtain ⟨ps, hpl, hps⟩ := list_ofE _ len hel
    have hlen : len ≤ 140737488355328 := by
      have h1 := hw _ (by simp only [DataW.weights, ht]; exact List.mem_cons_self)
      have h2 : len ≤ ((List.range len).map D).length + ((List.range (m - len)).map fun j => D (len + j)).length := by simp
      have h3 := Nat.le_mul_of_pos_right (((List.range len).map D).length + ((List.range (m - len)).map fun j => D (len + j)).length) hby
      omega
    refine ⟨ps, ?_, by omega⟩
    by_cases e : ps = []
    · left
      subst e
      simp at hpl
      subst hpl
      exact ⟨rfl, _, _, rfl⟩
    · right
      have hpos : 0 < len := by
        rcases Nat.eq_zero_or_pos len with h | h
        · exact absurd (List.length_eq_zero_iff.1 (by omega)) e
        · exact h
      obtain ⟨b, off, spot⟩ := a
      obtain ⟨h00, _⟩ := hps 0 (ps[0]'(by omega)) (by simp)
      have hspot : spot = none := by simpa [Addr.add] using World.cell?_spot h00
      subst hspot
      have hadd : ∀ (o k : Nat), (⟨b, o, none⟩ : Addr).add k = ⟨b, o + k, none⟩ := fun o k => Addr.add_lit ..
      refine ⟨e, b, off, m, by rw [hpl], by omega, by unfold maxLen at hm ⊢; omega, ?_, fun j q hq => ?_⟩
      · rw [hadd] at h00
        exact cell_lt (o := off + 0 * 2) h00
      · obtain ⟨c0, c1⟩ := hps j q hq
        rw [hadd] at c0
        rw [hadd, hadd] at c1
        exact ⟨c0, c1⟩
end Go.Proofs.YtfpepoebammeoaaGreat
set_option linter.unusedVariables false
namespace Go.Proofs.YtfpepoebammeoaaGreat
open Go.ChangeShapes Go.WideShapes Go.ChangeAt Go.RowKit Go.Deep

set_option maxRecDepth 100000 in
theorem open_inArg {H : Type} {enc : TypeId × Value → H} {W : World} {b0 : Nat} {r : Reach} {t : TypeId} {v : Value} {d : DataW H} {p : List MemPlace}
    (ht : Tryz.prog.underlying t = some (.slice 3)) (hval : Value.okWide Tryz.prog W r b0 t v) (h : DataW.Trod enc Tryz.prog W 0 (fun _ => true) true t v d p)
    (hw : ∀ n ∈ d.weights Tryz.prog t, n ≤ reachBytes) : ∃ l : List Int, RI W v l ∧ l.length ≤ 140737488355328 ∧ ∀ x ∈ l, -9223372036854775808 ≤ x ∧ x ≤ 9223372036854775807 := by
  have hreach : reachBytes ≤ 140737488355328 := by decide
  have hc1 : Tryz.prog.cellsOf 3 = 1 := by kernel_rfl
  have hby : 0 < Tryz.prog.bytesOf 3 := of_decide_eq_true (by kernel_rfl)
  obtain ⟨a0, len, cap, rfl⟩ := okWide_slice ht hval
  obtain ⟨fuel, hf⟩ := h
  rcases open_slice ht hf with ⟨hcs, hx⟩ | ⟨a, len', cap', m, n, D, Pl, hcs, _, hl, hm, hmm, hx, hi⟩
  · simp [Value.cells] at hcs
    obtain ⟨rfl, rfl, rfl⟩ := hcs
    exact ⟨[], .inl ⟨rfl, _, _, rfl⟩, by simp, fun x h => by cases h⟩
  · simp [Value.cells] at hcs
    obtain ⟨rfl, rfl, rfl⟩ := hcs
    have hd : d = .slice ((List.range len).map D) ((List.range (m - len)).map fun j => D (len + j)) := (Prod.mk.inj hx).1
    subst hd
    simp only [if_true] at hmm
    subst hmm
    rw [hc1] at hi
    have hel : ∀ i, i < len → ∃ q : Int, W.cell? (a.add (i * 1)) = some (.int .i64 q) ∧ (-9223372036854775808 ≤ q ∧ q ≤ 9223372036854775807) := by
      intro i hil
      obtain ⟨cs', hc, ht'⟩ := hi i (by omega)
      obtain ⟨lo, e0, -, hwf⟩ := DataW.trod_int Tryz.underlying3 ht'
      subst e0
      obtain ⟨_, _, hat⟩ := World.cells?_some hc
      have g0 := hat 0 (by omega)
      rw [show (a.add (i * 1)).add 0 = a.add (i * 1) by rw [Go.Deep.add_add]; rfl] at g0
      exact ⟨lo, g0, wfE hwf⟩
    obtain ⟨ps, hpl, hps⟩ := list_ofE _ len hel
    have hlen : len ≤ 140737488355328 := by
      have h1 := hw _ (by simp only [DataW.weights, ht]; exact List.mem_cons_self)
      have h2 : len ≤ ((List.range len).map D).length + ((List.range (m - len)).map fun j => D (len + j)).length := by simp
      have h3 := Nat.le_mul_of_pos_right (((List.range len).map D).length + ((List.range (m - len)).map fun j => D (len + j)).length) hby
      omega
    refine ⟨ps, ?_, by omega, fun x hx => ?_⟩
    · by_cases e : ps = []
      · left
        subst e
        simp at hpl
        subst hpl
        exact ⟨rfl, _, _, rfl⟩
      · right
        have hpos : 0 < len := by
          rcases Nat.eq_zero_or_pos len with h | h
          · exact absurd (List.length_eq_zero_iff.1 (by omega)) e
          · exact h
        obtain ⟨b, off, spot⟩ := a
        obtain ⟨h00, _⟩ := hps 0 (ps[0]'(by omega)) (by simp)
        have hspot : spot = none := by simpa [Addr.add] using World.cell?_spot h00
        subst hspot
        have hadd : ∀ (o k : Nat), (⟨b, o, none⟩ : Addr).add k = ⟨b, o + k, none⟩ := fun o k => Addr.add_lit ..
        refine ⟨e, b, off, m, by rw [hpl], by omega, by unfold maxLen at hm ⊢; omega, ?_, fun j q hq => ?_⟩
        · rw [hadd] at h00
          exact cell_lt (o := off + 0 * 1) h00
        · obtain ⟨c0, _⟩ := hps j q hq
          rw [hadd, Nat.mul_one] at c0
          exact c0
    · obtain ⟨j, hj⟩ := List.getElem?_of_mem hx
      exact (hps j x hj).2
end Go.Proofs.YtfpepoebammeoaaGreat
