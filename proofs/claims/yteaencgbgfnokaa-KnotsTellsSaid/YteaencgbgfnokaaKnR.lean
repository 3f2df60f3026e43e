/- Edges in memory: slices of pairs that are read; which of them name things. No function of the program is named here. -/
import Derived.Test.YteaencgbgfnokaaKnB
set_option linter.unusedVariables false
namespace Go.Proofs.Yteaencgbgfnokaa
open Go.ChangeShapes Go.WideShapes Go.ChangeAt Go.RowKit

abbrev Ed := List (Int × Int)
/-- The slice v reads as the edges es. -/
def RE (w : World) (v : Value) (es : Ed) : Prop :=
  (es = [] ∧ ∃ a c, v = .slice a 0 c) ∨ (es ≠ [] ∧ ∃ b o c, v = .slice (some ⟨b, o, none⟩) es.length c ∧ es.length ≤ c ∧ c ≤ maxLen ∧ b < w.heap.size ∧ ∀ (j : Nat) e, es[j]? = some e → w.cell? ⟨b, o + j * 2, none⟩ = some (.int .i64 e.1) ∧ w.cell? ⟨b, o + j * 2 + 1, none⟩ = some (.int .i64 e.2))
theorem RE.below {w w' : World} {v : Value} {es : Ed} (h : RE w v es) (hb : Below w.heap.size w w') : RE w' v es := by
  rcases h with h | ⟨hn, b, o, c, h1, h2, h3, h4, h5⟩
  · exact .inl h
  · exact .inr ⟨hn, b, o, c, h1, h2, h3, Nat.lt_of_lt_of_le h4 hb.size, fun j e he => ⟨(hb.cell (p := ⟨b, o + j * 2, none⟩) h4).trans (h5 j e he).1, (hb.cell (p := ⟨b, o + j * 2 + 1, none⟩) h4).trans (h5 j e he).2⟩⟩
theorem RE.form {w : World} {v : Value} {es : Ed} (h : RE w v es) : ∃ a c, v = .slice a es.length c := by
  rcases h with ⟨rfl, a, c, rfl⟩ | ⟨hn, b, o, c, rfl, _⟩
  · exact ⟨_, _, rfl⟩
  · exact ⟨_, _, rfl⟩
theorem RE.at {w : World} {a : Option Addr} {n c : Nat} {es : Ed} (h : RE w (.slice a n c) es) {j : Nat} {e : Int × Int} (he : es[j]? = some e) : ∃ b o, a = some ⟨b, o, none⟩ ∧ b < w.heap.size ∧ n ≤ c ∧ c ≤ maxLen ∧ w.cell? ⟨b, o + j * 2, none⟩ = some (.int .i64 e.1) ∧ w.cell? ⟨b, o + j * 2 + 1, none⟩ = some (.int .i64 e.2) := by
  rcases h with ⟨rfl, a', c', e'⟩ | ⟨hn, b, o, c', e', hc, hm, hl, hx⟩
  · simp at he
  · simp only [Value.slice.injEq] at e'
    obtain ⟨rfl, rfl, rfl⟩ := e'
    exact ⟨b, o, rfl, hl, hc, hm, hx j e he⟩
/-- The cells of edges. -/
def evs (es : Ed) : List Value := es.flatMap fun e => [.int .i64 e.1, .int .i64 e.2]
theorem evs_snoc (es : Ed) (e : Int × Int) : evs (es ++ [e]) = evs es ++ [.int .i64 e.1, .int .i64 e.2] := by simp [evs]
theorem evs_len (es : Ed) : (evs es).length = es.length * 2 := by
  induction es with
  | nil => rfl
  | cons e es ih =>
    have : evs (e :: es) = [.int .i64 e.1, .int .i64 e.2] ++ evs es := by simp [evs]
    rw [this, List.length_append, ih, List.length_cons]
    simp; omega
theorem evs_at : ∀ {es : Ed} {j : Nat} {e : Int × Int}, es[j]? = some e → (evs es)[j * 2]? = some (.int .i64 e.1) ∧ (evs es)[j * 2 + 1]? = some (.int .i64 e.2)
  | e0 :: es, 0, e, h => by
    simp at h; subst h
    simp [evs]
  | e0 :: es, j + 1, e, h => by
    rw [List.getElem?_cons_succ] at h
    obtain ⟨h1, h2⟩ := evs_at h
    have : evs (e0 :: es) = [.int .i64 e0.1, .int .i64 e0.2] ++ evs es := by simp [evs]
    rw [this]
    constructor
    · rw [List.getElem?_append_right (by simp; omega)]
      rw [show (j + 1) * 2 - ([Value.int .i64 e0.1, Value.int .i64 e0.2] : List Value).length = j * 2 by simp; omega]
      exact h1
    · rw [List.getElem?_append_right (by simp; omega)]
      rw [show (j + 1) * 2 + 1 - ([Value.int .i64 e0.1, Value.int .i64 e0.2] : List Value).length = j * 2 + 1 by simp; omega]
      exact h2
theorem RE.ofRow {B : Nat} {w : World} {v : Value} {es : Ed} (h : Row 2 B w v es.length (evs es)) : RE w v es := by
  rcases Nat.eq_zero_or_pos es.length with h0 | hp
  · obtain ⟨a, c, rfl⟩ := h.form
    rw [h0]
    exact .inl ⟨List.length_eq_zero_iff.1 h0, _, _, rfl⟩
  · obtain ⟨b, cap, rfl, h2, h3, h4, h5, h6, h7⟩ := h.pos hp
    exact .inr ⟨fun e => by rw [e] at hp; simp at hp, b, 0, cap, rfl, h4, h5, h3, fun j e he => by
      rw [Nat.zero_add]
      exact ⟨h7 _ _ (evs_at he).1, h7 _ _ (evs_at he).2⟩⟩
theorem evs_set {es : Ed} {j : Nat} {e e' : Int × Int} (h : es[j]? = some e) : ((evs es).set (j * 2) (.int .i64 e'.1)).set (j * 2 + 1) (.int .i64 e'.2) = evs (es.set j e') := by
  induction es generalizing j with
  | nil => simp at h
  | cons e0 es ih =>
    have hc : ∀ e1 es1, evs (e1 :: es1) = .int .i64 e1.1 :: .int .i64 e1.2 :: evs es1 := fun e1 es1 => by simp [evs]
    cases j with
    | zero => simp [hc]
    | succ j =>
      rw [List.getElem?_cons_succ] at h
      rw [hc, List.set_cons_succ, hc, ← ih h, show (j + 1) * 2 = (j * 2 + 1) + 1 by omega]
      simp [List.set_cons_succ]

/-- Does an edge name things? -/
def rightP (n : Int) (e : Int × Int) : Bool := decide (0 ≤ min e.1 e.2) && decide (max e.1 e.2 < n)
def amongL (n : Int) (es : Ed) : Ed := es.filter (rightP n)
def toN (es : Ed) : List (Nat × Nat) := es.map fun e => (e.1.toNat, e.2.toNat)
def toI (es : List (Nat × Nat)) : Ed := es.map fun e => ((e.1 : Int), (e.2 : Int))
theorem rightP_iff {n : Int} {e : Int × Int} : rightP n e = true ↔ 0 ≤ e.1 ∧ 0 ≤ e.2 ∧ e.1 < n ∧ e.2 < n := by
  simp only [rightP, Bool.and_eq_true, decide_eq_true_eq]
  omega
theorem amongL_take {n : Int} {es : Ed} {j : Nat} {e : Int × Int} (h : es[j]? = some e) : amongL n (es.take (j + 1)) = amongL n (es.take j) ++ if rightP n e then [e] else [] := by
  unfold amongL
  rw [List.take_add_one, h, List.filter_append]
  cases hp : rightP n e <;> simp [hp]
theorem toI_toN {n : Int} {es : Ed} : toI (toN (amongL n es)) = amongL n es := by
  unfold toI toN amongL
  rw [List.map_map]
  refine (List.map_congr_left (g := id) fun e he => ?_).trans (List.map_id _)
  obtain ⟨h1, h2, _⟩ := rightP_iff.1 (List.mem_filter.1 he).2
  simp only [Function.comp_apply, id]
  ext <;> simp <;> omega
theorem toN_lt {n : Nat} {es : Ed} : ∀ e ∈ toN (amongL (n : Int) es), e.1 < n ∧ e.2 < n := by
  intro e he
  obtain ⟨e0, h0, rfl⟩ := List.mem_map.1 he
  obtain ⟨h1, h2, h3, h4⟩ := rightP_iff.1 (List.mem_filter.1 h0).2
  simp only
  omega
end Go.Proofs.Yteaencgbgfnokaa
