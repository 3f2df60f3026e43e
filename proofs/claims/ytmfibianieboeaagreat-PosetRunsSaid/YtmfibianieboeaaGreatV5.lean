/- Edges in memory: slices of pairs that are read; which of them name things. No function of the program is named here. An argument that is a slice of pairs of numbers, opened. -/
import Derived.Deep.Slices
import Derived.Deep.Fields
import Derived.Test.YtmfibianieboeaaGreatV4
set_option linter.unusedVariables false
namespace Go.Proofs.YtmfibianieboeaaGreat
open Go.ChangeShapes Go.WideShapes Go.ChangeAt Go.RowKit

abbrev Ed := List (Int × Int)
def RE (w : World) (v : Value) (es : Ed) : Prop :=
  (es = [] ∧ ∃ a c, v = .slice a 0 c) ∨ (es ≠ [] ∧ ∃ b o c, v = .slice (some ⟨b, o, none⟩) es.length c ∧ es.length ≤ c ∧ c ≤ maxLen ∧ b < w.heap.size ∧ ∀ (j : Nat) e, es[j]? = some e → w.cell? ⟨b, o + j * 2, none⟩ = some (.int .i64 e.1) ∧ w.cell? ⟨b, o + j * 2 + 1, none⟩ = some (.int .i64 e.2))
theorem RE.below {w w' : World} {v : Value} {es : Ed} (h : RE w v es) (hb : Below w.heap.size w w') : RE w' v es := by
  rcases h with h | ⟨hn, b, o, c, h1, h2, h3, h4, h5⟩
  · exact .inl h
  · exact .inr ⟨hn, b, o, c, h1, h2, h3, Nat.lt_of_lt_of_le h4 hb.size, fun j e he => ⟨(hb.cell (p := ⟨b, o + j * 2, none⟩) h4).trans (h5 j e he).1, (hb.cell (p := ⟨b, o + j * 2 + 1, none⟩) h4).trans (h5 j e he).2⟩⟩
theorem RE.form {w : World} {v : Value} {es : Ed} (h : RE w v es) : ∃ a c, v = .slice a es.length c := by
  rcases h with ⟨rfl, a, c, rfl⟩ | ⟨hn, b, o, c, rfl, _⟩
  · exact ⟨_, _, rfl⟩
  · exact ⟨_, _, rfl⟩
theorem RE.at {w : World} {a : Option Addr} {n c : Nat} {es : Ed} (h : RE w (.slice a n c) es) {j : Nat} {e : Int × Int} (he : es[j]? = some e) : ∃ b o, a = some ⟨b, o, none⟩ ∧ b < w.heap.size ∧ n ≤ c ∧ c ≤ maxLen ∧ w.cell? ⟨b, o + j * 2, none⟩ = some (.int .i64 e.1) ∧ w.cell? ⟨b, o + j * 2 + 1, none⟩ = some (.int .i64 e.2) := by
  rcases h with ⟨rfl, a', c', e'⟩ | ⟨hn, b, o, c', e', hc, hm, hl, hx⟩
  · simp at he
  · simp only [Value.slice.injEq] at e'
    obtain ⟨rfl, rfl, rfl⟩ := e'
    exact ⟨b, o, rfl, hl, hc, hm, hx j e he⟩
def evs (es : Ed) : List Value := es.flatMap fun e => [.int .i64 e.1, .int .i64 e.2]
theorem evs_snoc (es : Ed) (e : Int × Int) : evs (es ++ [e]) = evs es ++ [.int .i64 e.1, .int .i64 e.2] := by simp [evs]
theorem evs_len (es : Ed) : (evs es).length = es.length * 2 := by
  induction es with
  | nil => rfl
  | cons e es ih =>
    have : evs (e :: es) = [.int .i64 e.1, .int .i64 e.2] ++ evs es := by simp [evs]
    rw [this, List.length_append, ih, List.length_cons]
    simp; omega
theorem evs_at : ∀ {es : Ed} {j : Nat} {e : Int × Int}, es[j]? = some e → (evs es)[j * 2]? = some (.int .i64 e.1) ∧ (evs es)[j * 2 + 1]? = some (.int .i64 e.2)
  | e0 :: es, 0, e, h => by
    simp at h; subst h
    simp [evs]
  | e0 :: es, j + 1, e, h => by
    rw [List.getElem?_cons_succ] at h
    obtain ⟨h1, h2⟩ := evs_at h
    have : evs (e0 :: es) = [.int .i64 e0.1, .int .i64 e0.2] ++ evs es := by simp [evs]
    rw [this]
    constructor
    · rw [List.getElem?_append_right (by simp; omega)]
      rw [show (j + 1) * 2 - ([Value.int .i64 e0.1, Value.int .i64 e0.2] : List Value).length = j * 2 by simp; omega]
      exact h1
    · rw [List.getElem?_append_right (by simp; omega)]
      rw [show (j + 1) * 2 + 1 - ([Value.int .i64 e0.1, Value.int .i64 e0.2] : List Value).length = j * 2 + 1 by simp; omega]
      exact h2
theorem RE.ofRow {B : Nat} {w : World} {v : Value} {es : Ed} (h : Row 2 B w v es.length (evs es)) : RE w v es := by
  rcases Nat.eq_zero_or_pos es.length with h0 | hp
  · obtain ⟨a, c, rfl⟩ := h.form
    rw [h0]
    exact .inl ⟨List.length_eq_zero_iff.1 h0, _, _, rfl⟩
  · obtain ⟨b, cap, rfl, h2, h3, h4, h5, h6, h7⟩ := h.pos hp
    exact .inr ⟨fun e => by rw [e] at hp; simp at hp, b, 0, cap, rfl, h4, h5, h3, fun j e he => by
      rw [Nat.zero_add]
      exact ⟨h7 _ _ (evs_at he).1, h7 _ _ (evs_at he).2⟩⟩
theorem evs_set {es : Ed} {j : Nat} {e e' : Int × Int} (h : es[j]? = some e) : ((evs es).set (j * 2) (.int .i64 e'.1)).set (j * 2 + 1) (.int .i64 e'.2) = evs (es.set j e') := by
  induction es generalizing j with
  | nil => simp at h
  | cons e0 es ih =>
    have hc : ∀ e1 es1, evs (e1 :: es1) = .int .i64 e1.1 :: .int .i64 e1.2 :: evs es1 := fun e1 es1 => by simp [evs]
    cases j with
    | zero => simp [hc]
    | succ j =>
      rw [List.getElem?_cons_succ] at h
      rw [hc, List.set_cons_succ, hc, ← ih h, show (j + 1) * 2 = (j * 2 + 1) + 1 by omega]
      simp [List.set_cons_succ]

def rightP (n : Int) (e : Int × Int) : Bool := decide (0 ≤ min e.1 e.2) && decide (max e.1 e.2 < n)
def amongL (n : Int) (es : Ed) : Ed := es.filter (rightP n)
def toN (es : Ed) : List (Nat × Nat) := es.map fun e => (e.1.toNat, e.2.toNat)
def toI (es : List (Nat × Nat)) : Ed := es.map fun e => ((e.1 : Int), (e.2 : Int))
theorem rightP_iff {n : Int} {e : Int × Int} : rightP n e = true ↔ 0 ≤ e.1 ∧ 0 ≤ e.2 ∧ e.1 < n ∧ e.2 < n := by
  simp only [rightP, Bool.and_eq_true, decide_eq_true_eq]
  omega
theorem amongL_take {n : Int} {es : Ed} {j : Nat} {e : Int × Int} (h : es[j]? = some e) : amongL n (es.take (j + 1)) = amongL n (es.take j) ++ if rightP n e then [e] else [] := by
  unfold amongL
  rw [List.take_add_one, h, List.filter_append]
  cases hp : rightP n e <;> simp [hp]
theorem toI_toN {n : Int} {es : Ed} : toI (toN (amongL n es)) = amongL n es := by
  unfold toI toN amongL
  rw [List.map_map]
  refine (List.map_congr_left (g := id) fun e he => ?_).trans (List.map_id _)
  obtain ⟨h1, h2, _⟩ := rightP_iff.1 (List.mem_filter.1 he).2
  simp only [Function.comp_apply, id]
  ext <;> simp <;> omega
theorem toN_lt {n : Nat} {es : Ed} : ∀ e ∈ toN (amongL (n : Int) es), e.1 < n ∧ e.2 < n := by
  intro e he
  obtain ⟨e0, h0, rfl⟩ := List.mem_map.1 he
  obtain ⟨h1, h2, h3, h4⟩ := rightP_iff.1 (List.mem_filter.1 h0).2
  simp only
  omega
end Go.Proofs.YtmfibianieboeaaGreat
set_option linter.unusedVariables false
namespace Go.Proofs.YtmfibianieboeaaGreat
open Go.ChangeShapes Go.WideShapes Go.ChangeAt Go.RowKit Go.Deep

theorem mem_weightsAllE {H : Type} {P : Program} {e : TypeId} {d : DataW H} {n : Nat} (hn : n ∈ d.weights P e) : ∀ {l : List (DataW H)}, d ∈ l → n ∈ DataW.weightsAll P e l
  | x :: r, h => by
    simp only [DataW.weightsAll, List.mem_append]
    cases List.mem_cons.1 h with
    | inl h => subst h; exact .inl hn
    | inr h => exact .inr (mem_weightsAllE hn h)

theorem trod_arrayE {H : Type} {enc : TypeId × Value → H} {P : Program} {w : World} {base : Nat} {spare : Nat → Bool} {held : Bool} {t e : TypeId} {fuel : Nat} {c0 c1 : Value} {x : DataW H × List MemPlace} (ht : P.underlying t = some (.array 2 e)) (hce : P.cellsOf e = 1)
    (h : DataW.trod enc P w base spare held fuel t [c0, c1] = some x) :
    ∃ y0 y1 n, x = (.agg [y0.1, y1.1], y0.2 ++ y1.2) ∧ DataW.trod enc P w base spare held n e [c0] = some y0 ∧ DataW.trod enc P w base spare held n e [c1] = some y1 := by
  cases fuel with
  | zero => simp [DataW.trod] at h
  | succ n =>
    unfold DataW.trod at h
    rw [ht] at h
    have r2 : List.range 2 = [0, 1] := rfl
    simp [r2, hce] at h
    obtain ⟨_, h⟩ := h
    cases h0 : DataW.trod enc P w base spare held n e [c0] with
    | none => simp [h0] at h
    | some y0 =>
      cases h1 : DataW.trod enc P w base spare held n e [c1] with
      | none => simp [h0, h1] at h
      | some y1 =>
        simp [h0, h1] at h
        exact ⟨y0, y1, n, h.symm, h0, h1⟩

theorem wfE {n : Int} (h : (Lit.int .i64 n).wf = true) : -9223372036854775808 ≤ n ∧ n ≤ 9223372036854775807 := by
  simp only [Lit.wf, Bool.and_eq_true, decide_eq_true_eq] at h
  exact h
theorem list_ofE {α : Type} (Q : Nat → α → Prop) : ∀ n, (∀ i, i < n → ∃ x, Q i x) → ∃ l : List α, l.length = n ∧ ∀ i x, l[i]? = some x → Q i x
  | 0, _ => ⟨[], rfl, fun i x h => by simp at h⟩
  | n + 1, h => by
    obtain ⟨l, hl, hq⟩ := list_ofE Q n (fun i hi => h i (by omega))
    obtain ⟨y, hy⟩ := h n (by omega)
    refine ⟨l ++ [y], by simp [hl], fun i x hx => ?_⟩
    by_cases hi : i < n
    · rw [List.getElem?_append_left (by omega)] at hx
      exact hq i x hx
    · rw [List.getElem?_append_right (by omega)] at hx
      have hz : i - l.length = 0 := by
        have := (List.getElem?_eq_some_iff.1 hx).1
        simp at this
        omega
      obtain rfl : i = n := by omega
      rw [hz] at hx
      obtain rfl : y = x := by simpa using hx
      exact hy

set_option maxRecDepth 100000 in
theorem open_edArg {H : Type} {enc : TypeId × Value → H} {W : World} {b0 : Nat} {r : Reach} {t : TypeId} {v : Value} {d : DataW H} {p : List MemPlace}
    (ht : Tryz.prog.underlying t = some (.slice 36)) (hval : Value.okWide Tryz.prog W r b0 t v) (h : DataW.Trod enc Tryz.prog W 0 (fun _ => true) true t v d p)
    (hw : ∀ n ∈ d.weights Tryz.prog t, n ≤ reachBytes) : ∃ es : Ed, RE W v es ∧ es.length ≤ 140737488355328 := by
  have hreach : reachBytes ≤ 140737488355328 := by decide
  have hc2 : Tryz.prog.cellsOf 36 = 2 := by kernel_rfl
  have hby : 0 < Tryz.prog.bytesOf 36 := of_decide_eq_true (by kernel_rfl)
  obtain ⟨a0, len, cap, rfl⟩ := okWide_slice ht hval
  obtain ⟨fuel, hf⟩ := h
  rcases open_slice ht hf with ⟨hcs, hx⟩ | ⟨a, len', cap', m, n, D, Pl, hcs, _, hl, hm, hmm, hx, hi⟩
  · simp [Value.cells] at hcs
    obtain ⟨rfl, rfl, rfl⟩ := hcs
    exact ⟨[], .inl ⟨rfl, _, _, rfl⟩, by simp⟩
  · simp [Value.cells] at hcs
    obtain ⟨rfl, rfl, rfl⟩ := hcs
    have hd : d = .slice ((List.range len).map D) ((List.range (m - len)).map fun j => D (len + j)) := (Prod.mk.inj hx).1
    subst hd
    simp only [if_true] at hmm
    subst hmm
    rw [hc2] at hi
    have hel : ∀ i, i < len → ∃ q : Int × Int, W.cell? (a.add (i * 2)) = some (.int .i64 q.1) ∧ W.cell? ((a.add (i * 2)).add 1) = some (.int .i64 q.2) := by
      intro i hil
      obtain ⟨cs', hc, ht'⟩ := hi i (by omega)
      obtain ⟨_, _, _, _, hlen, _⟩ := DataW.trod_array Tryz.underlying36 ht'
      rw [hc2] at hlen
      obtain ⟨c0, c1, rfl⟩ : ∃ c0 c1, cs' = [c0, c1] := by
        match cs', hlen with
        | [c0, c1], _ => exact ⟨c0, c1, rfl⟩
      obtain ⟨y0, y1, n', -, h0, h1⟩ := trod_arrayE Tryz.underlying36 (by kernel_rfl) ht'
      obtain ⟨lo, e0, -, -⟩ := DataW.trod_int Tryz.underlying3 h0
      obtain ⟨hi', e1, -, -⟩ := DataW.trod_int Tryz.underlying3 h1
      obtain ⟨_, _, hat⟩ := World.cells?_some hc
      have g0 := hat 0 (by omega)
      have g1 := hat 1 (by omega)
      rw [show (a.add (i * 2)).add 0 = a.add (i * 2) by rw [Go.Deep.add_add]; rfl] at g0
      injection e0 with e0 _
      injection e1 with e1 _
      subst e0; subst e1
      exact ⟨(lo, hi'), g0, g1⟩
    obtain ⟨ps, hpl, hps⟩ := list_ofE _ len hel
    have hlen : len ≤ 140737488355328 := by
      have h1 := hw _ (by simp only [DataW.weights, ht]; exact List.mem_cons_self)
      have h2 : len ≤ ((List.range len).map D).length + ((List.range (m - len)).map fun j => D (len + j)).length := by simp
      have h3 := Nat.le_mul_of_pos_right (((List.range len).map D).length + ((List.range (m - len)).map fun j => D (len + j)).length) hby
      omega
    refine ⟨ps, ?_, by omega⟩
    by_cases e : ps = []
    · left
      subst e
      simp at hpl
      subst hpl
      exact ⟨rfl, _, _, rfl⟩
    · right
      have hpos : 0 < len := by
        rcases Nat.eq_zero_or_pos len with h | h
        · exact absurd (List.length_eq_zero_iff.1 (by omega)) e
        · exact h
      obtain ⟨b, off, spot⟩ := a
      obtain ⟨h00, _⟩ := hps 0 (ps[0]'(by omega)) (by simp)
      have hspot : spot = none := by simpa [Addr.add] using World.cell?_spot h00
      subst hspot
      have hadd : ∀ (o k : Nat), (⟨b, o, none⟩ : Addr).add k = ⟨b, o + k, none⟩ := fun o k => Addr.add_lit ..
      refine ⟨e, b, off, m, by rw [hpl], by omega, by unfold maxLen at hm ⊢; omega, ?_, fun j q hq => ?_⟩
      · rw [hadd] at h00
        exact cell_lt (o := off + 0 * 2) h00
      · obtain ⟨c0, c1⟩ := hps j q hq
        rw [hadd] at c0
        rw [hadd, hadd] at c1
        exact ⟨c0, c1⟩
end Go.Proofs.YtmfibianieboeaaGreat
