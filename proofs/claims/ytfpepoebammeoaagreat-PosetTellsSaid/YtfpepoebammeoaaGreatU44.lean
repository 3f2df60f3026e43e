/- Sides (mathematics): the heads as9 they are met, and what is told by them. The document's told (mathematics): the least that is free, again and again, is the board's line. The document's told: the things that are asked for. -/
import Derived.Test.YtfpepoebammeoaaGreatU43
import Derived.Test.YtfpepoebammeoaaGreatU5
set_option linter.unusedVariables false
set_option linter.unusedSimpArgs false
namespace Go.Proofs.YtfpepoebammeoaaGreat

def hdL (r : Nat → Nat) (D : Nat) : Nat → List Int
  | 0 => []
  | i + 1 => if ((r (D + i) : Nat) : Int) ∈ hdL r D i then hdL r D i else hdL r D i ++ [((r (D + i) : Nat) : Int)]
theorem hdL_in {r : Nat → Nat} {D i : Nat} (h : ((r (D + i) : Nat) : Int) ∈ hdL r D i) : hdL r D (i + 1) = hdL r D i := if_pos h
theorem hdL_out {r : Nat → Nat} {D i : Nat} (h : ((r (D + i) : Nat) : Int) ∉ hdL r D i) : hdL r D (i + 1) = hdL r D i ++ [((r (D + i) : Nat) : Int)] := if_neg h
theorem hdL_mem {r : Nat → Nat} {D : Nat} : ∀ {i : Nat} {x : Int}, x ∈ hdL r D i ↔ ∃ k, k < i ∧ x = ((r (D + k) : Nat) : Int)
  | 0, x => by simp [hdL]
  | i + 1, x => by
    have ih := @hdL_mem r D i
    by_cases h : ((r (D + i) : Nat) : Int) ∈ hdL r D i
    · rw [hdL_in h, ih]
      constructor
      · rintro ⟨k, hk, e⟩; exact ⟨k, by omega, e⟩
      · rintro ⟨k, hk, e⟩
        by_cases hki : k < i
        · exact ⟨k, hki, e⟩
        · obtain rfl : k = i := by omega
          subst e
          exact ih.1 h
    · rw [hdL_out h, List.mem_append, ih, List.mem_singleton]
      constructor
      · rintro (⟨k, hk, e⟩ | e)
        · exact ⟨k, by omega, e⟩
        · exact ⟨i, by omega, e⟩
      · rintro ⟨k, hk, e⟩
        by_cases hki : k < i
        · exact .inl ⟨k, hki, e⟩
        · obtain rfl : k = i := by omega
          exact .inr e
theorem hdL_nodup {r : Nat → Nat} {D : Nat} : ∀ i, (hdL r D i).Nodup
  | 0 => List.nodup_nil
  | i + 1 => by
    by_cases h : ((r (D + i) : Nat) : Int) ∈ hdL r D i
    · rw [hdL_in h]; exact hdL_nodup i
    · rw [hdL_out h, List.nodup_append]
      refine ⟨hdL_nodup i, by simp, fun a ha b hb e => ?_⟩
      rw [List.mem_singleton.1 hb] at e
      subst e
      exact h ha
theorem hdL_len (r : Nat → Nat) (D : Nat) : ∀ i, (hdL r D i).length ≤ i
  | 0 => Nat.le_refl _
  | i + 1 => by
    have := hdL_len r D i
    by_cases h : ((r (D + i) : Nat) : Int) ∈ hdL r D i
    · rw [hdL_in h]; omega
    · rw [hdL_out h, List.length_append]; simp; omega
def thgI (A : List Nat) (x : Int) : Int := ((A.getD x.toNat 0 : Nat) : Int)
def sdG (r : Nat → Nat) (D : Nat) (hs : List Int) (A : List Nat) (L : List Int) : List (List Int) :=
  hs.map fun h => (L.filter fun x => decide (((r (D + x.toNat) : Nat) : Int) = h)).map (thgI A)
theorem sdG_len (r : Nat → Nat) (D : Nat) (hs : List Int) (A : List Nat) (L : List Int) : (sdG r D hs A L).length = hs.length := by simp [sdG]
theorem sdG_nil (r : Nat → Nat) (D : Nat) (hs : List Int) (A : List Nat) : sdG r D hs A [] = List.replicate hs.length [] := by
  unfold sdG
  apply List.ext_getElem
  · simp
  · intro i h1 h2; simp
theorem sdG_step {r : Nat → Nat} {D : Nat} {hs : List Int} {A : List Nat} {L : List Int} {x : Int} {k : Nat} {g : List Int} (hn : hs.Nodup) (hk : hs[k]? = some ((r (D + x.toNat) : Nat) : Int)) (hg : (sdG r D hs A L)[k]? = some g) :
    (sdG r D hs A L).set k (g ++ [thgI A x]) = sdG r D hs A (L ++ [x]) := by
  apply List.ext_getElem?
  intro i
  have hkl := (List.getElem?_eq_some_iff.1 hk).1
  by_cases e : k = i
  · subst e
    rw [List.getElem?_set_self (by rw [sdG_len]; exact hkl)]
    unfold sdG at hg ⊢
    rw [List.getElem?_map, hk] at hg ⊢
    have hg := (Option.some.inj hg).symm
    simp only [Option.map_some, Option.some.injEq]
    rw [List.filter_append, List.map_append, hg]
    simp
  · rw [List.getElem?_set_ne e]
    unfold sdG
    rw [List.getElem?_map, List.getElem?_map]
    cases hi : hs[i]? with
    | none => rfl
    | some h =>
      simp only [Option.map_some, Option.some.injEq]
      rw [List.filter_append, List.map_append]
      have hne : ¬ ((r (D + x.toNat) : Nat) : Int) = h := fun e2 => by
        obtain ⟨h1, h2⟩ := List.getElem?_eq_some_iff.1 hk
        obtain ⟨h3, h4⟩ := List.getElem?_eq_some_iff.1 hi
        rcases Nat.lt_or_gt_of_ne e with c | c
        · exact List.pairwise_iff_getElem.1 hn k i h1 h3 c (by rw [h2, h4, e2])
        · exact List.pairwise_iff_getElem.1 hn i k h3 h1 c (by rw [h2, h4, e2])
      simp [hne]
theorem sdG_short (r : Nat → Nat) (D : Nat) (hs : List Int) (A : List Nat) (L : List Int) : ∀ g ∈ sdG r D hs A L, g.length ≤ L.length := fun g hg => by
  obtain ⟨h, _, rfl⟩ := List.mem_map.1 hg
  rw [List.length_map]
  exact List.length_filter_le _ _
end Go.Proofs.YtfpepoebammeoaaGreat
set_option linter.unusedVariables false
set_option linter.unusedSimpArgs false
namespace Go.Proofs.YtfpepoebammeoaaGreat

def freeB (ah : Int → Int → Bool) (out own : List Int) (x : Int) : Bool := !out.contains x && own.all fun y => !(!out.contains y && ah y x)
def bestF (fr : Int → Bool) (b x : Int) : Int := if fr x = true ∧ (b < 0 ∨ x < b) then x else b
def bestL (fr : Int → Bool) (l : List Int) : Int := l.foldl (bestF fr) (-1)
theorem best_take {fr : Int → Bool} {l : List Int} {j : Nat} {x : Int} (h : l[j]? = some x) : bestL fr (l.take (j + 1)) = bestF fr (bestL fr (l.take j)) x := by
  unfold bestL
  rw [List.take_add_one, h, List.foldl_append]
  rfl
theorem best_fold (fr : Int → Bool) : ∀ (l : List Int) (b : Int), (∀ x ∈ l, 0 ≤ x) → (l.foldl (bestF fr) b = b ∨ (l.foldl (bestF fr) b ∈ l ∧ fr (l.foldl (bestF fr) b) = true)) ∧ (0 ≤ b → 0 ≤ l.foldl (bestF fr) b ∧ l.foldl (bestF fr) b ≤ b) ∧ ∀ x ∈ l, fr x = true → 0 ≤ l.foldl (bestF fr) b ∧ l.foldl (bestF fr) b ≤ x
  | [], b, _ => ⟨.inl rfl, fun h => ⟨h, Int.le_refl _⟩, fun x h => by cases h⟩
  | a :: l, b, h => by
    have ha := h a List.mem_cons_self
    obtain ⟨h1, h2, h3⟩ := best_fold fr l (bestF fr b a) (fun x hx => h x (List.mem_cons_of_mem _ hx))
    rw [List.foldl_cons]
    have hs : (bestF fr b a = b ∧ (fr a = true → 0 ≤ b ∧ b ≤ a)) ∨ (bestF fr b a = a ∧ fr a = true ∧ (b < 0 ∨ a < b)) := by
      unfold bestF
      by_cases c : fr a = true ∧ (b < 0 ∨ a < b)
      · rw [if_pos c]; exact .inr ⟨rfl, c⟩
      · rw [if_neg c]
        refine .inl ⟨rfl, fun hf => ?_⟩
        have : ¬ (b < 0 ∨ a < b) := fun d => c ⟨hf, d⟩
        omega
    refine ⟨?_, ?_, fun x hx hf => ?_⟩
    · rcases h1 with e | ⟨e1, e2⟩
      · rcases hs with ⟨e3, _⟩ | ⟨e3, e4, _⟩
        · left; rw [e, e3]
        · right; rw [e, e3]; exact ⟨List.mem_cons_self, e4⟩
      · exact .inr ⟨List.mem_cons_of_mem _ e1, e2⟩
    · intro hb
      have : 0 ≤ bestF fr b a := by rcases hs with ⟨e, _⟩ | ⟨e, _⟩ <;> rw [e] <;> assumption
      have h4 := h2 this
      rcases hs with ⟨e, _⟩ | ⟨e, _, h5⟩
      · rw [e] at h4 ⊢; exact h4
      · rw [e] at h4 ⊢; omega
    · rcases List.mem_cons.1 hx with e | hx
      · subst e
        rcases hs with ⟨e, h5⟩ | ⟨e, _, h5⟩
        · have := h5 hf
          have h4 := h2 (by rw [e]; omega)
          rw [e] at h4 ⊢; omega
        · have h4 := h2 (by rw [e]; omega)
          rw [e] at h4 ⊢; omega
      · exact h3 x hx hf
theorem best_is {fr : Int → Bool} {l : List Int} {y : Int} (h0 : ∀ x ∈ l, 0 ≤ x) (hy : y ∈ l) (hf : fr y = true) (hm : ∀ x ∈ l, fr x = true → y ≤ x) : bestL fr l = y := by
  obtain ⟨h1, _, h3⟩ := best_fold fr l (-1) h0
  obtain ⟨h4, h5⟩ := h3 y hy hf
  rcases h1 with e | ⟨e1, e2⟩
  · unfold bestL
    omega
  · have := hm _ e1 e2
    unfold bestL
    omega
section
variable {R : Nat → Nat → Prop} {A : List Nat} {L own : List Int} {ah : Int → Int → Bool}
theorem thgI_nat (A : List Nat) (u : Nat) : thgI A (u : Int) = ((A.getD u 0 : Nat) : Int) := by simp [thgI]
theorem asc_at {A : List Nat} (h : A.Pairwise (· < ·)) {u v : Nat} (hu : u < A.length) (hv : v < A.length) (hl : u < v) : A.getD u 0 < A.getD v 0 := by
  rw [List.getD_eq_getElem?_getD, List.getD_eq_getElem?_getD, List.getElem?_eq_getElem hu, List.getElem?_eq_getElem hv]
  exact List.pairwise_iff_getElem.1 h u v hu hv hl
theorem asc_inj {A : List Nat} (h : A.Pairwise (· < ·)) {u v : Nat} (hu : u < A.length) (hv : v < A.length) (e : A.getD u 0 = A.getD v 0) : u = v := by
  rcases Nat.lt_trichotomy u v with c | c | c
  · have := asc_at h hu hv c; omega
  · exact c
  · have := asc_at h hv hu c; omega
theorem told_next (hL : ReachK (needE (pairA R A.length)) A.length L) (hA : A.Pairwise (· < ·)) (ho : ∀ x, x ∈ own ↔ ∃ u, u < A.length ∧ x = thgI A (u : Int)) (hah : ∀ u v, u < A.length → v < A.length → (ah (thgI A (u : Int)) (thgI A (v : Int)) = true ↔ R u v)) {k : Nat} {x : Int} (hk : L[k]? = some x) :
    bestL (freeB ah ((L.take k).map (thgI A)) own) own = thgI A x := by
  obtain ⟨p, hp, rfl, hn⟩ := line_next hL hk
  obtain ⟨_, hcan⟩ := next_lt hn
  have hlow : ∀ v, v < p → canB (needE (pairA R A.length)) (L.take k) v = false := fun v hv => by
    unfold nextK at hn
    rw [List.find?_eq_some_iff_append] at hn
    obtain ⟨_, as9, bs, e, hall⟩ := hn
    have hlen : as9.length = p := by
      have h1 : (List.range A.length)[as9.length]? = some p := by rw [e]; simp
      rw [List.getElem?_range] at h1
      · exact Option.some.inj h1
      · have := congrArg List.length e
        simp at this
        omega
    have h2 : as9[v]? = some v := by
      have h3 : (List.range A.length)[v]? = as9[v]? := by rw [e, List.getElem?_append_left (by omega)]
      rw [← h3, List.getElem?_range (by omega)]
    have := hall v (List.mem_of_getElem? h2)
    simpa using this
  have hin : ∀ y ∈ L.take k, ∃ u : Nat, u < A.length ∧ y = u := fun y hy => by
    obtain ⟨u, hu, e⟩ := (reach_tame hL).2 y (List.mem_of_mem_take hy)
    exact ⟨u, hu, e⟩
  have hmem : ∀ u : Nat, u < A.length → (thgI A (u : Int) ∈ (L.take k).map (thgI A) ↔ (u : Int) ∈ L.take k) := fun u hu => by
    constructor
    · intro h
      obtain ⟨y, hy, e⟩ := List.mem_map.1 h
      obtain ⟨v, hv, rfl⟩ := hin y hy
      rw [thgI_nat, thgI_nat] at e
      have := asc_inj hA hv hu (by omega)
      subst this
      exact hy
    · exact fun h => List.mem_map.2 ⟨_, h, rfl⟩
  have hfree : ∀ u : Nat, u < A.length → (freeB ah ((L.take k).map (thgI A)) own (thgI A (u : Int)) = true ↔ canB (needE (pairA R A.length)) (L.take k) u = true) := fun u hu => by
    unfold freeB canB
    rw [Bool.and_eq_true, Bool.and_eq_true, List.all_eq_true]
    have e1 : (!((L.take k).map (thgI A)).contains (thgI A (u : Int))) = true ↔ (!(L.take k).contains (u : Int)) = true := by
      have := hmem u hu
      simp only [Bool.not_eq_true', List.contains_iff_mem, Bool.eq_false_iff, ne_eq]
      rw [this]
    have e2 : (∀ y ∈ own, (!(!((L.take k).map (thgI A)).contains y && ah y (thgI A (u : Int)))) = true) ↔ (waitK (needE (pairA R A.length)) (L.take k) u == 0) = true := by
      unfold waitK
      rw [beq_iff_eq, List.countP_eq_zero]
      constructor
      · intro h d hd
        obtain ⟨e, he, e1, e2⟩ := mem_needE.1 hd
        obtain ⟨a, b⟩ := e
        obtain ⟨ha, hb, hr⟩ := mem_pairA.1 he
        have e2' : b = u := by simp at e2; omega
        have e1' : d = (a : Int) := by simp at e1; omega
        subst e2'
        subst e1'
        have h3 := h (thgI A (a : Int)) ((ho _).2 ⟨a, ha, rfl⟩)
        have h4 := (hah a b ha hb).2 hr
        rw [h4] at h3
        have h5 : ((L.take k).map (thgI A)).contains (thgI A (a : Int)) = true := by simpa using h3
        have h6 := (hmem a ha).1 (by simpa using h5)
        simpa using h6
      · intro h y hy
        obtain ⟨a, ha, rfl⟩ := (ho y).1 hy
        by_cases c : ah (thgI A (a : Int)) (thgI A (u : Int)) = true
        · have hr := (hah a u ha hu).1 c
          have h3 := h (a : Int) (mem_needE.2 ⟨(a, u), mem_pairA.2 ⟨ha, hu, hr⟩, rfl, rfl⟩)
          have h4 : (a : Int) ∈ L.take k := by simpa using h3
          have h5 := (hmem a ha).2 h4
          have h6 : ((L.take k).map (thgI A)).contains (thgI A (a : Int)) = true := by simpa using h5
          rw [h6]; rfl
        · have : ah (thgI A (a : Int)) (thgI A (u : Int)) = false := by simpa using c
          rw [this]; simp
    rw [e1, e2]
  refine best_is (fun x hx => ?_) ((ho _).2 ⟨p, hp, rfl⟩) ((hfree p hp).2 hcan) (fun x hx hf => ?_)
  · obtain ⟨u, _, rfl⟩ := (ho x).1 hx
    rw [thgI_nat]; omega
  · obtain ⟨u, hu, rfl⟩ := (ho x).1 hx
    have hc := (hfree u hu).1 hf
    have hpu : p ≤ u := by
      rcases Nat.lt_or_ge u p with c | c
      · rw [hlow u c] at hc; cases hc
      · exact c
    rw [thgI_nat, thgI_nat]
    by_cases e : p = u
    · subst e; exact Int.le_refl _
    · have := asc_at hA hp hu (by omega)
      omega
end
end Go.Proofs.YtfpepoebammeoaaGreat
set_option linter.unusedVariables false
set_option linter.unusedSimpArgs false
namespace Go.Proofs.YtfpepoebammeoaaGreat
open Go.ChangeShapes Go.WideShapes Go.ChangeAt Go.RowKit

def knB (N : Nat) (F : EdN) (t y : Int) : Bool := decide (y = t) || (viaB (edB F) N y.toNat t.toNat && viaB (edB F) N t.toNat y.toNat)
section
variable {N : Nat} {F : EdN} {P : Int → Int}
theorem knB_iff (hF : ∀ e ∈ F, e.1 < N ∧ e.2 < N) (hP : ∀ x y : Nat, P (x : Int) = P (y : Int) ↔ Knot (EdR F) x y) {t y : Int} (ht : hasB (N : Int) t = true) (hy : hasB (N : Int) y = true) : knB N F t y = true ↔ P y = P t := by
  obtain ⟨t1, t2⟩ := hasB_iff.1 ht
  obtain ⟨y1, y2⟩ := hasB_iff.1 hy
  obtain ⟨a, rfl⟩ : ∃ a : Nat, t = (a : Int) := ⟨t.toNat, by omega⟩
  obtain ⟨b, rfl⟩ : ∃ b : Nat, y = (b : Int) := ⟨y.toNat, by omega⟩
  rw [hP b a]
  unfold knB
  rw [Bool.or_eq_true, Bool.and_eq_true, decide_eq_true_iff, via_edW hF, via_edW hF, Int.toNat_natCast, Int.toNat_natCast]
  constructor
  · rintro (e | ⟨h1, h2⟩)
    · rw [show b = a by omega]; exact Knot.refl _
    · exact ⟨.inr h1, .inr h2⟩
  · rintro ⟨h1, h2⟩
    rcases h1 with e | h1
    · exact .inl (by omega)
    · rcases h2 with e | h2
      · exact .inl (by omega)
      · exact .inr ⟨h1, h2⟩
theorem ask_knB (hF : ∀ e ∈ F, e.1 < N ∧ e.2 < N) (hP : ∀ x y : Nat, P (x : Int) = P (y : Int) ↔ Knot (EdR F) x y) {out : List Int} (ho : ∀ y ∈ out, hasB (N : Int) y = true) (t : Int) : askF (hasB (N : Int)) P out t = if (!hasB (N : Int) t || out.any (knB N F t)) = true then out else out ++ [t] := by
  unfold askF
  cases ht : hasB (N : Int) t with
  | false => simp
  | true =>
    have e : (out.map P).contains (P t) = out.any (knB N F t) := by
      rw [Bool.eq_iff_iff, List.any_eq_true]
      constructor
      · intro h
        have h : P t ∈ out.map P := by simpa using h
        obtain ⟨y, hy, e⟩ := List.mem_map.1 h
        exact ⟨y, hy, (knB_iff hF hP ht (ho y hy)).2 e⟩
      · rintro ⟨y, hy, h⟩
        have : P t ∈ out.map P := List.mem_map.2 ⟨y, hy, (knB_iff hF hP ht (ho y hy)).1 h⟩
        simpa using this
    rw [e]
    cases out.any (knB N F t) <;> simp
theorem any_take {f : Int → Bool} {l : List Int} {j : Nat} {x : Int} (h : l[j]? = some x) : (l.take (j + 1)).any f = ((l.take j).any f || f x) := by
  rw [List.take_add_one, h, List.any_append]
  simp
theorem all_take {f : Int → Bool} {l : List Int} {j : Nat} {x : Int} (h : l[j]? = some x) : (l.take (j + 1)).all f = ((l.take j).all f && f x) := by
  rw [List.take_add_one, h, List.all_append]
  simp
end
end Go.Proofs.YtfpepoebammeoaaGreat
