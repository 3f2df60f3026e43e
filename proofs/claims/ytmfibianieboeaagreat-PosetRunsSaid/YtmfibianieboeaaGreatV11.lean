/- Mathematics: edges laid out by their first things. Mathematics: knots of the tied things by their places. The mathematics that the loops of a web's line want. No function of the program is named here. -/
import Derived.Test.YtmfibianieboeaaGreatV1
import Derived.Test.YtmfibianieboeaaGreatV4
set_option linter.unusedVariables false
set_option linter.unusedSimpArgs false
namespace Go.Proofs.YtmfibianieboeaaGreat

def outsE (es : List (Nat × Nat)) (v : Nat) : List Nat := (es.filter fun e => e.1 == v).map (·.2)
theorem outsE_snoc (es : List (Nat × Nat)) (e : Nat × Nat) (v : Nat) : outsE (es ++ [e]) v = outsE es v ++ if e.1 = v then [e.2] else [] := by
  unfold outsE
  rw [List.filter_append, List.map_append]
  congr 1
  by_cases h : e.1 = v
  · simp [h]
  · simp [h]
theorem mem_outsE {es : List (Nat × Nat)} {v x : Nat} : x ∈ outsE es v ↔ (v, x) ∈ es := by
  unfold outsE
  simp only [List.mem_map, List.mem_filter, beq_iff_eq]
  constructor
  · rintro ⟨e, ⟨h1, h2⟩, h3⟩
    have : e = (v, x) := Prod.ext h2 h3
    exact this ▸ h1
  · intro h
    exact ⟨(v, x), ⟨h, rfl⟩, rfl⟩
def degE (es : List (Nat × Nat)) (v : Nat) : Nat := (outsE es v).length
theorem degE_snoc (es : List (Nat × Nat)) (e : Nat × Nat) (v : Nat) : degE (es ++ [e]) v = degE es v + if e.1 = v then 1 else 0 := by
  unfold degE
  rw [outsE_snoc, List.length_append]
  split <;> rfl
def preE (es : List (Nat × Nat)) (v : Nat) : Nat := sumK (degE es) v
theorem preE_zero (es : List (Nat × Nat)) : preE es 0 = 0 := rfl
theorem preE_succ (es : List (Nat × Nat)) (v : Nat) : preE es (v + 1) = preE es v + degE es v := sumK_succ _ _
theorem preE_mono (es : List (Nat × Nat)) : ∀ {a b : Nat}, a ≤ b → preE es a ≤ preE es b
  | a, 0, h => by rw [Nat.le_zero.1 h]; exact Nat.le_refl _
  | a, b + 1, h => by
    rcases Nat.lt_or_ge a (b + 1) with h1 | h1
    · have := preE_mono es (a := a) (b := b) (by omega)
      rw [preE_succ]; omega
    · obtain rfl : a = b + 1 := by omega
      exact Nat.le_refl _
theorem preE_all {es : List (Nat × Nat)} {m : Nat} (h : ∀ e ∈ es, e.1 < m) : preE es m = es.length := by
  have key : ∀ (l : List (Nat × Nat)), (∀ e ∈ l, e.1 < m) → sumK (degE l) m = l.length := by
    intro l
    induction l with
    | nil =>
      intro _
      have : ∀ k, sumK (degE []) k = 0 := by
        intro k
        induction k with
        | zero => rfl
        | succ k ih => rw [sumK_succ, ih]; rfl
      simpa using this m
    | cons e l ih =>
      intro hl
      have h1 := ih (fun x hx => hl x (by simp [hx]))
      have hd : ∀ v, degE (e :: l) v = degE l v + if e.1 = v then 1 else 0 := by
        intro v
        unfold degE outsE
        by_cases hv : e.1 = v
        · simp [hv]
        · simp [hv]
      have hs : ∀ k, sumK (degE (e :: l)) k = sumK (degE l) k + if e.1 < k then 1 else 0 := by
        intro k
        induction k with
        | zero => rfl
        | succ k ih =>
          rw [sumK_succ, sumK_succ, ih, hd]
          by_cases h1 : e.1 < k
          · rw [if_pos h1, if_neg (by omega), if_pos (by omega)]; omega
          · by_cases h2 : e.1 = k
            · rw [if_neg h1, if_pos h2, if_pos (by omega)]; omega
            · rw [if_neg h1, if_neg h2, if_neg (by omega)]; omega
      rw [hs, h1, if_pos (hl e (by simp)), List.length_cons]
  exact key es h
theorem degE_take_le (es : List (Nat × Nat)) (j v : Nat) : degE (es.take j) v ≤ degE es v := by
  unfold degE outsE
  rw [List.length_map, List.length_map]
  exact ((List.take_sublist j es).filter _).length_le
theorem take_snoc {es : List (Nat × Nat)} {j : Nat} {e : Nat × Nat} (h : es[j]? = some e) : es.take (j + 1) = es.take j ++ [e] := by rw [List.take_add_one, h]; rfl
theorem degE_take_lt {es : List (Nat × Nat)} {j : Nat} {e : Nat × Nat} (h : es[j]? = some e) : degE (es.take j) e.1 < degE es e.1 := by
  have h1 := degE_take_le es (j + 1) e.1
  rw [take_snoc h, degE_snoc, if_pos rfl] at h1
  omega
structure HeadI (m : Nat) (es : List (Nat × Nat)) (j : Nat) (hs : List Nat) : Prop where
  len : hs.length = es.length
  lt : ∀ x ∈ hs, x < m
  at_ : ∀ v, v < m → ∀ (k : Nat) x, (outsE (es.take j) v)[k]? = some x → hs[preE es (v + 1) - 1 - k]? = some x
theorem head_zero {m : Nat} {es : List (Nat × Nat)} (h : ∀ e ∈ es, e.1 < m) : HeadI m es 0 (List.replicate es.length 0) := by
  refine ⟨by simp, fun x hx => ?_, fun v hv k x hk => by simp [outsE] at hk⟩
  obtain ⟨h1, rfl⟩ := List.mem_replicate.1 hx
  cases es with
  | nil => exact absurd rfl h1
  | cons e es => have := h e (by simp); omega
theorem head_pos {m : Nat} {es : List (Nat × Nat)} {j : Nat} {e : Nat × Nat} (h : ∀ e ∈ es, e.1 < m) (he : es[j]? = some e) : degE (es.take j) e.1 < preE es (e.1 + 1) ∧ preE es (e.1 + 1) - degE (es.take j) e.1 - 1 < es.length := by
  have h1 := degE_take_lt he
  have h2 := preE_succ es e.1
  have h3 := preE_all h
  have h4 := h e (List.mem_of_getElem? he)
  have h5 := preE_mono es (a := e.1 + 1) (b := m) (by omega)
  omega
theorem head_step {m : Nat} {es : List (Nat × Nat)} {j : Nat} {e : Nat × Nat} {hs : List Nat} (h : ∀ e ∈ es, e.1 < m ∧ e.2 < m) (he : es[j]? = some e) (hI : HeadI m es j hs) : HeadI m es (j + 1) (hs.set (preE es (e.1 + 1) - degE (es.take j) e.1 - 1) e.2) := by
  obtain ⟨hp1, hp2⟩ := head_pos (fun e he => (h e he).1) he
  have hlt := degE_take_lt he
  have hem := h e (List.mem_of_getElem? he)
  refine ⟨by rw [List.length_set]; exact hI.len, fun x hx => ?_, fun v hv k x hk => ?_⟩
  · rcases List.mem_or_eq_of_mem_set hx with hx | rfl
    · exact hI.lt x hx
    · exact hem.2
  · rw [take_snoc he, outsE_snoc] at hk
    have hsu := preE_succ es e.1
    by_cases hv1 : e.1 = v
    · subst hv1
      rw [if_pos rfl] at hk
      rcases Nat.lt_or_ge k (outsE (es.take j) e.1).length with hkl | hkl
      · rw [List.getElem?_append_left hkl] at hk
        have hkd : k < degE (es.take j) e.1 := hkl
        rw [List.getElem?_set_ne (by omega)]
        exact hI.at_ _ hv k x hk
      · rw [List.getElem?_append_right hkl] at hk
        have hl := (List.getElem?_eq_some_iff.1 hk).1
        simp at hl
        have hk0 : k = degE (es.take j) e.1 := by show k = (outsE (es.take j) e.1).length; omega
        rw [show k - (outsE (es.take j) e.1).length = 0 by omega] at hk
        simp at hk
        subst hk
        rw [hk0, show preE es (e.1 + 1) - 1 - degE (es.take j) e.1 = preE es (e.1 + 1) - degE (es.take j) e.1 - 1 by omega]
        exact List.getElem?_set_self (by rw [hI.len]; exact hp2)
    · rw [if_neg hv1, List.append_nil] at hk
      have hkl : k < degE (es.take j) v := (List.getElem?_eq_some_iff.1 hk).1
      have hd := degE_take_le es j v
      have hsv := preE_succ es v
      have hne : preE es (e.1 + 1) - degE (es.take j) e.1 - 1 ≠ preE es (v + 1) - 1 - k := by
        rcases Nat.lt_or_ge v e.1 with hlt2 | hge
        · have := preE_mono es (a := v + 1) (b := e.1) (by omega)
          omega
        · have := preE_mono es (a := e.1 + 1) (b := v) (by omega)
          omega
      rw [List.getElem?_set_ne hne]
      exact hI.at_ v hv k x hk
theorem head_all {m : Nat} {es : List (Nat × Nat)} {hs : List Nat} (h : ∀ e ∈ es, e.1 < m) (hI : HeadI m es es.length hs) {v : Nat} (hv : v < m) : (hs.drop (preE es v)).take (preE es (v + 1) - preE es v) = (outsE es v).reverse := by
  have hsu := preE_succ es v
  have hle := preE_mono es (a := v + 1) (b := m) (by omega)
  have hall := preE_all h
  have hd : preE es (v + 1) - preE es v = degE es v := by omega
  apply List.ext_getElem?
  intro i
  rw [hd]
  rcases Nat.lt_or_ge i (degE es v) with hi | hi
  · rw [List.getElem?_take_of_lt hi, List.getElem?_drop, List.getElem?_reverse hi]
    have hk : degE es v - 1 - i < (outsE es v).length := by show _ < degE es v; omega
    have hx := List.getElem?_eq_getElem hk
    have := hI.at_ v hv (degE es v - 1 - i) _ (by rw [List.take_length]; exact hx)
    rw [show preE es (v + 1) - 1 - (degE es v - 1 - i) = preE es v + i by omega] at this
    rw [this]
    exact hx.symm
  · rw [List.getElem?_eq_none (by rw [List.length_take]; omega), List.getElem?_eq_none (by rw [List.length_reverse]; exact hi)]
theorem head_flat {m : Nat} {es : List (Nat × Nat)} {hs : List Nat} (h : ∀ e ∈ es, e.1 < m) (hI : HeadI m es es.length hs) : ∀ v, v ≤ m → hs.take (preE es v) = (List.range v).flatMap fun u => (outsE es u).reverse
  | 0, _ => by rw [preE_zero]; rfl
  | v + 1, hv => by
    have ih := head_flat h hI v (by omega)
    have ha := head_all h hI (v := v) (by omega)
    have hsu := preE_succ es v
    rw [List.range_succ, List.flatMap_append, ← ih]
    simp only [List.flatMap_cons, List.flatMap_nil, List.append_nil]
    rw [← ha, ← List.take_add]
    congr 1
    omega
def needs2 (es : List (Nat × Nat)) (c : Nat) : Nat := (es.filter fun e => e.2 == c).length
theorem head_count {m : Nat} {es : List (Nat × Nat)} {hs : List Nat} (h : ∀ e ∈ es, e.1 < m) (hI : HeadI m es es.length hs) (c : Nat) : hs.count c = needs2 es c := by
  have hall := preE_all h
  have hf := head_flat h hI m (Nat.le_refl _)
  rw [hall, List.take_of_length_le (by rw [hI.len]; exact Nat.le_refl _)] at hf
  rw [hf]
  have hs : ∀ v, ((List.range v).flatMap fun u => (outsE es u).reverse).count c = (es.filter fun e => decide (e.1 < v) && (e.2 == c)).length := by
    intro v
    induction v with
    | zero =>
      have : (es.filter fun e => decide (e.1 < 0) && (e.2 == c)) = [] := List.filter_eq_nil_iff.2 (by simp)
      rw [this]
      rfl
    | succ v ih =>
      rw [List.range_succ, List.flatMap_append, List.count_append, ih]
      simp only [List.flatMap_cons, List.flatMap_nil, List.append_nil, List.count_reverse]
      have h1 : (outsE es v).count c = (es.filter fun e => (e.1 == v) && (e.2 == c)).length := by
        unfold outsE
        rw [List.count_eq_countP, List.countP_map, List.countP_filter, List.countP_eq_length_filter]
        congr 1
        exact List.filter_congr fun e _ => by simp [Bool.and_comm]
      rw [h1]
      clear ih h1 hf hI h hall
      induction es with
      | nil => rfl
      | cons e es ih2 =>
        simp only [List.filter_cons]
        by_cases hc : e.2 = c
        · rcases Nat.lt_trichotomy e.1 v with h3 | h3 | h3
          · have a1 : decide (e.1 < v) = true := decide_eq_true h3
            have a2 : decide (e.1 < v + 1) = true := decide_eq_true (by omega)
            have a3 : (e.1 == v) = false := by rw [beq_eq_false_iff_ne]; omega
            simp only [a1, a2, a3, hc, beq_self_eq_true, Bool.and_true, Bool.true_and, Bool.false_and, if_true, List.length_cons]
            simp only [Bool.false_eq_true, if_false]
            omega
          · have a1 : decide (e.1 < v) = false := decide_eq_false (by omega)
            have a2 : decide (e.1 < v + 1) = true := decide_eq_true (by omega)
            have a3 : (e.1 == v) = true := by rw [beq_iff_eq]; omega
            simp only [a1, a2, a3, hc, beq_self_eq_true, Bool.and_true, Bool.true_and, Bool.false_and, if_true, List.length_cons]
            simp only [Bool.false_eq_true, if_false]
            omega
          · have a1 : decide (e.1 < v) = false := decide_eq_false (by omega)
            have a2 : decide (e.1 < v + 1) = false := decide_eq_false (by omega)
            have a3 : (e.1 == v) = false := by rw [beq_eq_false_iff_ne]; omega
            simp only [a1, a2, a3, Bool.false_and, Bool.false_eq_true, if_false]
            omega
        · have a4 : (e.2 == c) = false := by rw [beq_eq_false_iff_ne]; exact hc
          simp only [a4, Bool.and_false, Bool.false_eq_true, if_false]
          omega
  rw [hs m]
  unfold needs2
  congr 1
  exact List.filter_congr fun e he => by rw [decide_eq_true (h e he)]; simp
end Go.Proofs.YtmfibianieboeaaGreat
set_option linter.unusedVariables false
namespace Go.Proofs.YtmfibianieboeaaGreat

abbrev EdR (es : List (Nat × Nat)) : Nat → Nat → Prop := fun a b => (a, b) ∈ es
theorem ren_edge {n : Nat} {es : List (Nat × Nat)} {T : List Nat} (hT : Tied n es T) {a b : Nat} (h : EdR (renE T es) a b) : ∃ x y, T[a]? = some x ∧ T[b]? = some y ∧ EdR es x y := by
  obtain ⟨e0, he0, e⟩ := List.mem_map.1 h
  injection e with e1 e2
  subst e1; subst e2
  exact ⟨_, _, idx_at (hT.fst e0 he0), idx_at (hT.snd e0 he0), he0⟩
theorem ren_back {n : Nat} {es : List (Nat × Nat)} {T : List Nat} (hT : Tied n es T) {a b : Nat} (h : Walk (EdR (renE T es)) a b) : ∃ x y, T[a]? = some x ∧ T[b]? = some y ∧ Walk (EdR es) x y := by
  induction h with
  | one he =>
    obtain ⟨x, y, hx, hy, h⟩ := ren_edge hT he
    exact ⟨x, y, hx, hy, .one h⟩
  | more he _ ih =>
    obtain ⟨x, y, hx, hy, h⟩ := ren_edge hT he
    obtain ⟨y', z, hy', hz, hw⟩ := ih
    obtain rfl : y = y' := Option.some.inj (hy.symm.trans hy')
    exact ⟨x, z, hx, hz, .more h hw⟩
theorem ren_forth {n : Nat} {es : List (Nat × Nat)} {T : List Nat} (hT : Tied n es T) {x y : Nat} (h : Walk (EdR es) x y) : Walk (EdR (renE T es)) (T.idxOf x) (T.idxOf y) ∧ x ∈ T ∧ y ∈ T := by
  induction h with
  | one he => exact ⟨.one (List.mem_map.2 ⟨_, he, rfl⟩), hT.fst _ he, hT.snd _ he⟩
  | more he _ ih => exact ⟨.more (List.mem_map.2 ⟨_, he, rfl⟩) ih.1, hT.fst _ he, ih.2.2⟩
theorem least_ren {n : Nat} {es : List (Nat × Nat)} {T : List Nat} (hT : Tied n es T) {p l x y : Nat} (hx : T[p]? = some x) (hy : T[l]? = some y) (h : LeastK (EdR (renE T es)) p l) : LeastK (EdR es) x y := by
  have hle := h.le
  have hyx : y ≤ x := by
    rcases Nat.lt_or_ge l p with h1 | h1
    · exact Nat.le_of_lt ((hT.lt_iff hy hx).1 h1)
    · obtain rfl : l = p := by omega
      have := Option.some.inj (hx.symm.trans hy)
      omega
  have back : ∀ {a b u v : Nat}, T[a]? = some u → T[b]? = some v → Back (EdR (renE T es)) a b → Back (EdR es) u v := by
    intro a b u v hu hv hb
    rcases hb with rfl | hb
    · exact .inl (Option.some.inj (hu.symm.trans hv))
    · obtain ⟨x', y', h1, h2, hw⟩ := ren_back hT hb
      obtain rfl := Option.some.inj (hu.symm.trans h1)
      obtain rfl := Option.some.inj (hv.symm.trans h2)
      exact .inr hw
  refine ⟨⟨back hx hy h.1.1, back hy hx h.1.2⟩, fun b hb => ?_⟩
  rcases hb.1 with rfl | hw
  · exact hyx
  · rcases hb.2 with rfl | hw2
    · exact hyx
    · obtain ⟨f1, _, hbT⟩ := ren_forth hT hw
      obtain ⟨f2, _, _⟩ := ren_forth hT hw2
      rw [hT.idx hx] at f1 f2
      have hbi := idx_at hbT
      have := h.2 _ ⟨.inr f1, .inr f2⟩
      rcases Nat.lt_or_ge l (T.idxOf b) with h1 | h1
      · exact Nat.le_of_lt ((hT.lt_iff hy hbi).1 h1)
      · have he : T.idxOf b = l := by omega
        rw [he] at hbi
        have := Option.some.inj (hbi.symm.trans hy)
        omega
theorem least_free {n : Nat} {es : List (Nat × Nat)} {T : List Nat} (hT : Tied n es T) {x : Nat} (hx : x ∉ T) : LeastK (EdR es) x x := by
  refine ⟨Knot.refl x, fun b hb => ?_⟩
  rcases hb.1 with rfl | hw
  · exact Nat.le_refl _
  · exact absurd (ren_forth hT hw).2.1 hx
def ansK (T : List Nat) (ls : Nat → Nat) (j x : Nat) : Nat := if x ∈ T.take j then T.getD (ls (T.idxOf x)) 0 else x
theorem ansK_zero (T : List Nat) (ls : Nat → Nat) (x : Nat) : ansK T ls 0 x = x := by simp [ansK]
theorem ansK_step {T : List Nat} {ls : Nat → Nat} {j t : Nat} (hn : T.Nodup) (ht : T[j]? = some t) (x : Nat) : ansK T ls (j + 1) x = if x = t then T.getD (ls j) 0 else ansK T ls j x := by
  unfold ansK
  rw [List.take_add_one, ht]
  by_cases e : x = t
  · subst e
    have : T.idxOf x = j := nodup_at hn (idx_at (List.mem_of_getElem? ht)) ht
    rw [if_pos (by simp), if_pos rfl, this]
  · rw [if_neg e]
    have : x ∈ T.take j ++ (some t).toList ↔ x ∈ T.take j := by simp [e]
    simp only [this]
theorem ansK_all {n : Nat} {es : List (Nat × Nat)} {T : List Nat} (hT : Tied n es T) {ls : Nat → Nat} (h : ∀ p, p < T.length → LeastK (EdR (renE T es)) p (ls p)) (x : Nat) : LeastK (EdR es) x (ansK T ls T.length x) := by
  unfold ansK
  rw [List.take_length]
  by_cases hx : x ∈ T
  · rw [if_pos hx]
    have hi := idx_at hx
    have hl := List.idxOf_lt_length_of_mem hx
    have hk := h _ hl
    have hle := hk.le
    have hy : T[ls (T.idxOf x)]? = some (T.getD (ls (T.idxOf x)) 0) := by
      rw [List.getD_eq_getElem?_getD, List.getElem?_eq_getElem (by omega)]
      rfl
    exact least_ren hT hi hy hk
  · rw [if_neg hx]
    exact least_free hT hx
end Go.Proofs.YtmfibianieboeaaGreat
set_option linter.unusedVariables false
namespace Go.Proofs.YtmfibianieboeaaGreat
open Go.ChangeShapes Go.WideShapes Go.ChangeAt Go.RowKit

def readyL (need : Int → List Int) (i : Nat) : List Int := ((List.range i).filter fun u : Nat => (need (u : Int)).length == 0).map fun u : Nat => (u : Int)
theorem readyL_step (need : Int → List Int) (i : Nat) : readyL need (i + 1) = if (need (i : Int)).length = 0 then readyL need i ++ [(i : Int)] else readyL need i := by
  unfold readyL
  rw [List.range_succ, List.filter_append, List.map_append]
  by_cases h : (need (i : Int)).length = 0
  · simp [h]
  · have : ((need (i : Int)).length == 0) = false := by simpa using h
    simp [this, h]
theorem readyL_len (need : Int → List Int) (i : Nat) : (readyL need i).length ≤ i := by
  unfold readyL
  rw [List.length_map]
  exact Nat.le_trans (List.length_filter_le _ _) (by simp)
theorem readyL_heap (need : Int → List Int) (i : Nat) : Heap (readyL need i) (readyL need i).length := by
  have hp : (readyL need i).Pairwise (· < ·) := by
    unfold readyL
    rw [List.pairwise_map]
    refine (List.Pairwise.filter _ List.pairwise_lt_range).imp ?_
    intro a b h
    omega
  refine rising_heap (fun a b hab hb => ?_)
  have h := List.pairwise_iff_getElem.1 hp a b (by omega) hb hab
  rw [List.getD_eq_getElem?_getD, List.getD_eq_getElem?_getD, List.getElem?_eq_getElem (by omega), List.getElem?_eq_getElem hb]
  exact Int.le_of_lt h
theorem readyL_ready (need : Int → List Int) (n : Nat) : Readied need n [] (readyL need n) := by
  constructor
  · intro u hu
    have hc : canB need [] u = ((need (u : Int)).length == 0) := by
      unfold canB
      rw [wait_begin]
      simp
    rw [hc]
    have hnd : (readyL need n).Nodup := by
      unfold readyL
      rw [List.nodup_iff_pairwise_ne, List.pairwise_map]
      refine (List.Pairwise.filter _ List.pairwise_lt_range).imp ?_
      intro a b h
      omega
    by_cases h : (need (u : Int)).length = 0
    · have hm : (u : Int) ∈ readyL need n := by
        unfold readyL
        exact List.mem_map.2 ⟨u, List.mem_filter.2 ⟨List.mem_range.2 hu, by simpa using h⟩, rfl⟩
      rw [if_pos (by simpa using h)]
      have h1 := List.nodup_iff_count.1 hnd (u : Int)
      have h2 := List.count_pos_iff.2 hm
      omega
    · rw [if_neg (by simpa using h)]
      refine List.count_eq_zero.2 (fun hm => ?_)
      unfold readyL at hm
      obtain ⟨v, hv, e⟩ := List.mem_map.1 hm
      obtain rfl : v = u := by omega
      exact h (by simpa using (List.mem_filter.1 hv).2)
  · intro x hx
    unfold readyL at hx
    obtain ⟨v, hv, rfl⟩ := List.mem_map.1 hx
    exact ⟨v, List.mem_range.1 (List.mem_filter.1 hv).1, rfl⟩
theorem ready_len {need : Int → List Int} {n : Nat} {told r : List Int} (h : Readied need n told r) : r.length ≤ n := by
  refine nodup_len (List.nodup_iff_count.2 fun x => ?_) h.2
  by_cases hx : x ∈ r
  · obtain ⟨u, hu, rfl⟩ := h.2 x hx
    rw [h.1 u hu]
    split <;> omega
  · rw [List.count_eq_zero.2 hx]; omega
def slLen : Value → Nat
  | .slice _ l _ => l
  | _ => 0
theorem lowered_at {n : Nat} {W0 us W r1 r : List Int} {j v : Nat} (h : Lowered n W0 us j W r1 r) (hj : j < us.length) (hv : v < n) (e : us[j] = (v : Int)) (hb : ((us.count (v : Int) : Nat) : Int) ≤ W0.getD v 0) : 0 < W.getD v 0 ∧ W.getD v 0 ≤ W0.getD v 0 := by
  have h1 := (h.2 v hv).1
  have hc2 := take_count hj (v : Int)
  have hm : (us.take (j + 1)).count (v : Int) ≤ us.count (v : Int) := count_take_le
  rw [e, if_pos rfl] at hc2
  omega
theorem wait_le (need : Int → List Int) (told : List Int) (u : Int) : waitK need told u ≤ (need u).length := List.countP_le_length


theorem needE_len (es : List (Nat × Nat)) (c : Nat) : (needE es (c : Int)).length = needs2 es c := by
  unfold needE needs2
  rw [List.length_map]
  congr 1
  exact List.filter_congr fun e _ => by
    rw [Bool.eq_iff_iff, beq_iff_eq, beq_iff_eq]
    omega
theorem outs_count (es : List (Nat × Nat)) (u c : Nat) : ((outsE es u).reverse.map fun x : Nat => (x : Int)).count (c : Int) = (needE es (c : Int)).count (u : Int) := by
  have h1 : ((outsE es u).reverse.map fun x : Nat => (x : Int)).count (c : Int) = (es.filter fun e => (e.1 == u) && (e.2 == c)).length := by
    unfold outsE
    rw [← List.map_reverse, List.map_map, List.count_eq_countP, List.countP_map, List.countP_reverse, List.countP_filter, List.countP_eq_length_filter]
    congr 1
    exact List.filter_congr fun e _ => by
      rw [Bool.eq_iff_iff]
      simp only [Function.comp_apply, Bool.and_eq_true, beq_iff_eq]
      omega
  have h2 : (needE es (c : Int)).count (u : Int) = (es.filter fun e => (e.1 == u) && (e.2 == c)).length := by
    unfold needE
    rw [List.count_eq_countP, List.countP_map, List.countP_filter, List.countP_eq_length_filter]
    congr 1
    exact List.filter_congr fun e _ => by
      rw [Bool.eq_iff_iff]
      simp only [Function.comp_apply, Bool.and_eq_true, beq_iff_eq]
      omega
  rw [h1, h2]
def cntL (H : List Nat) (m j : Nat) : List Int := (List.range m).map fun v => (((H.take j).count v : Nat) : Int)
theorem cntL_len (H : List Nat) (m j : Nat) : (cntL H m j).length = m := by simp [cntL]
theorem cntL_at (H : List Nat) {m j v : Nat} (h : v < m) : (cntL H m j).getD v 0 = (((H.take j).count v : Nat) : Int) := by simp [cntL, List.getD_eq_getElem?_getD, h]
theorem cntL_step {H : List Nat} {m j x : Nat} (hx : H[j]? = some x) (hm : x < m) : (cntL H m j).set x ((((H.take j).count x : Nat) : Int) + 1) = cntL H m (j + 1) := by
  apply List.ext_getElem?
  intro v
  by_cases hv : v < m
  · have hr : (cntL H m (j + 1))[v]? = some (((H.take (j + 1)).count v : Nat) : Int) := by simp [cntL, hv]
    rw [hr, List.take_add_one, hx]
    by_cases e : x = v
    · subst e
      rw [List.getElem?_set_self (by rw [cntL_len]; exact hm)]
      simp [List.count_append]
    · rw [List.getElem?_set_ne e]
      have : (H.take j ++ (some x).toList).count v = (H.take j).count v := by
        rw [List.count_append]
        simp [e]
      rw [this]
      simp [cntL, hv]
  · rw [List.getElem?_eq_none (by rw [List.length_set, cntL_len]; omega), List.getElem?_eq_none (by rw [cntL_len]; omega)]
theorem cntL_zero (H : List Nat) (m : Nat) : cntL H m 0 = List.replicate m 0 := by
  apply List.ext_getElem?
  intro v
  by_cases hv : v < m
  · simp [cntL, hv]
  · rw [List.getElem?_eq_none (by rw [cntL_len]; omega), List.getElem?_eq_none (by simp; omega)]
end Go.Proofs.YtmfibianieboeaaGreat
