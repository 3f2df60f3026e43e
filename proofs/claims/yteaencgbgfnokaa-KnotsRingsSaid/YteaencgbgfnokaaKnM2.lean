/- Mathematics: edges laid out by their first things. -/
import Derived.Test.YteaencgbgfnokaaKnotS
set_option linter.unusedVariables false
set_option linter.unusedSimpArgs false
namespace Go.Proofs.Yteaencgbgfnokaa

/-- Where v's edges lead, in their order. -/
def outsE (es : List (Nat × Nat)) (v : Nat) : List Nat := (es.filter fun e => e.1 == v).map (·.2)
theorem outsE_snoc (es : List (Nat × Nat)) (e : Nat × Nat) (v : Nat) : outsE (es ++ [e]) v = outsE es v ++ if e.1 = v then [e.2] else [] := by
  unfold outsE
  rw [List.filter_append, List.map_append]
  congr 1
  by_cases h : e.1 = v
  · simp [h]
  · simp [h]
theorem mem_outsE {es : List (Nat × Nat)} {v x : Nat} : x ∈ outsE es v ↔ (v, x) ∈ es := by
  unfold outsE
  simp only [List.mem_map, List.mem_filter, beq_iff_eq]
  constructor
  · rintro ⟨e, ⟨h1, h2⟩, h3⟩
    have : e = (v, x) := Prod.ext h2 h3
    exact this ▸ h1
  · intro h
    exact ⟨(v, x), ⟨h, rfl⟩, rfl⟩
def degE (es : List (Nat × Nat)) (v : Nat) : Nat := (outsE es v).length
theorem degE_snoc (es : List (Nat × Nat)) (e : Nat × Nat) (v : Nat) : degE (es ++ [e]) v = degE es v + if e.1 = v then 1 else 0 := by
  unfold degE
  rw [outsE_snoc, List.length_append]
  split <;> rfl
/-- How many edges come from things below v. -/
def preE (es : List (Nat × Nat)) (v : Nat) : Nat := sumK (degE es) v
theorem preE_zero (es : List (Nat × Nat)) : preE es 0 = 0 := rfl
theorem preE_succ (es : List (Nat × Nat)) (v : Nat) : preE es (v + 1) = preE es v + degE es v := sumK_succ _ _
theorem preE_mono (es : List (Nat × Nat)) : ∀ {a b : Nat}, a ≤ b → preE es a ≤ preE es b
  | a, 0, h => by rw [Nat.le_zero.1 h]; exact Nat.le_refl _
  | a, b + 1, h => by
    rcases Nat.lt_or_ge a (b + 1) with h1 | h1
    · have := preE_mono es (a := a) (b := b) (by omega)
      rw [preE_succ]; omega
    · obtain rfl : a = b + 1 := by omega
      exact Nat.le_refl _
theorem preE_all {es : List (Nat × Nat)} {m : Nat} (h : ∀ e ∈ es, e.1 < m) : preE es m = es.length := by
  have key : ∀ (l : List (Nat × Nat)), (∀ e ∈ l, e.1 < m) → sumK (degE l) m = l.length := by
    intro l
    induction l with
    | nil =>
      intro _
      have : ∀ k, sumK (degE []) k = 0 := by
        intro k
        induction k with
        | zero => rfl
        | succ k ih => rw [sumK_succ, ih]; rfl
      simpa using this m
    | cons e l ih =>
      intro hl
      have h1 := ih (fun x hx => hl x (by simp [hx]))
      have hd : ∀ v, degE (e :: l) v = degE l v + if e.1 = v then 1 else 0 := by
        intro v
        unfold degE outsE
        by_cases hv : e.1 = v
        · simp [hv]
        · simp [hv]
      have hs : ∀ k, sumK (degE (e :: l)) k = sumK (degE l) k + if e.1 < k then 1 else 0 := by
        intro k
        induction k with
        | zero => rfl
        | succ k ih =>
          rw [sumK_succ, sumK_succ, ih, hd]
          by_cases h1 : e.1 < k
          · rw [if_pos h1, if_neg (by omega), if_pos (by omega)]; omega
          · by_cases h2 : e.1 = k
            · rw [if_neg h1, if_pos h2, if_pos (by omega)]; omega
            · rw [if_neg h1, if_neg h2, if_neg (by omega)]; omega
      rw [hs, h1, if_pos (hl e (by simp)), List.length_cons]
  exact key es h
theorem degE_take_le (es : List (Nat × Nat)) (j v : Nat) : degE (es.take j) v ≤ degE es v := by
  unfold degE outsE
  rw [List.length_map, List.length_map]
  exact ((List.take_sublist j es).filter _).length_le
theorem take_snoc {es : List (Nat × Nat)} {j : Nat} {e : Nat × Nat} (h : es[j]? = some e) : es.take (j + 1) = es.take j ++ [e] := by rw [List.take_add_one, h]; rfl
theorem degE_take_lt {es : List (Nat × Nat)} {j : Nat} {e : Nat × Nat} (h : es[j]? = some e) : degE (es.take j) e.1 < degE es e.1 := by
  have h1 := degE_take_le es (j + 1) e.1
  rw [take_snoc h, degE_snoc, if_pos rfl] at h1
  omega
/-- The heads while they are laid out. -/
structure HeadI (m : Nat) (es : List (Nat × Nat)) (j : Nat) (hs : List Nat) : Prop where
  len : hs.length = es.length
  lt : ∀ x ∈ hs, x < m
  at_ : ∀ v, v < m → ∀ (k : Nat) x, (outsE (es.take j) v)[k]? = some x → hs[preE es (v + 1) - 1 - k]? = some x
theorem head_zero {m : Nat} {es : List (Nat × Nat)} (h : ∀ e ∈ es, e.1 < m) : HeadI m es 0 (List.replicate es.length 0) := by
  refine ⟨by simp, fun x hx => ?_, fun v hv k x hk => by simp [outsE] at hk⟩
  obtain ⟨h1, rfl⟩ := List.mem_replicate.1 hx
  cases es with
  | nil => exact absurd rfl h1
  | cons e es => have := h e (by simp); omega
theorem head_pos {m : Nat} {es : List (Nat × Nat)} {j : Nat} {e : Nat × Nat} (h : ∀ e ∈ es, e.1 < m) (he : es[j]? = some e) : degE (es.take j) e.1 < preE es (e.1 + 1) ∧ preE es (e.1 + 1) - degE (es.take j) e.1 - 1 < es.length := by
  have h1 := degE_take_lt he
  have h2 := preE_succ es e.1
  have h3 := preE_all h
  have h4 := h e (List.mem_of_getElem? he)
  have h5 := preE_mono es (a := e.1 + 1) (b := m) (by omega)
  omega
theorem head_step {m : Nat} {es : List (Nat × Nat)} {j : Nat} {e : Nat × Nat} {hs : List Nat} (h : ∀ e ∈ es, e.1 < m ∧ e.2 < m) (he : es[j]? = some e) (hI : HeadI m es j hs) : HeadI m es (j + 1) (hs.set (preE es (e.1 + 1) - degE (es.take j) e.1 - 1) e.2) := by
  obtain ⟨hp1, hp2⟩ := head_pos (fun e he => (h e he).1) he
  have hlt := degE_take_lt he
  have hem := h e (List.mem_of_getElem? he)
  refine ⟨by rw [List.length_set]; exact hI.len, fun x hx => ?_, fun v hv k x hk => ?_⟩
  · rcases List.mem_or_eq_of_mem_set hx with hx | rfl
    · exact hI.lt x hx
    · exact hem.2
  · rw [take_snoc he, outsE_snoc] at hk
    have hsu := preE_succ es e.1
    by_cases hv1 : e.1 = v
    · subst hv1
      rw [if_pos rfl] at hk
      rcases Nat.lt_or_ge k (outsE (es.take j) e.1).length with hkl | hkl
      · rw [List.getElem?_append_left hkl] at hk
        have hkd : k < degE (es.take j) e.1 := hkl
        rw [List.getElem?_set_ne (by omega)]
        exact hI.at_ _ hv k x hk
      · rw [List.getElem?_append_right hkl] at hk
        have hl := (List.getElem?_eq_some_iff.1 hk).1
        simp at hl
        have hk0 : k = degE (es.take j) e.1 := by show k = (outsE (es.take j) e.1).length; omega
        rw [show k - (outsE (es.take j) e.1).length = 0 by omega] at hk
        simp at hk
        subst hk
        rw [hk0, show preE es (e.1 + 1) - 1 - degE (es.take j) e.1 = preE es (e.1 + 1) - degE (es.take j) e.1 - 1 by omega]
        exact List.getElem?_set_self (by rw [hI.len]; exact hp2)
    · rw [if_neg hv1, List.append_nil] at hk
      have hkl : k < degE (es.take j) v := (List.getElem?_eq_some_iff.1 hk).1
      have hd := degE_take_le es j v
      have hsv := preE_succ es v
      have hne : preE es (e.1 + 1) - degE (es.take j) e.1 - 1 ≠ preE es (v + 1) - 1 - k := by
        rcases Nat.lt_or_ge v e.1 with hlt2 | hge
        · have := preE_mono es (a := v + 1) (b := e.1) (by omega)
          omega
        · have := preE_mono es (a := e.1 + 1) (b := v) (by omega)
          omega
      rw [List.getElem?_set_ne hne]
      exact hI.at_ v hv k x hk
/-- When all have been laid out. -/
theorem head_all {m : Nat} {es : List (Nat × Nat)} {hs : List Nat} (h : ∀ e ∈ es, e.1 < m) (hI : HeadI m es es.length hs) {v : Nat} (hv : v < m) : (hs.drop (preE es v)).take (preE es (v + 1) - preE es v) = (outsE es v).reverse := by
  have hsu := preE_succ es v
  have hle := preE_mono es (a := v + 1) (b := m) (by omega)
  have hall := preE_all h
  have hd : preE es (v + 1) - preE es v = degE es v := by omega
  apply List.ext_getElem?
  intro i
  rw [hd]
  rcases Nat.lt_or_ge i (degE es v) with hi | hi
  · rw [List.getElem?_take_of_lt hi, List.getElem?_drop, List.getElem?_reverse hi]
    have hk : degE es v - 1 - i < (outsE es v).length := by show _ < degE es v; omega
    have hx := List.getElem?_eq_getElem hk
    have := hI.at_ v hv (degE es v - 1 - i) _ (by rw [List.take_length]; exact hx)
    rw [show preE es (v + 1) - 1 - (degE es v - 1 - i) = preE es v + i by omega] at this
    rw [this]
    exact hx.symm
  · rw [List.getElem?_eq_none (by rw [List.length_take]; omega), List.getElem?_eq_none (by rw [List.length_reverse]; exact hi)]
/-- The heads, thing by thing. -/
theorem head_flat {m : Nat} {es : List (Nat × Nat)} {hs : List Nat} (h : ∀ e ∈ es, e.1 < m) (hI : HeadI m es es.length hs) : ∀ v, v ≤ m → hs.take (preE es v) = (List.range v).flatMap fun u => (outsE es u).reverse
  | 0, _ => by rw [preE_zero]; rfl
  | v + 1, hv => by
    have ih := head_flat h hI v (by omega)
    have ha := head_all h hI (v := v) (by omega)
    have hsu := preE_succ es v
    rw [List.range_succ, List.flatMap_append, ← ih]
    simp only [List.flatMap_cons, List.flatMap_nil, List.append_nil]
    rw [← ha, ← List.take_add]
    congr 1
    omega
def needs2 (es : List (Nat × Nat)) (c : Nat) : Nat := (es.filter fun e => e.2 == c).length
theorem head_count {m : Nat} {es : List (Nat × Nat)} {hs : List Nat} (h : ∀ e ∈ es, e.1 < m) (hI : HeadI m es es.length hs) (c : Nat) : hs.count c = needs2 es c := by
  have hall := preE_all h
  have hf := head_flat h hI m (Nat.le_refl _)
  rw [hall, List.take_of_length_le (by rw [hI.len]; exact Nat.le_refl _)] at hf
  rw [hf]
  have hs : ∀ v, ((List.range v).flatMap fun u => (outsE es u).reverse).count c = (es.filter fun e => decide (e.1 < v) && (e.2 == c)).length := by
    intro v
    induction v with
    | zero =>
      have : (es.filter fun e => decide (e.1 < 0) && (e.2 == c)) = [] := List.filter_eq_nil_iff.2 (by simp)
      rw [this]
      rfl
    | succ v ih =>
      rw [List.range_succ, List.flatMap_append, List.count_append, ih]
      simp only [List.flatMap_cons, List.flatMap_nil, List.append_nil, List.count_reverse]
      have h1 : (outsE es v).count c = (es.filter fun e => (e.1 == v) && (e.2 == c)).length := by
        unfold outsE
        rw [List.count_eq_countP, List.countP_map, List.countP_filter, List.countP_eq_length_filter]
        congr 1
        exact List.filter_congr fun e _ => by simp [Bool.and_comm]
      rw [h1]
      clear ih h1 hf hI h hall
      induction es with
      | nil => rfl
      | cons e es ih2 =>
        simp only [List.filter_cons]
        by_cases hc : e.2 = c
        · rcases Nat.lt_trichotomy e.1 v with h3 | h3 | h3
          · have a1 : decide (e.1 < v) = true := decide_eq_true h3
            have a2 : decide (e.1 < v + 1) = true := decide_eq_true (by omega)
            have a3 : (e.1 == v) = false := by rw [beq_eq_false_iff_ne]; omega
            simp only [a1, a2, a3, hc, beq_self_eq_true, Bool.and_true, Bool.true_and, Bool.false_and, if_true, List.length_cons]
            simp only [Bool.false_eq_true, if_false]
            omega
          · have a1 : decide (e.1 < v) = false := decide_eq_false (by omega)
            have a2 : decide (e.1 < v + 1) = true := decide_eq_true (by omega)
            have a3 : (e.1 == v) = true := by rw [beq_iff_eq]; omega
            simp only [a1, a2, a3, hc, beq_self_eq_true, Bool.and_true, Bool.true_and, Bool.false_and, if_true, List.length_cons]
            simp only [Bool.false_eq_true, if_false]
            omega
          · have a1 : decide (e.1 < v) = false := decide_eq_false (by omega)
            have a2 : decide (e.1 < v + 1) = false := decide_eq_false (by omega)
            have a3 : (e.1 == v) = false := by rw [beq_eq_false_iff_ne]; omega
            simp only [a1, a2, a3, Bool.false_and, Bool.false_eq_true, if_false]
            omega
        · have a4 : (e.2 == c) = false := by rw [beq_eq_false_iff_ne]; exact hc
          simp only [a4, Bool.and_false, Bool.false_eq_true, if_false]
          omega
  rw [hs m]
  unfold needs2
  congr 1
  exact List.filter_congr fun e he => by rw [decide_eq_true (h e he)]; simp
end Go.Proofs.Yteaencgbgfnokaa
