import Derived.Test.YteaencgbgfnokaaHeapM2
/- The order of places: again and again the least of those whose needs have all been told; and the bookkeeping of who waits for how many. -/
set_option linter.unusedVariables false
namespace Go.Proofs.Yteaencgbgfnokaa

/-- How many of u's needs haven't been told. -/
def waitK (need : Int → List Int) (told : List Int) (u : Int) : Nat := (need u).countP (fun d => !told.contains d)
/-- May u be told next? -/
def canB (need : Int → List Int) (told : List Int) (u : Nat) : Bool := !told.contains (u : Int) && waitK need told u == 0
/-- The least of those that may. -/
def nextK (need : Int → List Int) (n : Nat) (told : List Int) : Option Nat := (List.range n).find? (canB need told)
/-- The order, from what has been told on. -/
def lineK (need : Int → List Int) (n : Nat) : Nat → List Int → List Int
  | 0, told => told
  | f + 1, told => match nextK need n told with
    | none => told
    | some u => lineK need n f (told ++ [(u : Int)])
theorem count_step (told : List Int) (i : Int) (hi : i ∉ told) : ∀ l : List Int, l.countP (fun d => !told.contains d) = l.countP (fun d => !(told ++ [i]).contains d) + l.count i := by
  intro l
  induction l with
  | nil => rfl
  | cons d l ih =>
    rw [List.countP_cons, List.countP_cons, List.count_cons, ih]
    by_cases h : d = i
    · subst h
      simp [hi]
      omega
    · simp [h]
      omega
theorem wait_step {need : Int → List Int} {told : List Int} {i : Int} (hi : i ∉ told) (u : Int) : waitK need told u = waitK need (told ++ [i]) u + (need u).count i := count_step told i hi (need u)
theorem wait_begin (need : Int → List Int) (u : Int) : waitK need [] u = (need u).length := by
  unfold waitK
  rw [List.countP_eq_length]
  intro d _
  rfl
/-- What stands ready: each that may be told next, once. -/
def Readied (need : Int → List Int) (n : Nat) (told r : List Int) : Prop := (∀ u : Nat, u < n → r.count (u : Int) = if canB need told u then 1 else 0) ∧ ∀ x ∈ r, ∃ u : Nat, u < n ∧ x = (u : Int)
theorem ready_none {need : Int → List Int} {n : Nat} {told : List Int} (h : Readied need n told []) : nextK need n told = none := by
  unfold nextK
  rw [List.find?_eq_none]
  intro u hu hc
  have := h.1 u (List.mem_range.1 hu)
  rw [if_pos hc] at this
  simp at this
theorem find_range {p : Nat → Bool} {n u : Nat} (hu : u < n) (hp : p u = true) (hl : ∀ k, k < u → p k = false) : (List.range n).find? p = some u := by
  rw [List.find?_eq_some_iff_append]
  refine ⟨hp, List.range u, (List.range (n - u - 1)).map (fun k => u + 1 + k), ?_, ?_⟩
  · apply List.ext_getElem
    · simp; omega
    · intro k h1 h2
      simp only [List.getElem_range, List.getElem_append, List.length_range, List.getElem_cons, List.getElem_map]
      split
      · rfl
      · split <;> omega
  · intro k hk
    rw [hl k (List.mem_range.1 hk)]
    rfl
theorem ready_next {need : Int → List Int} {n : Nat} {told r : List Int} (h : Readied need n told r) (hh : Heap r r.length) (h0 : r ≠ []) : ∃ u : Nat, u < n ∧ r.getD 0 0 = (u : Int) ∧ nextK need n told = some u ∧ canB need told u = true := by
  obtain ⟨x, l, rfl⟩ := List.exists_cons_of_ne_nil h0
  obtain ⟨u, hu, rfl⟩ := h.2 x (by simp)
  have hc : canB need told u = true := by
    have h1 := h.1 u hu
    by_cases c : canB need told u = true
    · exact c
    · rw [if_neg c] at h1
      simp at h1
  refine ⟨u, hu, rfl, find_range hu hc fun k hk => ?_, hc⟩
  by_cases c : canB need told k = true
  · have h1 := h.1 k (by omega)
    rw [if_pos c] at h1
    have h2 : (k : Int) ∈ ((u : Int) :: l) := List.count_pos_iff.1 (by omega)
    have h3 := heap_mem hh _ h2
    simp only [List.getD_cons_zero] at h3
    omega
  · simpa using c
/-- One is told: whose waiting that ends stands ready behind it. -/
theorem ready_step {need : Int → List Int} {n : Nat} {told r r1 r2 : List Int} {i : Nat} (h : Readied need n told r) (hi : i < n) (hc : canB need told i = true) (hw : ∀ t ∈ told, waitK need told t = 0)
    (h1 : ∀ x, r1.count x + (if (i : Int) = x then 1 else 0) = r.count x)
    (h2 : ∀ u : Nat, u < n → r2.count (u : Int) = r1.count (u : Int) + if 0 < waitK need told u ∧ waitK need (told ++ [(i : Int)]) u = 0 then 1 else 0) (h3 : ∀ x ∈ r2, ∃ u : Nat, u < n ∧ x = (u : Int)) : Readied need n (told ++ [(i : Int)]) r2 ∧ ∀ t ∈ told ++ [(i : Int)], waitK need (told ++ [(i : Int)]) t = 0 := by
  have hnt : (i : Int) ∉ told := by
    intro hm
    unfold canB at hc
    simp [hm] at hc
  have hi0 : waitK need told (i : Int) = 0 := by
    unfold canB at hc
    simp at hc
    exact hc.2
  have st := fun u => wait_step (need := need) hnt u
  refine ⟨⟨fun u hu => ?_, h3⟩, ?_⟩
  · have a := h1 (u : Int)
    have b := h2 u hu
    have c := h.1 u hu
    have s := st (u : Int)
    by_cases hiu : i = u
    · subst hiu
      have cn : canB need (told ++ [(i : Int)]) i = false := by simp [canB]
      rw [cn]
      rw [if_pos hc] at c
      rw [if_pos rfl] at a
      rw [if_neg (by omega)] at b
      simp only [Bool.false_eq_true, if_false]
      omega
    · rw [if_neg (by omega)] at a
      by_cases hm : (u : Int) ∈ told
      · have e1 : canB need told u = false := by simp [canB, hm]
        have e2 : canB need (told ++ [(i : Int)]) u = false := by simp [canB, hm]
        have e3 := hw _ hm
        rw [e1] at c
        rw [e2]
        rw [if_neg (by omega)] at b
        simp only [Bool.false_eq_true, if_false] at c ⊢
        omega
      · have e1 : canB need told u = (waitK need told u == 0) := by simp [canB, hm]
        have e2 : canB need (told ++ [(i : Int)]) u = (waitK need (told ++ [(i : Int)]) u == 0) := by
          have : ¬ (u : Int) = (i : Int) := by omega
          simp [canB, hm, this]
        rw [e1] at c
        rw [e2]
        by_cases z : waitK need told (u : Int) = 0
        · have z2 : waitK need (told ++ [(i : Int)]) (u : Int) = 0 := by omega
          rw [if_neg (by omega)] at b
          rw [z] at c
          rw [z2]
          simp only [beq_self_eq_true, if_true] at c ⊢
          omega
        · have e4 : (waitK need told (u : Int) == 0) = false := by simpa using z
          rw [e4] at c
          simp only [Bool.false_eq_true, if_false] at c
          by_cases z2 : waitK need (told ++ [(i : Int)]) (u : Int) = 0
          · rw [if_pos ⟨by omega, z2⟩] at b
            rw [z2]
            simp only [beq_self_eq_true, if_true]
            omega
          · rw [if_neg (fun e => z2 e.2)] at b
            have e5 : (waitK need (told ++ [(i : Int)]) (u : Int) == 0) = false := by simpa using z2
            rw [e5]
            simp only [Bool.false_eq_true, if_false]
            omega
  · intro t ht
    have s := st t
    rcases List.mem_append.1 ht with ht | ht
    · have := hw t ht
      omega
    · obtain rfl : t = (i : Int) := by simpa using ht
      omega
end Go.Proofs.Yteaencgbgfnokaa
