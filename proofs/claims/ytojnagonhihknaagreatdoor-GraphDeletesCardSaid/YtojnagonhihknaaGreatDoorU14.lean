/- The mathematics of a heap in a list of ints: down and up (as9 container/heap walks them) keep what is in it, and mend its order.   -/
set_option linter.unusedVariables false
namespace Go.Proofs.YtojnagonhihknaaGreatDoor

def swapL (a : List Int) (i j : Nat) : List Int := (a.set i (a.getD j 0)).set j (a.getD i 0)
theorem swapL_len (a : List Int) (i j : Nat) : (swapL a i j).length = a.length := by simp [swapL]
theorem swapL_get {a : List Int} {i j : Nat} (hi : i < a.length) (hj : j < a.length) (k : Nat) : (swapL a i j).getD k 0 = if k = j then a.getD i 0 else if k = i then a.getD j 0 else a.getD k 0 := by
  unfold swapL
  simp only [List.getD_eq_getElem?_getD, List.getElem?_set, List.length_set]
  by_cases h1 : k = j
  · subst h1
    rw [if_pos rfl, if_pos rfl, if_pos hj]
    simp
  · rw [if_neg (fun e => h1 e.symm), if_neg h1]
    by_cases h2 : k = i
    · subst h2
      rw [if_pos rfl, if_pos rfl, if_pos hi]
      simp
    · rw [if_neg (fun e => h2 e.symm), if_neg h2]
theorem swapL_count {a : List Int} {i j : Nat} (hi : i < a.length) (hj : j < a.length) (x : Int) : (swapL a i j).count x = a.count x := by
  unfold swapL
  have hj' : j < (a.set i (a.getD j 0)).length := by simpa using hj
  rw [List.count_set hj', List.count_set hi]
  have e1 : (a.set i (a.getD j 0))[j] = if i = j then a.getD j 0 else a[j] := by
    rw [List.getElem_set]
  have e2 : a.getD j 0 = a[j] := by simp [List.getD_eq_getElem?_getD, hj]
  have e3 : a.getD i 0 = a[i] := by simp [List.getD_eq_getElem?_getD, hi]
  rw [e1, e2, e3]
  have p1 : a[i] = x → 1 ≤ a.count x := fun h => List.count_pos_iff.2 (h ▸ List.getElem_mem hi)
  have p2 : a[j] = x → 1 ≤ a.count x := fun h => List.count_pos_iff.2 (h ▸ List.getElem_mem hj)
  by_cases h : i = j
  · subst h
    simp only [if_true]
    by_cases hx : a[i] = x
    · have := p1 hx; simp [hx]; omega
    · simp [hx]
  · rw [if_neg h]
    by_cases hx : a[i] = x <;> by_cases hy : a[j] = x
    · have := p1 hx; simp [hx, hy]; omega
    · have := p1 hx; simp [hx, hy]; omega
    · have := p2 hy; simp [hx, hy]
    · simp [hx, hy]

def Heap (a : List Int) (n : Nat) : Prop := ∀ k, 0 < k → k < n → a.getD ((k - 1) / 2) 0 ≤ a.getD k 0
def HeapD (a : List Int) (n i : Nat) : Prop := (∀ k, 0 < k → k < n → (k - 1) / 2 ≠ i → a.getD ((k - 1) / 2) 0 ≤ a.getD k 0) ∧ (∀ k, 0 < k → k < n → (k - 1) / 2 = i → 0 < i → a.getD ((i - 1) / 2) 0 ≤ a.getD k 0)
def HeapU (a : List Int) (n j : Nat) : Prop := (∀ k, 0 < k → k < n → k ≠ j → a.getD ((k - 1) / 2) 0 ≤ a.getD k 0) ∧ (∀ k, 0 < k → k < n → (k - 1) / 2 = j → 0 < j → a.getD ((j - 1) / 2) 0 ≤ a.getD k 0)
theorem heap_least {a : List Int} {n : Nat} (h : Heap a n) : ∀ k, k < n → a.getD 0 0 ≤ a.getD k 0 := by
  intro k
  induction k using Nat.strongRecOn with
  | _ k ih =>
    intro hk
    rcases Nat.eq_zero_or_pos k with rfl | h0
    · exact Int.le_refl _
    · exact Int.le_trans (ih ((k - 1) / 2) (by omega) (by omega)) (h k h0 hk)
def child (a : List Int) (n i : Nat) : Nat := if 2 * i + 2 < n ∧ a.getD (2 * i + 2) 0 < a.getD (2 * i + 1) 0 then 2 * i + 2 else 2 * i + 1
theorem down_end {a : List Int} {n i : Nat} (h : HeapD a n i) (he : n ≤ 2 * i + 1 ∨ ¬ a.getD (child a n i) 0 < a.getD i 0) : Heap a n := by
  intro k h0 hk
  by_cases hp : (k - 1) / 2 = i
  · rcases he with he | he
    · omega
    · unfold child at he
      rw [hp]
      have hk2 : k = 2 * i + 1 ∨ k = 2 * i + 2 := by omega
      split at he
      · rename_i hc
        rcases hk2 with rfl | rfl
        · have := hc.2; omega
        · omega
      · rename_i hc
        rcases hk2 with rfl | rfl
        · omega
        · have : ¬ a.getD (2 * i + 2) 0 < a.getD (2 * i + 1) 0 := fun e => hc ⟨hk, e⟩
          omega
  · exact h.1 k h0 hk hp
theorem down_step {a : List Int} {n i : Nat} (hn : n ≤ a.length) (h : HeapD a n i) (hc : 2 * i + 1 < n) (hl : a.getD (child a n i) 0 < a.getD i 0) : HeapD (swapL a i (child a n i)) n (child a n i) := by
  have hcn : child a n i < n := by unfold child; split <;> omega
  have hci : child a n i = 2 * i + 1 ∨ child a n i = 2 * i + 2 := by unfold child; split <;> simp
  have hmin : ∀ k, k < n → (k = 2 * i + 1 ∨ k = 2 * i + 2) → a.getD (child a n i) 0 ≤ a.getD k 0 := by
    intro k hk hk2
    unfold child
    split
    · rename_i hc2
      rcases hk2 with rfl | rfl
      · have := hc2.2; omega
      · exact Int.le_refl _
    · rename_i hc2
      rcases hk2 with rfl | rfl
      · exact Int.le_refl _
      · have : ¬ a.getD (2 * i + 2) 0 < a.getD (2 * i + 1) 0 := fun e => hc2 ⟨hk, e⟩
        omega
  obtain ⟨c, hcc⟩ : ∃ c, c = child a n i := ⟨_, rfl⟩
  rw [← hcc] at hcn hci hmin hl ⊢
  have g := fun k => swapL_get (a := a) (i := i) (j := c) (by omega) (by omega) k
  constructor
  · intro k h0 hk hp
    rw [g, g]
    have hpc : (k - 1) / 2 ≠ c := hp
    rw [if_neg hpc]
    by_cases h1 : k = c
    · subst h1
      have e : (k - 1) / 2 = i := by omega
      rw [if_pos rfl, if_pos e]
      omega
    · rw [if_neg h1]
      by_cases h2 : k = i
      · subst h2
        rw [if_pos rfl, if_neg (by omega)]
        exact h.2 c (by omega) hcn (by omega) h0
      · rw [if_neg h2]
        by_cases h3 : (k - 1) / 2 = i
        · rw [if_pos h3]
          exact hmin k hk (by omega)
        · rw [if_neg h3]
          exact h.1 k h0 hk h3
  · intro k h0 hk hp hc0
    rw [g, g]
    have e : (c - 1) / 2 = i := by omega
    rw [e, if_neg (by omega), if_pos rfl, if_neg (by omega), if_neg (by omega)]
    have := h.1 k h0 hk (by omega)
    rw [hp] at this
    exact this
theorem up_end {a : List Int} {n j : Nat} (h : HeapU a n j) (he : j = 0 ∨ ¬ a.getD j 0 < a.getD ((j - 1) / 2) 0) : Heap a n := by
  intro k h0 hk
  by_cases hp : k = j
  · subst hp
    rcases he with he | he <;> omega
  · exact h.1 k h0 hk hp
theorem up_step {a : List Int} {n j : Nat} (hn : n ≤ a.length) (h : HeapU a n j) (hj : j < n) (h0 : 0 < j) (hl : a.getD j 0 < a.getD ((j - 1) / 2) 0) : HeapU (swapL a ((j - 1) / 2) j) n ((j - 1) / 2) := by
  obtain ⟨i, hi⟩ : ∃ i, i = (j - 1) / 2 := ⟨_, rfl⟩
  rw [← hi] at hl ⊢
  have g := fun k => swapL_get (a := a) (i := i) (j := j) (by omega) (by omega) k
  constructor
  · intro k k0 hk hp
    rw [g, g]
    by_cases h1 : k = j
    · subst h1
      rw [if_pos rfl, ← hi, if_neg (by omega), if_pos rfl]
      omega
    · rw [if_neg h1, if_neg hp]
      by_cases h2 : (k - 1) / 2 = j
      · rw [if_pos h2]
        have := h.2 k k0 hk h2 h0
        rw [← hi] at this
        exact this
      · rw [if_neg h2]
        by_cases h3 : (k - 1) / 2 = i
        · rw [if_pos h3]
          have := h.1 k k0 hk h1
          rw [h3] at this
          omega
        · rw [if_neg h3]
          exact h.1 k k0 hk h1
  · intro k k0 hk hp hi0
    rw [g, g]
    have h5 := h.1 i hi0 (by omega) (by omega)
    rw [if_neg (by omega), if_neg (by omega)]
    by_cases h1 : k = j
    · subst h1
      rw [if_pos rfl]
      exact h5
    · rw [if_neg h1, if_neg (by omega)]
      have h6 := h.1 k k0 hk h1
      rw [hp] at h6
      omega
end Go.Proofs.YtojnagonhihknaaGreatDoor
/- Push and Pop of a heap, as9 what stands in the list ahead of up and down, and behind them. -/
set_option linter.unusedVariables false
namespace Go.Proofs.YtojnagonhihknaaGreatDoor

theorem getD_app_lt {a b : List Int} {k : Nat} (h : k < a.length) : (a ++ b).getD k 0 = a.getD k 0 := by
  simp [List.getD_eq_getElem?_getD, List.getElem?_append_left h]
theorem getD_take_lt {a : List Int} {k n : Nat} (h : k < n) : (a.take n).getD k 0 = a.getD k 0 := by
  simp [List.getD_eq_getElem?_getD, h]
theorem rising_heap {a : List Int} {n : Nat} (h : ∀ i j, i < j → j < n → a.getD i 0 ≤ a.getD j 0) : Heap a n := fun k h0 hk => h _ _ (by omega) hk
theorem push_begin {a : List Int} {x : Int} (h : Heap a a.length) : HeapU (a ++ [x]) (a.length + 1) a.length := by
  constructor
  · intro k h0 hk hne
    rw [getD_app_lt (by omega), getD_app_lt (by omega)]
    exact h k h0 (by omega)
  · intro k h0 hk hp hj
    omega
theorem pop_begin {a : List Int} {n : Nat} (hn : n + 1 ≤ a.length) (h : Heap a (n + 1)) : HeapD (swapL a 0 n) n 0 := by
  have g := fun k => swapL_get (a := a) (i := 0) (j := n) (by omega) (by omega) k
  constructor
  · intro k h0 hk hp
    rw [g, g, if_neg (by omega), if_neg hp, if_neg (by omega), if_neg (by omega)]
    exact h k h0 (by omega)
  · intro k h0 hk hp hi
    omega
theorem pop_last {a : List Int} {n : Nat} (hn : n + 1 ≤ a.length) : (swapL a 0 n).getD n 0 = a.getD 0 0 := by
  rw [swapL_get (by omega) (by omega), if_pos rfl]
theorem pop_end {a b : List Int} {n : Nat} (hb : b.length = n + 1) (h : Heap b n) (hc : ∀ x, b.count x = a.count x) (hl : b.getD n 0 = a.getD 0 0) : Heap (b.take n) (b.take n).length ∧ ∀ x, (b.take n).count x + (if a.getD 0 0 = x then 1 else 0) = a.count x := by
  have e : b = b.take n ++ [b.getD n 0] := by
    have h1 : b.take (n + 1) = b := by rw [← hb, List.take_length]
    have h2 := List.take_add_one (l := b) (i := n)
    rw [h1] at h2
    have h3 : b[n]?.toList = [b.getD n 0] := by
      rw [List.getD_eq_getElem?_getD, List.getElem?_eq_getElem (by omega)]
      rfl
    rw [h3] at h2
    exact h2
  have hlen : (b.take n).length = n := by rw [List.length_take]; omega
  constructor
  · intro k h0 hk
    rw [hlen] at hk
    rw [getD_take_lt (by omega), getD_take_lt hk]
    exact h k h0 hk
  · intro x
    rw [← hc x]
    conv => rhs; rw [e]
    rw [List.count_append, List.count_singleton, hl]
    simp
theorem heap_mem {a : List Int} (h : Heap a a.length) : ∀ x, x ∈ a → a.getD 0 0 ≤ x := by
  intro x hx
  obtain ⟨k, hk, rfl⟩ := List.getElem_of_mem hx
  have := heap_least h k hk
  rwa [List.getD_eq_getElem?_getD (l := a) (i := k), List.getElem?_eq_getElem hk] at this
end Go.Proofs.YtojnagonhihknaaGreatDoor
/- The order of places: again and again the least of those whose needs have all been told; and the bookkeeping of who waits for how many. -/
set_option linter.unusedVariables false
namespace Go.Proofs.YtojnagonhihknaaGreatDoor

def waitK (need : Int → List Int) (told : List Int) (u : Int) : Nat := (need u).countP (fun d => !told.contains d)
def canB (need : Int → List Int) (told : List Int) (u : Nat) : Bool := !told.contains (u : Int) && waitK need told u == 0
def nextK (need : Int → List Int) (n : Nat) (told : List Int) : Option Nat := (List.range n).find? (canB need told)
theorem count_step (told : List Int) (i : Int) (hi : i ∉ told) : ∀ l : List Int, l.countP (fun d => !told.contains d) = l.countP (fun d => !(told ++ [i]).contains d) + l.count i := by
  intro l
  induction l with
  | nil => rfl
  | cons d l ih =>
    rw [List.countP_cons, List.countP_cons, List.count_cons, ih]
    by_cases h : d = i
    · subst h
      simp [hi]
      omega
    · simp [h]
      omega
theorem wait_step {need : Int → List Int} {told : List Int} {i : Int} (hi : i ∉ told) (u : Int) : waitK need told u = waitK need (told ++ [i]) u + (need u).count i := count_step told i hi (need u)
theorem wait_begin (need : Int → List Int) (u : Int) : waitK need [] u = (need u).length := by
  unfold waitK
  rw [List.countP_eq_length]
  intro d _
  rfl
def Readied (need : Int → List Int) (n : Nat) (told r : List Int) : Prop := (∀ u : Nat, u < n → r.count (u : Int) = if canB need told u then 1 else 0) ∧ ∀ x ∈ r, ∃ u : Nat, u < n ∧ x = (u : Int)
theorem ready_none {need : Int → List Int} {n : Nat} {told : List Int} (h : Readied need n told []) : nextK need n told = none := by
  unfold nextK
  rw [List.find?_eq_none]
  intro u hu hc
  have := h.1 u (List.mem_range.1 hu)
  rw [if_pos hc] at this
  simp at this
theorem find_range {p : Nat → Bool} {n u : Nat} (hu : u < n) (hp : p u = true) (hl : ∀ k, k < u → p k = false) : (List.range n).find? p = some u := by
  rw [List.find?_eq_some_iff_append]
  refine ⟨hp, List.range u, (List.range (n - u - 1)).map (fun k => u + 1 + k), ?_, ?_⟩
  · apply List.ext_getElem
    · simp; omega
    · intro k h1 h2
      simp only [List.getElem_range, List.getElem_append, List.length_range, List.getElem_cons, List.getElem_map]
      split
      · rfl
      · split <;> omega
  · intro k hk
    rw [hl k (List.mem_range.1 hk)]
    rfl
theorem ready_next {need : Int → List Int} {n : Nat} {told r : List Int} (h : Readied need n told r) (hh : Heap r r.length) (h0 : r ≠ []) : ∃ u : Nat, u < n ∧ r.getD 0 0 = (u : Int) ∧ nextK need n told = some u ∧ canB need told u = true := by
  obtain ⟨x, l, rfl⟩ := List.exists_cons_of_ne_nil h0
  obtain ⟨u, hu, rfl⟩ := h.2 x (by simp)
  have hc : canB need told u = true := by
    have h1 := h.1 u hu
    by_cases c : canB need told u = true
    · exact c
    · rw [if_neg c] at h1
      simp at h1
  refine ⟨u, hu, rfl, find_range hu hc fun k hk => ?_, hc⟩
  by_cases c : canB need told k = true
  · have h1 := h.1 k (by omega)
    rw [if_pos c] at h1
    have h2 : (k : Int) ∈ ((u : Int) :: l) := List.count_pos_iff.1 (by omega)
    have h3 := heap_mem hh _ h2
    simp only [List.getD_cons_zero] at h3
    omega
  · simpa using c
theorem ready_step {need : Int → List Int} {n : Nat} {told r r1 r2 : List Int} {i : Nat} (h : Readied need n told r) (hi : i < n) (hc : canB need told i = true) (hw : ∀ t ∈ told, waitK need told t = 0)
    (h1 : ∀ x, r1.count x + (if (i : Int) = x then 1 else 0) = r.count x)
    (h2 : ∀ u : Nat, u < n → r2.count (u : Int) = r1.count (u : Int) + if 0 < waitK need told u ∧ waitK need (told ++ [(i : Int)]) u = 0 then 1 else 0) (h3 : ∀ x ∈ r2, ∃ u : Nat, u < n ∧ x = (u : Int)) : Readied need n (told ++ [(i : Int)]) r2 ∧ ∀ t ∈ told ++ [(i : Int)], waitK need (told ++ [(i : Int)]) t = 0 := by
  have hnt : (i : Int) ∉ told := by
    intro hm
    unfold canB at hc
    simp [hm] at hc
  have hi0 : waitK need told (i : Int) = 0 := by
    unfold canB at hc
    simp at hc
    exact hc.2
  have st := fun u => wait_step (need := need) hnt u
  refine ⟨⟨fun u hu => ?_, h3⟩, ?_⟩
  · have a := h1 (u : Int)
    have b := h2 u hu
    have c := h.1 u hu
    have s := st (u : Int)
    by_cases hiu : i = u
    · subst hiu
      have cn : canB need (told ++ [(i : Int)]) i = false := by simp [canB]
      rw [cn]
      rw [if_pos hc] at c
      rw [if_pos rfl] at a
      rw [if_neg (by omega)] at b
      simp only [Bool.false_eq_true, if_false]
      omega
    · rw [if_neg (by omega)] at a
      by_cases hm : (u : Int) ∈ told
      · have e1 : canB need told u = false := by simp [canB, hm]
        have e2 : canB need (told ++ [(i : Int)]) u = false := by simp [canB, hm]
        have e3 := hw _ hm
        rw [e1] at c
        rw [e2]
        rw [if_neg (by omega)] at b
        simp only [Bool.false_eq_true, if_false] at c ⊢
        omega
      · have e1 : canB need told u = (waitK need told u == 0) := by simp [canB, hm]
        have e2 : canB need (told ++ [(i : Int)]) u = (waitK need (told ++ [(i : Int)]) u == 0) := by
          have : ¬ (u : Int) = (i : Int) := by omega
          simp [canB, hm, this]
        rw [e1] at c
        rw [e2]
        by_cases z : waitK need told (u : Int) = 0
        · have z2 : waitK need (told ++ [(i : Int)]) (u : Int) = 0 := by omega
          rw [if_neg (by omega)] at b
          rw [z] at c
          rw [z2]
          simp only [beq_self_eq_true, if_true] at c ⊢
          omega
        · have e4 : (waitK need told (u : Int) == 0) = false := by simpa using z
          rw [e4] at c
          simp only [Bool.false_eq_true, if_false] at c
          by_cases z2 : waitK need (told ++ [(i : Int)]) (u : Int) = 0
          · rw [if_pos ⟨by omega, z2⟩] at b
            rw [z2]
            simp only [beq_self_eq_true, if_true]
            omega
          · rw [if_neg (fun e => z2 e.2)] at b
            have e5 : (waitK need (told ++ [(i : Int)]) (u : Int) == 0) = false := by simpa using z2
            rw [e5]
            simp only [Bool.false_eq_true, if_false]
            omega
  · intro t ht
    have s := st t
    rcases List.mem_append.1 ht with ht | ht
    · have := hw t ht
      omega
    · obtain rfl : t = (i : Int) := by simpa using ht
      omega
end Go.Proofs.YtojnagonhihknaaGreatDoor
