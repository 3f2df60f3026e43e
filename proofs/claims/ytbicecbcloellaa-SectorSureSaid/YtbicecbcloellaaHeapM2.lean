import Derived.Test.YtbicecbcloellaaHeapM
/- Push and Pop of a heap, as what stands in the list ahead of up and down, and behind them. -/
set_option linter.unusedVariables false
namespace Go.Proofs.Ytbicecbcloellaa

theorem getD_app_lt {a b : List Int} {k : Nat} (h : k < a.length) : (a ++ b).getD k 0 = a.getD k 0 := by
  simp [List.getD_eq_getElem?_getD, List.getElem?_append_left h]
theorem getD_take_lt {a : List Int} {k n : Nat} (h : k < n) : (a.take n).getD k 0 = a.getD k 0 := by
  simp [List.getD_eq_getElem?_getD, h]
/-- What rises is a heap. -/
theorem rising_heap {a : List Int} {n : Nat} (h : ∀ i j, i < j → j < n → a.getD i 0 ≤ a.getD j 0) : Heap a n := fun k h0 hk => h _ _ (by omega) hk
/-- Push, ahead of up. -/
theorem push_begin {a : List Int} {x : Int} (h : Heap a a.length) : HeapU (a ++ [x]) (a.length + 1) a.length := by
  constructor
  · intro k h0 hk hne
    rw [getD_app_lt (by omega), getD_app_lt (by omega)]
    exact h k h0 (by omega)
  · intro k h0 hk hp hj
    omega
/-- Pop, ahead of down. -/
theorem pop_begin {a : List Int} {n : Nat} (hn : n + 1 ≤ a.length) (h : Heap a (n + 1)) : HeapD (swapL a 0 n) n 0 := by
  have g := fun k => swapL_get (a := a) (i := 0) (j := n) (by omega) (by omega) k
  constructor
  · intro k h0 hk hp
    rw [g, g, if_neg (by omega), if_neg hp, if_neg (by omega), if_neg (by omega)]
    exact h k h0 (by omega)
  · intro k h0 hk hp hi
    omega
theorem pop_last {a : List Int} {n : Nat} (hn : n + 1 ≤ a.length) : (swapL a 0 n).getD n 0 = a.getD 0 0 := by
  rw [swapL_get (by omega) (by omega), if_pos rfl]
/-- Pop, behind down: the last is taken off. -/
theorem pop_end {a b : List Int} {n : Nat} (hb : b.length = n + 1) (h : Heap b n) (hc : ∀ x, b.count x = a.count x) (hl : b.getD n 0 = a.getD 0 0) : Heap (b.take n) (b.take n).length ∧ ∀ x, (b.take n).count x + (if a.getD 0 0 = x then 1 else 0) = a.count x := by
  have e : b = b.take n ++ [b.getD n 0] := by
    have h1 : b.take (n + 1) = b := by rw [← hb, List.take_length]
    have h2 := List.take_add_one (l := b) (i := n)
    rw [h1] at h2
    have h3 : b[n]?.toList = [b.getD n 0] := by
      rw [List.getD_eq_getElem?_getD, List.getElem?_eq_getElem (by omega)]
      rfl
    rw [h3] at h2
    exact h2
  have hlen : (b.take n).length = n := by rw [List.length_take]; omega
  constructor
  · intro k h0 hk
    rw [hlen] at hk
    rw [getD_take_lt (by omega), getD_take_lt hk]
    exact h k h0 hk
  · intro x
    rw [← hc x]
    conv => rhs; rw [e]
    rw [List.count_append, List.count_singleton, hl]
    simp
/-- The first of a heap is its least, by what is in it. -/
theorem heap_mem {a : List Int} (h : Heap a a.length) : ∀ x, x ∈ a → a.getD 0 0 ≤ x := by
  intro x hx
  obtain ⟨k, hk, rfl⟩ := List.getElem_of_mem hx
  have := heap_least h k hk
  rwa [List.getD_eq_getElem?_getD (l := a) (i := k), List.getElem?_eq_getElem hk] at this
end Go.Proofs.Ytbicecbcloellaa
