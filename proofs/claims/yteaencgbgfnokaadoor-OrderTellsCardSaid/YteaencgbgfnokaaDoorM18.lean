/-  -/
import Derived.Test.YteaencgbgfnokaaDoorM16
import Derived.Test.YteaencgbgfnokaaDoorM17
/- The mathematics that line's loops want. -/
set_option linter.unusedVariables false
namespace Go.Proofs.YteaencgbgfnokaaDoor
open Go.ChangeShapes Go.WideShapes Go.ChangeAt Go.RowKit

def readyL (need : Int → List Int) (i : Nat) : List Int := ((List.range i).filter fun u : Nat => (need (u : Int)).length == 0).map fun u : Nat => (u : Int)
theorem readyL_step (need : Int → List Int) (i : Nat) : readyL need (i + 1) = if (need (i : Int)).length = 0 then readyL need i ++ [(i : Int)] else readyL need i := by
  unfold readyL
  rw [List.range_succ, List.filter_append, List.map_append]
  by_cases h : (need (i : Int)).length = 0
  · simp [h]
  · have : ((need (i : Int)).length == 0) = false := by simpa using h
    simp [this, h]
theorem readyL_len (need : Int → List Int) (i : Nat) : (readyL need i).length ≤ i := by
  unfold readyL
  rw [List.length_map]
  exact Nat.le_trans (List.length_filter_le _ _) (by simp)
theorem readyL_heap (need : Int → List Int) (i : Nat) : Heap (readyL need i) (readyL need i).length := by
  have hp : (readyL need i).Pairwise (· < ·) := by
    unfold readyL
    rw [List.pairwise_map]
    refine (List.Pairwise.filter _ List.pairwise_lt_range).imp ?_
    intro a b h
    omega
  refine rising_heap (fun a b hab hb => ?_)
  have h := List.pairwise_iff_getElem.1 hp a b (by omega) hb hab
  rw [List.getD_eq_getElem?_getD, List.getD_eq_getElem?_getD, List.getElem?_eq_getElem (by omega), List.getElem?_eq_getElem hb]
  exact Int.le_of_lt h
theorem readyL_ready (need : Int → List Int) (n : Nat) : Readied need n [] (readyL need n) := by
  constructor
  · intro u hu
    have hc : canB need [] u = ((need (u : Int)).length == 0) := by
      unfold canB
      rw [wait_begin]
      simp
    rw [hc]
    have hnd : (readyL need n).Nodup := by
      unfold readyL
      rw [List.nodup_iff_pairwise_ne, List.pairwise_map]
      refine (List.Pairwise.filter _ List.pairwise_lt_range).imp ?_
      intro a b h
      omega
    by_cases h : (need (u : Int)).length = 0
    · have hm : (u : Int) ∈ readyL need n := by
        unfold readyL
        exact List.mem_map.2 ⟨u, List.mem_filter.2 ⟨List.mem_range.2 hu, by simpa using h⟩, rfl⟩
      rw [if_pos (by simpa using h)]
      have h1 := List.nodup_iff_count.1 hnd (u : Int)
      have h2 := List.count_pos_iff.2 hm
      omega
    · rw [if_neg (by simpa using h)]
      refine List.count_eq_zero.2 (fun hm => ?_)
      unfold readyL at hm
      obtain ⟨v, hv, e⟩ := List.mem_map.1 hm
      obtain rfl : v = u := by omega
      exact h (by simpa using (List.mem_filter.1 hv).2)
  · intro x hx
    unfold readyL at hx
    obtain ⟨v, hv, rfl⟩ := List.mem_map.1 hx
    exact ⟨v, List.mem_range.1 (List.mem_filter.1 hv).1, rfl⟩
theorem ready_len {need : Int → List Int} {n : Nat} {told r : List Int} (h : Readied need n told r) : r.length ≤ n := by
  refine nodup_len (List.nodup_iff_count.2 fun x => ?_) h.2
  by_cases hx : x ∈ r
  · obtain ⟨u, hu, rfl⟩ := h.2 x hx
    rw [h.1 u hu]
    split <;> omega
  · rw [List.count_eq_zero.2 hx]; omega
def outV (ns : Lb) (told : List Int) : List Value := told.map fun u => Value.string (ns.getD u.toNat ByteArray.empty)
theorem outV_snoc (ns : Lb) (told : List Int) (u : Nat) : outV ns (told ++ [(u : Int)]) = outV ns told ++ [.string (ns.getD u ByteArray.empty)] := by simp [outV]
def slLen : Value → Nat
  | .slice _ l _ => l
  | _ => 0
theorem waitsL_full (need : Int → List Int) {n u : Nat} (h : u < n) : (waitsL need n n).getD u 0 = (waitK need [] (u : Int) : Nat) := by
  rw [wait_begin, List.getD_eq_getElem?_getD]
  simp [waitsL, h]
theorem lowered_at {n : Nat} {W0 us W r1 r : List Int} {j v : Nat} (h : Lowered n W0 us j W r1 r) (hj : j < us.length) (hv : v < n) (e : us[j] = (v : Int)) (hb : ((us.count (v : Int) : Nat) : Int) ≤ W0.getD v 0) : 0 < W.getD v 0 ∧ W.getD v 0 ≤ W0.getD v 0 := by
  have h1 := (h.2 v hv).1
  have hc2 := take_count hj (v : Int)
  have hm : (us.take (j + 1)).count (v : Int) ≤ us.count (v : Int) := count_take_le
  rw [e, if_pos rfl] at hc2
  omega
theorem wait_le (need : Int → List Int) (told : List Int) (u : Int) : waitK need told u ≤ (need u).length := List.countP_le_length
end Go.Proofs.YteaencgbgfnokaaDoor
