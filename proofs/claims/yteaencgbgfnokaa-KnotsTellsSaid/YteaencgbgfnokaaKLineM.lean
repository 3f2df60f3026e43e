/- The mathematics that the loops of a web's line want. No function of the program is named here. -/
import Derived.Test.YteaencgbgfnokaaKnM2
import Derived.Test.YteaencgbgfnokaaKahn3
import Derived.Test.YteaencgbgfnokaaHp
set_option linter.unusedVariables false
namespace Go.Proofs.Yteaencgbgfnokaa
open Go.ChangeShapes Go.WideShapes Go.ChangeAt Go.RowKit

def readyL (need : Int → List Int) (i : Nat) : List Int := ((List.range i).filter fun u : Nat => (need (u : Int)).length == 0).map fun u : Nat => (u : Int)
theorem readyL_step (need : Int → List Int) (i : Nat) : readyL need (i + 1) = if (need (i : Int)).length = 0 then readyL need i ++ [(i : Int)] else readyL need i := by
  unfold readyL
  rw [List.range_succ, List.filter_append, List.map_append]
  by_cases h : (need (i : Int)).length = 0
  · simp [h]
  · have : ((need (i : Int)).length == 0) = false := by simpa using h
    simp [this, h]
theorem readyL_len (need : Int → List Int) (i : Nat) : (readyL need i).length ≤ i := by
  unfold readyL
  rw [List.length_map]
  exact Nat.le_trans (List.length_filter_le _ _) (by simp)
theorem readyL_heap (need : Int → List Int) (i : Nat) : Heap (readyL need i) (readyL need i).length := by
  have hp : (readyL need i).Pairwise (· < ·) := by
    unfold readyL
    rw [List.pairwise_map]
    refine (List.Pairwise.filter _ List.pairwise_lt_range).imp ?_
    intro a b h
    omega
  refine rising_heap (fun a b hab hb => ?_)
  have h := List.pairwise_iff_getElem.1 hp a b (by omega) hb hab
  rw [List.getD_eq_getElem?_getD, List.getD_eq_getElem?_getD, List.getElem?_eq_getElem (by omega), List.getElem?_eq_getElem hb]
  exact Int.le_of_lt h
theorem readyL_ready (need : Int → List Int) (n : Nat) : Readied need n [] (readyL need n) := by
  constructor
  · intro u hu
    have hc : canB need [] u = ((need (u : Int)).length == 0) := by
      unfold canB
      rw [wait_begin]
      simp
    rw [hc]
    have hnd : (readyL need n).Nodup := by
      unfold readyL
      rw [List.nodup_iff_pairwise_ne, List.pairwise_map]
      refine (List.Pairwise.filter _ List.pairwise_lt_range).imp ?_
      intro a b h
      omega
    by_cases h : (need (u : Int)).length = 0
    · have hm : (u : Int) ∈ readyL need n := by
        unfold readyL
        exact List.mem_map.2 ⟨u, List.mem_filter.2 ⟨List.mem_range.2 hu, by simpa using h⟩, rfl⟩
      rw [if_pos (by simpa using h)]
      have h1 := List.nodup_iff_count.1 hnd (u : Int)
      have h2 := List.count_pos_iff.2 hm
      omega
    · rw [if_neg (by simpa using h)]
      refine List.count_eq_zero.2 (fun hm => ?_)
      unfold readyL at hm
      obtain ⟨v, hv, e⟩ := List.mem_map.1 hm
      obtain rfl : v = u := by omega
      exact h (by simpa using (List.mem_filter.1 hv).2)
  · intro x hx
    unfold readyL at hx
    obtain ⟨v, hv, rfl⟩ := List.mem_map.1 hx
    exact ⟨v, List.mem_range.1 (List.mem_filter.1 hv).1, rfl⟩
theorem ready_len {need : Int → List Int} {n : Nat} {told r : List Int} (h : Readied need n told r) : r.length ≤ n := by
  refine nodup_len (List.nodup_iff_count.2 fun x => ?_) h.2
  by_cases hx : x ∈ r
  · obtain ⟨u, hu, rfl⟩ := h.2 x hx
    rw [h.1 u hu]
    split <;> omega
  · rw [List.count_eq_zero.2 hx]; omega
def slLen : Value → Nat
  | .slice _ l _ => l
  | _ => 0
theorem lowered_at {n : Nat} {W0 us W r1 r : List Int} {j v : Nat} (h : Lowered n W0 us j W r1 r) (hj : j < us.length) (hv : v < n) (e : us[j] = (v : Int)) (hb : ((us.count (v : Int) : Nat) : Int) ≤ W0.getD v 0) : 0 < W.getD v 0 ∧ W.getD v 0 ≤ W0.getD v 0 := by
  have h1 := (h.2 v hv).1
  have hc2 := take_count hj (v : Int)
  have hm : (us.take (j + 1)).count (v : Int) ≤ us.count (v : Int) := count_take_le
  rw [e, if_pos rfl] at hc2
  omega
theorem wait_le (need : Int → List Int) (told : List Int) (u : Int) : waitK need told u ≤ (need u).length := List.countP_le_length


theorem needE_len (es : List (Nat × Nat)) (c : Nat) : (needE es (c : Int)).length = needs2 es c := by
  unfold needE needs2
  rw [List.length_map]
  congr 1
  exact List.filter_congr fun e _ => by
    rw [Bool.eq_iff_iff, beq_iff_eq, beq_iff_eq]
    omega
theorem outs_count (es : List (Nat × Nat)) (u c : Nat) : ((outsE es u).reverse.map fun x : Nat => (x : Int)).count (c : Int) = (needE es (c : Int)).count (u : Int) := by
  have h1 : ((outsE es u).reverse.map fun x : Nat => (x : Int)).count (c : Int) = (es.filter fun e => (e.1 == u) && (e.2 == c)).length := by
    unfold outsE
    rw [← List.map_reverse, List.map_map, List.count_eq_countP, List.countP_map, List.countP_reverse, List.countP_filter, List.countP_eq_length_filter]
    congr 1
    exact List.filter_congr fun e _ => by
      rw [Bool.eq_iff_iff]
      simp only [Function.comp_apply, Bool.and_eq_true, beq_iff_eq]
      omega
  have h2 : (needE es (c : Int)).count (u : Int) = (es.filter fun e => (e.1 == u) && (e.2 == c)).length := by
    unfold needE
    rw [List.count_eq_countP, List.countP_map, List.countP_filter, List.countP_eq_length_filter]
    congr 1
    exact List.filter_congr fun e _ => by
      rw [Bool.eq_iff_iff]
      simp only [Function.comp_apply, Bool.and_eq_true, beq_iff_eq]
      omega
  rw [h1, h2]
/-- How often each has been counted. -/
def cntL (H : List Nat) (m j : Nat) : List Int := (List.range m).map fun v => (((H.take j).count v : Nat) : Int)
theorem cntL_len (H : List Nat) (m j : Nat) : (cntL H m j).length = m := by simp [cntL]
theorem cntL_at (H : List Nat) {m j v : Nat} (h : v < m) : (cntL H m j).getD v 0 = (((H.take j).count v : Nat) : Int) := by simp [cntL, List.getD_eq_getElem?_getD, h]
theorem cntL_step {H : List Nat} {m j x : Nat} (hx : H[j]? = some x) (hm : x < m) : (cntL H m j).set x ((((H.take j).count x : Nat) : Int) + 1) = cntL H m (j + 1) := by
  apply List.ext_getElem?
  intro v
  by_cases hv : v < m
  · have hr : (cntL H m (j + 1))[v]? = some (((H.take (j + 1)).count v : Nat) : Int) := by simp [cntL, hv]
    rw [hr, List.take_add_one, hx]
    by_cases e : x = v
    · subst e
      rw [List.getElem?_set_self (by rw [cntL_len]; exact hm)]
      simp [List.count_append]
    · rw [List.getElem?_set_ne e]
      have : (H.take j ++ (some x).toList).count v = (H.take j).count v := by
        rw [List.count_append]
        simp [e]
      rw [this]
      simp [cntL, hv]
  · rw [List.getElem?_eq_none (by rw [List.length_set, cntL_len]; omega), List.getElem?_eq_none (by rw [cntL_len]; omega)]
theorem cntL_zero (H : List Nat) (m : Nat) : cntL H m 0 = List.replicate m 0 := by
  apply List.ext_getElem?
  intro v
  by_cases hv : v < m
  · simp [cntL, hv]
  · rw [List.getElem?_eq_none (by rw [cntL_len]; omega), List.getElem?_eq_none (by simp; omega)]
end Go.Proofs.Yteaencgbgfnokaa
