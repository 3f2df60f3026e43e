import Derived.Test.YteaencgbgfnokaaKahn2
/- Behind one that is told: its users wait for one less each; whose waiting that ends is pushed. One round of that loop. -/
set_option linter.unusedVariables false
namespace Go.Proofs.Yteaencgbgfnokaa

/-- j of the users us have been gone through: what each waits for (from W0 to W), what stands ready (from r1 to r). -/
def Lowered (n : Nat) (W0 us : List Int) (j : Nat) (W r1 r : List Int) : Prop := W.length = n ∧ ∀ u : Nat, u < n → W.getD u 0 = W0.getD u 0 - ((us.take j).count (u : Int) : Nat) ∧ r.count (u : Int) = r1.count (u : Int) + if 0 < W0.getD u 0 ∧ W.getD u 0 = 0 then 1 else 0
theorem lowered_begin {n : Nat} {W0 us r1 : List Int} (h : W0.length = n) : Lowered n W0 us 0 W0 r1 r1 := by
  refine ⟨h, fun u hu => ?_⟩
  rw [if_neg (by omega)]
  simp
theorem count_take_le {us : List Int} {j : Nat} {x : Int} : (us.take j).count x ≤ us.count x := (List.take_sublist j us).count_le x
theorem take_count {us : List Int} {j : Nat} (hj : j < us.length) (x : Int) : (us.take (j + 1)).count x = (us.take j).count x + if us[j] = x then 1 else 0 := by
  rw [List.take_add_one, List.getElem?_eq_getElem hj, List.count_append]
  by_cases h : us[j] = x <;> simp [h]
theorem lowered_step {n : Nat} {W0 us W r1 r r' : List Int} {j v : Nat} (h : Lowered n W0 us j W r1 r) (hj : j < us.length) (hv : v < n) (e : us[j] = (v : Int)) (hb : ((us.count (v : Int) : Nat) : Int) ≤ W0.getD v 0)
    (hr : ∀ u : Nat, u < n → r'.count (u : Int) = r.count (u : Int) + if u = v ∧ W.getD v 0 - 1 = 0 then 1 else 0) : Lowered n W0 us (j + 1) (W.set v (W.getD v 0 - 1)) r1 r' := by
  refine ⟨by rw [List.length_set]; exact h.1, fun u hu => ?_⟩
  obtain ⟨h1, h2⟩ := h.2 u hu
  have h3 := hr u hu
  have hc := take_count hj (u : Int)
  have hc2 := take_count hj (v : Int)
  have hm : (us.take (j + 1)).count (v : Int) ≤ us.count (v : Int) := count_take_le
  rw [e] at hc hc2
  rw [if_pos rfl] at hc2
  have hl := h.1
  by_cases huv : u = v
  · subst huv
    have g : (W.set u (W.getD u 0 - 1)).getD u 0 = W.getD u 0 - 1 := by
      rw [List.getD_eq_getElem?_getD, List.getElem?_set, if_pos rfl, if_pos (by omega)]
      rfl
    rw [g, hc2]
    refine ⟨by omega, ?_⟩
    have hw : 0 < W0.getD u 0 := by omega
    have hW : W.getD u 0 ≠ 0 := by omega
    rw [if_neg (fun k => hW k.2)] at h2
    rw [h3, h2]
    by_cases z : W.getD u 0 - 1 = 0
    · rw [if_pos ⟨rfl, z⟩, if_pos ⟨hw, z⟩]
    · rw [if_neg (fun k => z k.2), if_neg (fun k => z k.2)]
  · have g : (W.set v (W.getD v 0 - 1)).getD u 0 = W.getD u 0 := by
      rw [List.getD_eq_getElem?_getD, List.getElem?_set, if_neg (fun k => huv k.symm), ← List.getD_eq_getElem?_getD]
    rw [if_neg (by omega)] at hc
    rw [if_neg (fun k => huv k.1)] at h3
    rw [g, hc]
    refine ⟨by omega, ?_⟩
    rw [h3]
    omega
/-- At the loop's end: what ready_step asks. -/
theorem lowered_end {need : Int → List Int} {n : Nat} {told W0 us W r1 r : List Int} {i : Nat} (hnt : (i : Int) ∉ told) (h : Lowered n W0 us us.length W r1 r) (hW : ∀ u : Nat, u < n → W0.getD u 0 = (waitK need told (u : Int) : Nat)) (hu : ∀ u : Nat, u < n → us.count (u : Int) = (need (u : Int)).count (i : Int)) : (∀ u : Nat, u < n → W.getD u 0 = (waitK need (told ++ [(i : Int)]) (u : Int) : Nat)) ∧ ∀ u : Nat, u < n → r.count (u : Int) = r1.count (u : Int) + if 0 < waitK need told u ∧ waitK need (told ++ [(i : Int)]) u = 0 then 1 else 0 := by
  have key : ∀ u : Nat, u < n → W.getD u 0 = (waitK need (told ++ [(i : Int)]) (u : Int) : Nat) := by
    intro u hn
    have h1 := (h.2 u hn).1
    rw [List.take_length, hW u hn, hu u hn] at h1
    have := wait_step (need := need) hnt (u : Int)
    omega
  refine ⟨key, fun u hn => ?_⟩
  have h2 := (h.2 u hn).2
  rw [key u hn, hW u hn] at h2
  rw [h2]
  by_cases c : 0 < waitK need told (u : Int) ∧ waitK need (told ++ [(i : Int)]) (u : Int) = 0
  · rw [if_pos c, if_pos ⟨by omega, by omega⟩]
  · rw [if_neg c, if_neg (fun k => c ⟨by omega, by omega⟩)]
/-- No user is lowered below nothing. -/
theorem lowered_room {need : Int → List Int} {n : Nat} {told W0 us : List Int} {i : Nat} (hnt : (i : Int) ∉ told) (hW : ∀ u : Nat, u < n → W0.getD u 0 = (waitK need told (u : Int) : Nat)) (hu : ∀ u : Nat, u < n → us.count (u : Int) = (need (u : Int)).count (i : Int)) : ∀ u : Nat, u < n → ((us.count (u : Int) : Nat) : Int) ≤ W0.getD u 0 := by
  intro u hn
  rw [hW u hn, hu u hn]
  have := wait_step (need := need) hnt (u : Int)
  omega
end Go.Proofs.Yteaencgbgfnokaa
