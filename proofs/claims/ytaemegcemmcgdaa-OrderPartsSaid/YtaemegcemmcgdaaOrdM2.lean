import Derived.Test.YtaemegcemmcgdaaOrdM
import Derived.Test.YtaemegcemmcgdaaKahn2
/- The document's order by names goes the way of the places; each stands behind what it needs; the past of a place. -/
set_option linter.unusedVariables false
namespace Go.Proofs.Ytaemegcemmcgdaa

theorem least_step {ns : List Bs} {set : Set6} {told : List Bs} (hns : Asc ns) (hm : ∀ x, x ∈ ns ↔ x ∈ set.map (·.1)) (hd : (set.map (·.1)).Nodup) (ht : ∀ t ∈ told, t ∈ ns) (hr : ReachK (needB ns set) ns.length (told.map (placeB ns))) {s : Bs} (hc : canR set told s) (hl : ∀ x, canR set told x → s ≤ x) : ReachK (needB ns set) ns.length ((told ++ [s]).map (placeB ns)) ∧ s ∈ ns := by
  cases hn : nextK (needB ns set) ns.length (told.map (placeB ns)) with
  | none => exact absurd hc (next_none hns hm hd ht hn s)
  | some u =>
    obtain ⟨hu, h1, h2⟩ := next_some hns hm hd ht hn
    obtain rfl : s = ns[u] := bs_antisymm (hl _ h1) (h2 _ hc)
    refine ⟨?_, List.getElem_mem hu⟩
    rw [List.map_append, List.map_singleton, place_at hns hu]
    exact ReachK.step hr hn
theorem least_none {ns : List Bs} {set : Set6} {told : List Bs} (hns : Asc ns) (hm : ∀ x, x ∈ ns ↔ x ∈ set.map (·.1)) (hd : (set.map (·.1)).Nodup) (ht : ∀ t ∈ told, t ∈ ns) (h : ∀ s, ¬ canR set told s) : nextK (needB ns set) ns.length (told.map (placeB ns)) = none := by
  cases hn : nextK (needB ns set) ns.length (told.map (placeB ns)) with
  | none => rfl
  | some u =>
    obtain ⟨hu, h1, _⟩ := next_some hns hm hd ht hn
    exact absurd h1 (h _)
/-- Each stands behind what it needs. -/
theorem reach_behind {need : Int → List Int} {n : Nat} {told : List Int} (h : ReachK need n told) : ∀ k (hk : k < told.length), ∀ d ∈ need told[k], d ∈ told.take k := by
  induction h with
  | nil => intro k hk; exact absurd hk (Nat.not_lt_zero _)
  | step h hu ih =>
    rename_i told u
    intro k hk d hd
    by_cases hl : k < told.length
    · rw [List.getElem_append_left hl] at hd
      rw [List.take_append_of_le_length (Nat.le_of_lt hl)]
      exact ih k hl d hd
    · have e : k = told.length := by
        rw [List.length_append, List.length_singleton] at hk
        omega
      subst e
      rw [List.getElem_append_right (Nat.le_refl _)] at hd
      simp only [Nat.sub_self, List.getElem_cons_zero] at hd
      rw [List.take_left]
      have h2 := (next_lt hu).2
      unfold canB at h2
      rw [Bool.and_eq_true, beq_iff_eq] at h2
      exact wait_zero.1 h2.2 d hd
/-- The past of a place: what it needs of the set, and what those do. -/
inductive PastK (need : Int → List Int) (at_ : Int) : Int → Prop
  | one {d : Int} (h : d ∈ need at_) (h0 : 0 ≤ d) : PastK need at_ d
  | more {i d : Int} (hi : PastK need at_ i) (h : d ∈ need i) (h0 : 0 ≤ d) : PastK need at_ d
/-- What is closed and has no more than the past, is it. -/
theorem past_is {need : Int → List Int} {a : Int} {P : Int → Prop} (h1 : ∀ d, P d → PastK need a d) (h2 : ∀ d ∈ need a, 0 ≤ d → P d) (h3 : ∀ i, P i → ∀ d ∈ need i, 0 ≤ d → P d) (x : Int) : P x ↔ PastK need a x := by
  refine ⟨h1 x, fun h => ?_⟩
  induction h with
  | one h h0 => exact h2 _ h h0
  | more hi h h0 ih => exact h3 _ ih _ h h0
/-- In an order the past stands ahead. -/
theorem past_ahead {need : Int → List Int} {n : Nat} {told : List Int} (h : ReachK need n told) : ∀ k (hk : k < told.length), ∀ d, PastK need told[k] d → d ∈ told.take k := by
  intro k
  induction k using Nat.strongRecOn with
  | _ k ih =>
    intro hk d hd
    induction hd with
    | one h1 _ => exact reach_behind h k hk _ h1
    | more _ h1 _ ih2 =>
      obtain ⟨j, hj, e⟩ := List.getElem_of_mem ih2
      have hjk : j < k := by
        rw [List.length_take] at hj
        omega
      rw [List.getElem_take] at e
      rw [← e] at h1
      have h3 := reach_behind h j (by omega) _ h1
      obtain ⟨m, hm, e2⟩ := List.getElem_of_mem h3
      rw [List.length_take] at hm
      rw [List.getElem_take] at e2
      rw [← e2]
      exact List.mem_take_iff_getElem.2 ⟨m, by omega, rfl⟩
end Go.Proofs.Ytaemegcemmcgdaa
