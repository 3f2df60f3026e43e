/-    -/
import Derived.Test.YteaencgbgfnokaaDoorM14
import Derived.Test.YteaencgbgfnokaaDoorM7
/- What the order of places reaches, from nothing told on: each place once, the end is one. -/
set_option linter.unusedVariables false
namespace Go.Proofs.YteaencgbgfnokaaDoor

inductive ReachK (need : Int → List Int) (n : Nat) : List Int → Prop
  | nil : ReachK need n []
  | step {told : List Int} {u : Nat} (h : ReachK need n told) (hu : nextK need n told = some u) : ReachK need n (told ++ [(u : Int)])
theorem next_lt {need : Int → List Int} {n u : Nat} {told : List Int} (h : nextK need n told = some u) : u < n ∧ canB need told u = true := ⟨List.mem_range.1 (List.mem_of_find?_eq_some h), List.find?_some h⟩
theorem can_fresh {need : Int → List Int} {u : Nat} {told : List Int} (h : canB need told u = true) : (u : Int) ∉ told := by
  intro hm
  unfold canB at h
  simp [hm] at h
theorem reach_tame {need : Int → List Int} {n : Nat} {told : List Int} (h : ReachK need n told) : told.Nodup ∧ ∀ x ∈ told, ∃ u : Nat, u < n ∧ x = (u : Int) := by
  induction h with
  | nil => exact ⟨List.nodup_nil, fun x hx => by cases hx⟩
  | step h hu ih =>
    obtain ⟨h1, h2⟩ := next_lt hu
    constructor
    · rw [List.nodup_append]
      refine ⟨ih.1, by simp, ?_⟩
      intro a ha b hb e
      obtain rfl := List.mem_singleton.1 hb
      subst e
      exact can_fresh h2 ha
    · intro x hx
      rcases List.mem_append.1 hx with hx | hx
      · exact ih.2 x hx
      · exact ⟨_, h1, List.mem_singleton.1 hx⟩
theorem nodup_len : ∀ {n : Nat} {l : List Int}, l.Nodup → (∀ x ∈ l, ∃ u : Nat, u < n ∧ x = (u : Int)) → l.length ≤ n := by
  intro n
  induction n with
  | zero =>
    intro l _ hb
    cases l with
    | nil => exact Nat.le_refl _
    | cons x l =>
      obtain ⟨u, hu, _⟩ := hb x (by simp)
      exact absurd hu (Nat.not_lt_zero _)
  | succ n ih =>
    intro l hd hb
    have h1 := ih (hd.erase (n : Int)) fun x hx => by
      obtain ⟨hne, hm⟩ := (List.Nodup.mem_erase_iff hd).1 hx
      obtain ⟨u, hu, rfl⟩ := hb x hm
      exact ⟨u, by omega, rfl⟩
    have h2 := List.length_erase (a := (n : Int)) (l := l)
    split at h2 <;> omega
theorem reach_len {need : Int → List Int} {n : Nat} {told : List Int} (h : ReachK need n told) : told.length ≤ n := nodup_len (reach_tame h).1 (reach_tame h).2
theorem reach_full {need : Int → List Int} {n : Nat} {told : List Int} (h : ReachK need n told) (hl : told.length = n) : nextK need n told = none := by
  cases hn : nextK need n told with
  | none => rfl
  | some u =>
    have := reach_len (ReachK.step h hn)
    rw [List.length_append, hl, List.length_singleton] at this
    omega
theorem reach_total {need : Int → List Int} {n : Nat} {a b : List Int} (ha : ReachK need n a) (hb : ReachK need n b) : a <+: b ∨ b <+: a := by
  induction ha generalizing b with
  | nil => exact .inl (List.nil_prefix)
  | step h hu ih =>
    rename_i told u
    rcases ih hb with hp | hp
    · obtain ⟨t, rfl⟩ := hp
      cases t with
      | nil => right; rw [List.append_nil]; exact List.prefix_append _ _
      | cons x t =>
        left
        have key : ∀ {c : List Int}, ReachK need n c → ∀ y s, c = told ++ y :: s → y = (u : Int) := by
          intro c hc
          induction hc with
          | nil => intro y s e; simp at e
          | step h2 hu2 ih2 =>
            rename_i told2 u2
            intro y s e
            rcases List.eq_nil_or_concat s with rfl | ⟨s', z, rfl⟩
            · have e1 : told2 = told := by
                have := List.append_inj' e rfl
                exact this.1
              have e2 : (u2 : Int) = y := by
                have := List.append_inj' e rfl
                simpa using this.2
              subst e1
              rw [hu] at hu2
              injection hu2 with hu3
              rw [← e2, hu3]
            · refine ih2 y s' ?_
              have : told2 ++ [(u2 : Int)] = (told ++ y :: s') ++ [z] := by rw [e]; simp
              exact (List.append_inj' this rfl).1
        rw [key hb x t rfl]
        exact ⟨t, by simp⟩
    · right
      exact hp.trans (List.prefix_append _ _)
theorem reach_end {need : Int → List Int} {n : Nat} {a b : List Int} (ha : ReachK need n a) (hb : ReachK need n b) (ea : nextK need n a = none) (eb : nextK need n b = none) : a = b := by
  have key : ∀ {c d : List Int}, ReachK need n c → ReachK need n d → nextK need n c = none → c <+: d → c = d := by
    intro c d hc hd ec hp
    induction hd with
    | nil => exact List.prefix_nil.1 hp
    | step h hu ih =>
      rename_i told u
      rcases List.prefix_concat_iff.1 hp with e | hp
      · exact e
      · have e := ih hp
        subst e
        rw [ec] at hu
        cases hu
  rcases reach_total ha hb with hp | hp
  · exact key ha hb ea hp
  · exact (key hb ha eb hp).symm
end Go.Proofs.YteaencgbgfnokaaDoor
/- Behind one that is told: its users wait for one less each; whose waiting that ends is pushed. One round of that loop. -/
set_option linter.unusedVariables false
namespace Go.Proofs.YteaencgbgfnokaaDoor

def Lowered (n : Nat) (W0 us : List Int) (j : Nat) (W r1 r : List Int) : Prop := W.length = n ∧ ∀ u : Nat, u < n → W.getD u 0 = W0.getD u 0 - ((us.take j).count (u : Int) : Nat) ∧ r.count (u : Int) = r1.count (u : Int) + if 0 < W0.getD u 0 ∧ W.getD u 0 = 0 then 1 else 0
theorem lowered_begin {n : Nat} {W0 us r1 : List Int} (h : W0.length = n) : Lowered n W0 us 0 W0 r1 r1 := by
  refine ⟨h, fun u hu => ?_⟩
  rw [if_neg (by omega)]
  simp
theorem count_take_le {us : List Int} {j : Nat} {x : Int} : (us.take j).count x ≤ us.count x := (List.take_sublist j us).count_le x
theorem take_count {us : List Int} {j : Nat} (hj : j < us.length) (x : Int) : (us.take (j + 1)).count x = (us.take j).count x + if us[j] = x then 1 else 0 := by
  rw [List.take_add_one, List.getElem?_eq_getElem hj, List.count_append]
  by_cases h : us[j] = x <;> simp [h]
theorem lowered_step {n : Nat} {W0 us W r1 r r' : List Int} {j v : Nat} (h : Lowered n W0 us j W r1 r) (hj : j < us.length) (hv : v < n) (e : us[j] = (v : Int)) (hb : ((us.count (v : Int) : Nat) : Int) ≤ W0.getD v 0)
    (hr : ∀ u : Nat, u < n → r'.count (u : Int) = r.count (u : Int) + if u = v ∧ W.getD v 0 - 1 = 0 then 1 else 0) : Lowered n W0 us (j + 1) (W.set v (W.getD v 0 - 1)) r1 r' := by
  refine ⟨by rw [List.length_set]; exact h.1, fun u hu => ?_⟩
  obtain ⟨h1, h2⟩ := h.2 u hu
  have h3 := hr u hu
  have hc := take_count hj (u : Int)
  have hc2 := take_count hj (v : Int)
  have hm : (us.take (j + 1)).count (v : Int) ≤ us.count (v : Int) := count_take_le
  rw [e] at hc hc2
  rw [if_pos rfl] at hc2
  have hl := h.1
  by_cases huv : u = v
  · subst huv
    have g : (W.set u (W.getD u 0 - 1)).getD u 0 = W.getD u 0 - 1 := by
      rw [List.getD_eq_getElem?_getD, List.getElem?_set, if_pos rfl, if_pos (by omega)]
      rfl
    rw [g, hc2]
    refine ⟨by omega, ?_⟩
    have hw : 0 < W0.getD u 0 := by omega
    have hW : W.getD u 0 ≠ 0 := by omega
    rw [if_neg (fun k => hW k.2)] at h2
    rw [h3, h2]
    by_cases z : W.getD u 0 - 1 = 0
    · rw [if_pos ⟨rfl, z⟩, if_pos ⟨hw, z⟩]
    · rw [if_neg (fun k => z k.2), if_neg (fun k => z k.2)]
  · have g : (W.set v (W.getD v 0 - 1)).getD u 0 = W.getD u 0 := by
      rw [List.getD_eq_getElem?_getD, List.getElem?_set, if_neg (fun k => huv k.symm), ← List.getD_eq_getElem?_getD]
    rw [if_neg (by omega)] at hc
    rw [if_neg (fun k => huv k.1)] at h3
    rw [g, hc]
    refine ⟨by omega, ?_⟩
    rw [h3]
    omega
theorem lowered_end {need : Int → List Int} {n : Nat} {told W0 us W r1 r : List Int} {i : Nat} (hnt : (i : Int) ∉ told) (h : Lowered n W0 us us.length W r1 r) (hW : ∀ u : Nat, u < n → W0.getD u 0 = (waitK need told (u : Int) : Nat)) (hu : ∀ u : Nat, u < n → us.count (u : Int) = (need (u : Int)).count (i : Int)) : (∀ u : Nat, u < n → W.getD u 0 = (waitK need (told ++ [(i : Int)]) (u : Int) : Nat)) ∧ ∀ u : Nat, u < n → r.count (u : Int) = r1.count (u : Int) + if 0 < waitK need told u ∧ waitK need (told ++ [(i : Int)]) u = 0 then 1 else 0 := by
  have key : ∀ u : Nat, u < n → W.getD u 0 = (waitK need (told ++ [(i : Int)]) (u : Int) : Nat) := by
    intro u hn
    have h1 := (h.2 u hn).1
    rw [List.take_length, hW u hn, hu u hn] at h1
    have := wait_step (need := need) hnt (u : Int)
    omega
  refine ⟨key, fun u hn => ?_⟩
  have h2 := (h.2 u hn).2
  rw [key u hn, hW u hn] at h2
  rw [h2]
  by_cases c : 0 < waitK need told (u : Int) ∧ waitK need (told ++ [(i : Int)]) (u : Int) = 0
  · rw [if_pos c, if_pos ⟨by omega, by omega⟩]
  · rw [if_neg c, if_neg (fun k => c ⟨by omega, by omega⟩)]
theorem lowered_room {need : Int → List Int} {n : Nat} {told W0 us : List Int} {i : Nat} (hnt : (i : Int) ∉ told) (hW : ∀ u : Nat, u < n → W0.getD u 0 = (waitK need told (u : Int) : Nat)) (hu : ∀ u : Nat, u < n → us.count (u : Int) = (need (u : Int)).count (i : Int)) : ∀ u : Nat, u < n → ((us.count (u : Int) : Nat) : Int) ≤ W0.getD u 0 := by
  intro u hn
  rw [hW u hn, hu u hn]
  have := wait_step (need := need) hnt (u : Int)
  omega
end Go.Proofs.YteaencgbgfnokaaDoor
/- The document's order by names goes the way of the places; each stands behind what it needs; the past of a place. -/
set_option linter.unusedVariables false
namespace Go.Proofs.YteaencgbgfnokaaDoor

theorem least_step {ns : List Bs} {set : Set6} {told : List Bs} (hns : Asc ns) (hm : ∀ x, x ∈ ns ↔ x ∈ set.map (·.1)) (hd : (set.map (·.1)).Nodup) (ht : ∀ t ∈ told, t ∈ ns) (hr : ReachK (needB ns set) ns.length (told.map (placeB ns))) {s : Bs} (hc : canR set told s) (hl : ∀ x, canR set told x → s ≤ x) : ReachK (needB ns set) ns.length ((told ++ [s]).map (placeB ns)) ∧ s ∈ ns := by
  cases hn : nextK (needB ns set) ns.length (told.map (placeB ns)) with
  | none => exact absurd hc (next_none hns hm hd ht hn s)
  | some u =>
    obtain ⟨hu, h1, h2⟩ := next_some hns hm hd ht hn
    obtain rfl : s = ns[u] := bs_antisymm (hl _ h1) (h2 _ hc)
    refine ⟨?_, List.getElem_mem hu⟩
    rw [List.map_append, List.map_singleton, place_at hns hu]
    exact ReachK.step hr hn
theorem least_none {ns : List Bs} {set : Set6} {told : List Bs} (hns : Asc ns) (hm : ∀ x, x ∈ ns ↔ x ∈ set.map (·.1)) (hd : (set.map (·.1)).Nodup) (ht : ∀ t ∈ told, t ∈ ns) (h : ∀ s, ¬ canR set told s) : nextK (needB ns set) ns.length (told.map (placeB ns)) = none := by
  cases hn : nextK (needB ns set) ns.length (told.map (placeB ns)) with
  | none => rfl
  | some u =>
    obtain ⟨hu, h1, _⟩ := next_some hns hm hd ht hn
    exact absurd h1 (h _)
inductive PastK (need : Int → List Int) (at_ : Int) : Int → Prop
  | one {d : Int} (h : d ∈ need at_) (h0 : 0 ≤ d) : PastK need at_ d
  | more {i d : Int} (hi : PastK need at_ i) (h : d ∈ need i) (h0 : 0 ≤ d) : PastK need at_ d
theorem past_is {need : Int → List Int} {a : Int} {P : Int → Prop} (h1 : ∀ d, P d → PastK need a d) (h2 : ∀ d ∈ need a, 0 ≤ d → P d) (h3 : ∀ i, P i → ∀ d ∈ need i, 0 ≤ d → P d) (x : Int) : P x ↔ PastK need a x := by
  refine ⟨h1 x, fun h => ?_⟩
  induction h with
  | one h h0 => exact h2 _ h h0
  | more hi h h0 ih => exact h3 _ ih _ h h0
end Go.Proofs.YteaencgbgfnokaaDoor
