/-     -/
import Derived.Test.YtojnagonhihknaaGreatDoorU14
import Derived.Test.YtojnagonhihknaaGreatDoorU16
/- What the order of places reaches, from nothing told on: each place once, the end is one. -/
set_option linter.unusedVariables false
namespace Go.Proofs.YtojnagonhihknaaGreatDoor

inductive ReachK (need : Int → List Int) (n : Nat) : List Int → Prop
  | nil : ReachK need n []
  | step {told : List Int} {u : Nat} (h : ReachK need n told) (hu : nextK need n told = some u) : ReachK need n (told ++ [(u : Int)])
theorem next_lt {need : Int → List Int} {n u : Nat} {told : List Int} (h : nextK need n told = some u) : u < n ∧ canB need told u = true := ⟨List.mem_range.1 (List.mem_of_find?_eq_some h), List.find?_some h⟩
theorem can_fresh {need : Int → List Int} {u : Nat} {told : List Int} (h : canB need told u = true) : (u : Int) ∉ told := by
  intro hm
  unfold canB at h
  simp [hm] at h
theorem reach_tame {need : Int → List Int} {n : Nat} {told : List Int} (h : ReachK need n told) : told.Nodup ∧ ∀ x ∈ told, ∃ u : Nat, u < n ∧ x = (u : Int) := by
  induction h with
  | nil => exact ⟨List.nodup_nil, fun x hx => by cases hx⟩
  | step h hu ih =>
    obtain ⟨h1, h2⟩ := next_lt hu
    constructor
    · rw [List.nodup_append]
      refine ⟨ih.1, by simp, ?_⟩
      intro a ha b hb e
      obtain rfl := List.mem_singleton.1 hb
      subst e
      exact can_fresh h2 ha
    · intro x hx
      rcases List.mem_append.1 hx with hx | hx
      · exact ih.2 x hx
      · exact ⟨_, h1, List.mem_singleton.1 hx⟩
theorem nodup_len : ∀ {n : Nat} {l : List Int}, l.Nodup → (∀ x ∈ l, ∃ u : Nat, u < n ∧ x = (u : Int)) → l.length ≤ n := by
  intro n
  induction n with
  | zero =>
    intro l _ hb
    cases l with
    | nil => exact Nat.le_refl _
    | cons x l =>
      obtain ⟨u, hu, _⟩ := hb x (by simp)
      exact absurd hu (Nat.not_lt_zero _)
  | succ n ih =>
    intro l hd hb
    have h1 := ih (hd.erase (n : Int)) fun x hx => by
      obtain ⟨hne, hm⟩ := (List.Nodup.mem_erase_iff hd).1 hx
      obtain ⟨u, hu, rfl⟩ := hb x hm
      exact ⟨u, by omega, rfl⟩
    have h2 := List.length_erase (a := (n : Int)) (l := l)
    split at h2 <;> omega
theorem reach_len {need : Int → List Int} {n : Nat} {told : List Int} (h : ReachK need n told) : told.length ≤ n := nodup_len (reach_tame h).1 (reach_tame h).2
theorem reach_total {need : Int → List Int} {n : Nat} {a b : List Int} (ha : ReachK need n a) (hb : ReachK need n b) : a <+: b ∨ b <+: a := by
  induction ha generalizing b with
  | nil => exact .inl (List.nil_prefix)
  | step h hu ih =>
    rename_i told u
    rcases ih hb with hp | hp
    · obtain ⟨t, rfl⟩ := hp
      cases t with
      | nil => right; rw [List.append_nil]; exact List.prefix_append _ _
      | cons x t =>
        left
        have key : ∀ {c : List Int}, ReachK need n c → ∀ y s, c = told ++ y :: s → y = (u : Int) := by
          intro c hc
          induction hc with
          | nil => intro y s e; simp at e
          | step h2 hu2 ih2 =>
            rename_i told2 u2
            intro y s e
            rcases List.eq_nil_or_concat s with rfl | ⟨s', z, rfl⟩
            · have e1 : told2 = told := by
                have := List.append_inj' e rfl
                exact this.1
              have e2 : (u2 : Int) = y := by
                have := List.append_inj' e rfl
                simpa using this.2
              subst e1
              rw [hu] at hu2
              injection hu2 with hu3
              rw [← e2, hu3]
            · refine ih2 y s' ?_
              have : told2 ++ [(u2 : Int)] = (told ++ y :: s') ++ [z] := by rw [e]; simp
              exact (List.append_inj' this rfl).1
        rw [key hb x t rfl]
        exact ⟨t, by simp⟩
    · right
      exact hp.trans (List.prefix_append _ _)
theorem reach_end {need : Int → List Int} {n : Nat} {a b : List Int} (ha : ReachK need n a) (hb : ReachK need n b) (ea : nextK need n a = none) (eb : nextK need n b = none) : a = b := by
  have key : ∀ {c d : List Int}, ReachK need n c → ReachK need n d → nextK need n c = none → c <+: d → c = d := by
    intro c d hc hd ec hp
    induction hd with
    | nil => exact List.prefix_nil.1 hp
    | step h hu ih =>
      rename_i told u
      rcases List.prefix_concat_iff.1 hp with e | hp
      · exact e
      · have e := ih hp
        subst e
        rw [ec] at hu
        cases hu
  rcases reach_total ha hb with hp | hp
  · exact key ha hb ea hp
  · exact (key hb ha eb hp).symm
end Go.Proofs.YtojnagonhihknaaGreatDoor
/- The document's order by names goes the way of the places; each stands behind what it needs; the past of a place. -/
set_option linter.unusedVariables false
namespace Go.Proofs.YtojnagonhihknaaGreatDoor

theorem reach_behind {need : Int → List Int} {n : Nat} {told : List Int} (h : ReachK need n told) : ∀ k (hk : k < told.length), ∀ d ∈ need told[k], d ∈ told.take k := by
  induction h with
  | nil => intro k hk; exact absurd hk (Nat.not_lt_zero _)
  | step h hu ih =>
    rename_i told u
    intro k hk d hd
    by_cases hl : k < told.length
    · rw [List.getElem_append_left hl] at hd
      rw [List.take_append_of_le_length (Nat.le_of_lt hl)]
      exact ih k hl d hd
    · have e : k = told.length := by
        rw [List.length_append, List.length_singleton] at hk
        omega
      subst e
      rw [List.getElem_append_right (Nat.le_refl _)] at hd
      simp only [Nat.sub_self, List.getElem_cons_zero] at hd
      rw [List.take_left]
      have h2 := (next_lt hu).2
      unfold canB at h2
      rw [Bool.and_eq_true, beq_iff_eq] at h2
      exact wait_zero.1 h2.2 d hd
inductive PastK (need : Int → List Int) (at_ : Int) : Int → Prop
  | one {d : Int} (h : d ∈ need at_) (h0 : 0 ≤ d) : PastK need at_ d
  | more {i d : Int} (hi : PastK need at_ i) (h : d ∈ need i) (h0 : 0 ≤ d) : PastK need at_ d
end Go.Proofs.YtojnagonhihknaaGreatDoor
/- Behind one that is told: its users wait for one less each; whose waiting that ends is pushed. One round of that loop. -/
set_option linter.unusedVariables false
namespace Go.Proofs.YtojnagonhihknaaGreatDoor

def Lowered (n : Nat) (W0 us : List Int) (j : Nat) (W r1 r : List Int) : Prop := W.length = n ∧ ∀ u : Nat, u < n → W.getD u 0 = W0.getD u 0 - ((us.take j).count (u : Int) : Nat) ∧ r.count (u : Int) = r1.count (u : Int) + if 0 < W0.getD u 0 ∧ W.getD u 0 = 0 then 1 else 0
theorem lowered_begin {n : Nat} {W0 us r1 : List Int} (h : W0.length = n) : Lowered n W0 us 0 W0 r1 r1 := by
  refine ⟨h, fun u hu => ?_⟩
  rw [if_neg (by omega)]
  simp
theorem count_take_le {us : List Int} {j : Nat} {x : Int} : (us.take j).count x ≤ us.count x := (List.take_sublist j us).count_le x
theorem take_count {us : List Int} {j : Nat} (hj : j < us.length) (x : Int) : (us.take (j + 1)).count x = (us.take j).count x + if us[j] = x then 1 else 0 := by
  rw [List.take_add_one, List.getElem?_eq_getElem hj, List.count_append]
  by_cases h : us[j] = x <;> simp [h]
theorem lowered_step {n : Nat} {W0 us W r1 r r' : List Int} {j v : Nat} (h : Lowered n W0 us j W r1 r) (hj : j < us.length) (hv : v < n) (e : us[j] = (v : Int)) (hb : ((us.count (v : Int) : Nat) : Int) ≤ W0.getD v 0)
    (hr : ∀ u : Nat, u < n → r'.count (u : Int) = r.count (u : Int) + if u = v ∧ W.getD v 0 - 1 = 0 then 1 else 0) : Lowered n W0 us (j + 1) (W.set v (W.getD v 0 - 1)) r1 r' := by
  refine ⟨by rw [List.length_set]; exact h.1, fun u hu => ?_⟩
  obtain ⟨h1, h2⟩ := h.2 u hu
  have h3 := hr u hu
  have hc := take_count hj (u : Int)
  have hc2 := take_count hj (v : Int)
  have hm : (us.take (j + 1)).count (v : Int) ≤ us.count (v : Int) := count_take_le
  rw [e] at hc hc2
  rw [if_pos rfl] at hc2
  have hl := h.1
  by_cases huv : u = v
  · subst huv
    have g : (W.set u (W.getD u 0 - 1)).getD u 0 = W.getD u 0 - 1 := by
      rw [List.getD_eq_getElem?_getD, List.getElem?_set, if_pos rfl, if_pos (by omega)]
      rfl
    rw [g, hc2]
    refine ⟨by omega, ?_⟩
    have hw : 0 < W0.getD u 0 := by omega
    have hW : W.getD u 0 ≠ 0 := by omega
    rw [if_neg (fun k => hW k.2)] at h2
    rw [h3, h2]
    by_cases z : W.getD u 0 - 1 = 0
    · rw [if_pos ⟨rfl, z⟩, if_pos ⟨hw, z⟩]
    · rw [if_neg (fun k => z k.2), if_neg (fun k => z k.2)]
  · have g : (W.set v (W.getD v 0 - 1)).getD u 0 = W.getD u 0 := by
      rw [List.getD_eq_getElem?_getD, List.getElem?_set, if_neg (fun k => huv k.symm), ← List.getD_eq_getElem?_getD]
    rw [if_neg (by omega)] at hc
    rw [if_neg (fun k => huv k.1)] at h3
    rw [g, hc]
    refine ⟨by omega, ?_⟩
    rw [h3]
    omega
theorem lowered_end {need : Int → List Int} {n : Nat} {told W0 us W r1 r : List Int} {i : Nat} (hnt : (i : Int) ∉ told) (h : Lowered n W0 us us.length W r1 r) (hW : ∀ u : Nat, u < n → W0.getD u 0 = (waitK need told (u : Int) : Nat)) (hu : ∀ u : Nat, u < n → us.count (u : Int) = (need (u : Int)).count (i : Int)) : (∀ u : Nat, u < n → W.getD u 0 = (waitK need (told ++ [(i : Int)]) (u : Int) : Nat)) ∧ ∀ u : Nat, u < n → r.count (u : Int) = r1.count (u : Int) + if 0 < waitK need told u ∧ waitK need (told ++ [(i : Int)]) u = 0 then 1 else 0 := by
  have key : ∀ u : Nat, u < n → W.getD u 0 = (waitK need (told ++ [(i : Int)]) (u : Int) : Nat) := by
    intro u hn
    have h1 := (h.2 u hn).1
    rw [List.take_length, hW u hn, hu u hn] at h1
    have := wait_step (need := need) hnt (u : Int)
    omega
  refine ⟨key, fun u hn => ?_⟩
  have h2 := (h.2 u hn).2
  rw [key u hn, hW u hn] at h2
  rw [h2]
  by_cases c : 0 < waitK need told (u : Int) ∧ waitK need (told ++ [(i : Int)]) (u : Int) = 0
  · rw [if_pos c, if_pos ⟨by omega, by omega⟩]
  · rw [if_neg c, if_neg (fun k => c ⟨by omega, by omega⟩)]
theorem lowered_room {need : Int → List Int} {n : Nat} {told W0 us : List Int} {i : Nat} (hnt : (i : Int) ∉ told) (hW : ∀ u : Nat, u < n → W0.getD u 0 = (waitK need told (u : Int) : Nat)) (hu : ∀ u : Nat, u < n → us.count (u : Int) = (need (u : Int)).count (i : Int)) : ∀ u : Nat, u < n → ((us.count (u : Int) : Nat) : Int) ≤ W0.getD u 0 := by
  intro u hn
  rw [hW u hn, hu u hn]
  have := wait_step (need := need) hnt (u : Int)
  omega
end Go.Proofs.YtojnagonhihknaaGreatDoor
/- The mathematics of package order's web: what each place needs, and who uses it, as9 both are gathered; the past, as9 it is searched. -/
set_option linter.unusedVariables false
namespace Go.Proofs.YtojnagonhihknaaGreatDoor

def gridB (ns : List Bs) (set : Set6) : List (List Int) := (List.range ns.length).map fun u : Nat => needB ns set (u : Int)
theorem gridB_len (ns : List Bs) (set : Set6) : (gridB ns set).length = ns.length := by simp [gridB]
theorem gridB_at {ns : List Bs} {set : Set6} {u : Nat} (h : u < ns.length) : (gridB ns set)[u]? = some (needB ns set (u : Int)) := by simp [gridB, h]
theorem gridB_nil (ns : List Bs) : gridB ns [] = List.replicate ns.length [] := by
  apply List.ext_getElem?
  intro u
  rw [List.getElem?_replicate]
  by_cases h : u < ns.length
  · rw [gridB_at h, if_pos h]; rfl
  · rw [if_neg h, List.getElem?_eq_none (by rw [gridB_len]; omega)]
theorem needB_snoc (ns : List Bs) (set : Set6) (p : Bs × List Bs) (u : Int) : needB ns (set ++ [p]) u = needB ns set u ++ if placeB ns p.1 = u then p.2.map (placeB ns) else [] := by
  unfold needB
  rw [List.filter_append, List.flatMap_append]
  congr 1
  by_cases h : placeB ns p.1 = u
  · simp [h]
  · have : (placeB ns p.1 == u) = false := by simpa using h
    simp [h, this]
theorem needB_sum (ns : List Bs) (u : Int) : ∀ set : Set6, (needB ns set u).length ≤ (set.map fun p => p.2.length).sum := by
  intro set
  induction set with
  | nil => simp [needB]
  | cons p set ih =>
    have e : needB ns (p :: set) u = (if placeB ns p.1 = u then p.2.map (placeB ns) else []) ++ needB ns set u := by
      unfold needB
      by_cases h : placeB ns p.1 = u
      · simp [h]
      · have : (placeB ns p.1 == u) = false := by simpa using h
        simp [h, this]
    rw [e, List.length_append, List.map_cons, List.sum_cons]
    have : (if placeB ns p.1 = u then p.2.map (placeB ns) else []).length ≤ p.2.length := by split <;> simp
    omega
def gridM (ns : List Bs) (set : Set6) (a : Nat) (deps : List Bs) (j : Nat) : List (List Int) := (gridB ns set).set a (needB ns set (a : Int) ++ (deps.take j).map (placeB ns))
theorem gridM_zero {ns : List Bs} {set : Set6} {a : Nat} {deps : List Bs} (h : a < ns.length) : gridM ns set a deps 0 = gridB ns set := by
  unfold gridM
  rw [List.take_zero, List.map_nil, List.append_nil]
  apply List.ext_getElem?
  intro u
  by_cases e : a = u
  · subst e
    rw [List.getElem?_set_self (by rw [gridB_len]; exact h), gridB_at h]
  · rw [List.getElem?_set_ne e]
theorem gridM_at {ns : List Bs} {set : Set6} {a : Nat} {deps : List Bs} {j : Nat} (h : a < ns.length) : (gridM ns set a deps j)[a]? = some (needB ns set (a : Int) ++ (deps.take j).map (placeB ns)) := by
  unfold gridM
  rw [List.getElem?_set_self (by rw [gridB_len]; exact h)]
theorem gridM_step {ns : List Bs} {set : Set6} {a : Nat} {deps : List Bs} {j : Nat} {d : Bs} (hd : deps[j]? = some d) : gridM ns set a deps (j + 1) = (gridM ns set a deps j).set a (needB ns set (a : Int) ++ (deps.take j).map (placeB ns) ++ [placeB ns d]) := by
  unfold gridM
  rw [List.set_set]
  congr 1
  rw [List.append_assoc]
  congr 1
  rw [List.take_add_one, hd]
  simp
theorem gridM_end {ns : List Bs} {set : Set6} {a : Nat} {p : Bs × List Bs} (h : a < ns.length) (hp : placeB ns p.1 = (a : Int)) : gridM ns set a p.2 p.2.length = gridB ns (set ++ [p]) := by
  unfold gridM
  rw [List.take_length]
  apply List.ext_getElem?
  intro u
  by_cases hu : u < ns.length
  · rw [gridB_at hu, needB_snoc, hp]
    by_cases e : a = u
    · subst e
      rw [List.getElem?_set_self (by rw [gridB_len]; exact h), if_pos rfl]
    · rw [List.getElem?_set_ne e, if_neg (by omega), List.append_nil, gridB_at hu]
  · rw [List.getElem?_eq_none (by rw [List.length_set, gridB_len]; omega), List.getElem?_eq_none (by rw [gridB_len]; omega)]
theorem place_range (ns : List Bs) (x : Bs) : placeB ns x = -1 ∨ ∃ u : Nat, u < ns.length ∧ placeB ns x = (u : Int) := by
  by_cases h : x ∈ ns
  · obtain ⟨u, hu, e, _⟩ := place_in h
    exact .inr ⟨u, hu, e⟩
  · exact .inl (place_out h)
theorem needB_range {ns : List Bs} {set : Set6} {u d : Int} (h : d ∈ needB ns set u) : d = -1 ∨ ∃ v : Nat, v < ns.length ∧ d = (v : Int) := by
  unfold needB at h
  obtain ⟨p, _, hp⟩ := List.mem_flatMap.1 h
  obtain ⟨x, _, rfl⟩ := List.mem_map.1 hp
  exact place_range ns x

def useB (need : Int → List Int) (k : Nat) (d : Int) : List Int := (List.range k).flatMap fun x : Nat => List.replicate ((need (x : Int)).count d) (x : Int)
def useM (need : Int → List Int) (k j : Nat) (d : Int) : List Int := useB need k d ++ List.replicate (((need (k : Int)).take j).count d) (k : Int)
theorem useM_zero (need : Int → List Int) (k : Nat) (d : Int) : useM need k 0 d = useB need k d := by simp [useM]
theorem useM_step {need : Int → List Int} {k j : Nat} {y : Int} (hy : (need (k : Int))[j]? = some y) (d : Int) : useM need k (j + 1) d = if y = d then useM need k j d ++ [(k : Int)] else useM need k j d := by
  unfold useM
  rw [List.take_add_one, hy, List.count_append]
  by_cases h : y = d
  · subst h
    rw [if_pos rfl]
    simp [List.replicate_succ']
  · rw [if_neg h]
    simp [h]
theorem useM_end (need : Int → List Int) (k : Nat) (d : Int) : useM need k (need (k : Int)).length d = useB need (k + 1) d := by
  unfold useM useB
  rw [List.take_length, List.range_succ, List.flatMap_append]
  simp
theorem useB_lt {need : Int → List Int} {k : Nat} {d y : Int} (h : y ∈ useB need k d) : ∃ u : Nat, u < k ∧ y = (u : Int) := by
  unfold useB at h
  obtain ⟨x, hx, hy⟩ := List.mem_flatMap.1 h
  exact ⟨x, List.mem_range.1 hx, (List.mem_replicate.1 hy).2⟩
theorem useB_count (need : Int → List Int) (d : Int) (x : Nat) : ∀ k, (useB need k d).count (x : Int) = if x < k then (need (x : Int)).count d else 0 := by
  intro k
  induction k with
  | zero => simp [useB]
  | succ k ih =>
    have e : useB need (k + 1) d = useB need k d ++ List.replicate ((need (k : Int)).count d) (k : Int) := by
      unfold useB
      rw [List.range_succ, List.flatMap_append]
      simp
    rw [e, List.count_append, ih, List.count_replicate]
    by_cases h : x = k
    · subst h
      simp
    · have h1 : ((k : Int) == (x : Int)) = false := by simp; omega
      rw [h1, if_neg Bool.false_ne_true, Nat.add_zero]
      by_cases h2 : x < k
      · rw [if_pos h2, if_pos (by omega)]
      · rw [if_neg h2, if_neg (by omega)]
def gridU (need : Int → List Int) (n k j : Nat) : List (List Int) := (List.range n).map fun d : Nat => useM need k j (d : Int)
theorem gridU_len (need : Int → List Int) (n k j : Nat) : (gridU need n k j).length = n := by simp [gridU]
theorem gridU_at {need : Int → List Int} {n k j d : Nat} (h : d < n) : (gridU need n k j)[d]? = some (useM need k j (d : Int)) := by simp [gridU, h]
theorem gridU_begin (need : Int → List Int) (n : Nat) : gridU need n 0 0 = List.replicate n [] := by
  apply List.ext_getElem?
  intro u
  rw [List.getElem?_replicate]
  by_cases h : u < n
  · rw [gridU_at h, if_pos h]; rfl
  · rw [if_neg h, List.getElem?_eq_none (by rw [gridU_len]; omega)]
theorem gridU_put {need : Int → List Int} {n k j d : Nat} (hd : d < n) (hy : (need (k : Int))[j]? = some (d : Int)) : gridU need n k (j + 1) = (gridU need n k j).set d (useM need k j (d : Int) ++ [(k : Int)]) := by
  apply List.ext_getElem?
  intro u
  by_cases hu : u < n
  · rw [gridU_at hu, useM_step hy]
    by_cases e : d = u
    · subst e
      rw [if_pos rfl, List.getElem?_set_self (by rw [gridU_len]; exact hd)]
    · rw [if_neg (by omega), List.getElem?_set_ne e, gridU_at hu]
  · rw [List.getElem?_eq_none (by rw [gridU_len]; omega), List.getElem?_eq_none (by rw [List.length_set, gridU_len]; omega)]
theorem gridU_skip {need : Int → List Int} {n k j : Nat} (hy : (need (k : Int))[j]? = some (-1)) : gridU need n k (j + 1) = gridU need n k j := by
  apply List.ext_getElem?
  intro u
  by_cases hu : u < n
  · rw [gridU_at hu, gridU_at hu, useM_step hy, if_neg (by omega)]
  · rw [List.getElem?_eq_none (by rw [gridU_len]; omega), List.getElem?_eq_none (by rw [gridU_len]; omega)]
theorem gridU_end (need : Int → List Int) (n k : Nat) : gridU need n k (need (k : Int)).length = gridU need n (k + 1) 0 := by
  unfold gridU
  apply List.map_congr_left
  intro d _
  rw [useM_end, useM_zero]

theorem useB_len (need : Int → List Int) (M : Nat) (hM : ∀ u : Nat, (need (u : Int)).length ≤ M) (d : Int) : ∀ k, (useB need k d).length ≤ k * M := by
  intro k
  induction k with
  | zero => simp [useB]
  | succ k ih =>
    have e : useB need (k + 1) d = useB need k d ++ List.replicate ((need (k : Int)).count d) (k : Int) := by
      unfold useB
      rw [List.range_succ, List.flatMap_append]
      simp
    have h1 := hM k
    have h2 := List.count_le_length (a := d) (l := need (k : Int))
    rw [e, List.length_append, List.length_replicate, Nat.succ_mul]
    omega
theorem useM_len (need : Int → List Int) (M : Nat) (hM : ∀ u : Nat, (need (u : Int)).length ≤ M) (d : Int) (k j : Nat) : (useM need k j d).length ≤ k * M + M := by
  have h1 := useB_len need M hM d k
  have h2 := List.count_le_length (a := d) (l := (need (k : Int)).take j)
  have h3 := hM k
  have h4 := List.length_take_le j (need (k : Int))
  unfold useM
  rw [List.length_append, List.length_replicate]
  have h5 := List.length_take (i := j) (l := need (k : Int))
  omega
def SeenB (seen : List Bool) (x : Int) : Prop := ∃ u : Nat, x = (u : Int) ∧ seen.getD u false = true
structure PastO (need : Int → List Int) (n : Nat) (a : Int) (seen : List Bool) (left : List Int) : Prop where
  len : seen.length = n
  sound : ∀ d, SeenB seen d → PastK need a d
  left_ok : ∀ x ∈ left, x = a ∨ SeenB seen x
  left_lt : ∀ x ∈ left, ∃ u : Nat, u < n ∧ x = (u : Int)
  done : ∀ x, (x = a ∨ SeenB seen x) → x ∉ left → ∀ d ∈ need x, 0 ≤ d → SeenB seen d
structure PastI (need : Int → List Int) (n : Nat) (a : Int) (seen : List Bool) (left : List Int) (i : Int) (j : Nat) : Prop where
  len : seen.length = n
  sound : ∀ d, SeenB seen d → PastK need a d
  left_ok : ∀ x ∈ left, x = a ∨ SeenB seen x
  left_lt : ∀ x ∈ left, ∃ u : Nat, u < n ∧ x = (u : Int)
  done : ∀ x, (x = a ∨ SeenB seen x) → x ∉ left → x ≠ i → ∀ d ∈ need x, 0 ≤ d → SeenB seen d
  here : i = a ∨ SeenB seen i
  part : ∀ d ∈ (need i).take j, 0 ≤ d → SeenB seen d
end Go.Proofs.YtojnagonhihknaaGreatDoor
