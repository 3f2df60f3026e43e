/-  -/
import Derived.Test.YteaencgbgfnokaaDoorM15
/- The mathematics of package order's web: what each place needs, and who uses it, as both are gathered; the past, as it is searched. -/
set_option linter.unusedVariables false
namespace Go.Proofs.YteaencgbgfnokaaDoor

def gridB (ns : List Bs) (set : Set6) : List (List Int) := (List.range ns.length).map fun u : Nat => needB ns set (u : Int)
theorem gridB_len (ns : List Bs) (set : Set6) : (gridB ns set).length = ns.length := by simp [gridB]
theorem gridB_at {ns : List Bs} {set : Set6} {u : Nat} (h : u < ns.length) : (gridB ns set)[u]? = some (needB ns set (u : Int)) := by simp [gridB, h]
theorem gridB_nil (ns : List Bs) : gridB ns [] = List.replicate ns.length [] := by
  apply List.ext_getElem?
  intro u
  rw [List.getElem?_replicate]
  by_cases h : u < ns.length
  · rw [gridB_at h, if_pos h]; rfl
  · rw [if_neg h, List.getElem?_eq_none (by rw [gridB_len]; omega)]
theorem needB_snoc (ns : List Bs) (set : Set6) (p : Bs × List Bs) (u : Int) : needB ns (set ++ [p]) u = needB ns set u ++ if placeB ns p.1 = u then p.2.map (placeB ns) else [] := by
  unfold needB
  rw [List.filter_append, List.flatMap_append]
  congr 1
  by_cases h : placeB ns p.1 = u
  · simp [h]
  · have : (placeB ns p.1 == u) = false := by simpa using h
    simp [h, this]
theorem needB_sum (ns : List Bs) (u : Int) : ∀ set : Set6, (needB ns set u).length ≤ (set.map fun p => p.2.length).sum := by
  intro set
  induction set with
  | nil => simp [needB]
  | cons p set ih =>
    have e : needB ns (p :: set) u = (if placeB ns p.1 = u then p.2.map (placeB ns) else []) ++ needB ns set u := by
      unfold needB
      by_cases h : placeB ns p.1 = u
      · simp [h]
      · have : (placeB ns p.1 == u) = false := by simpa using h
        simp [h, this]
    rw [e, List.length_append, List.map_cons, List.sum_cons]
    have : (if placeB ns p.1 = u then p.2.map (placeB ns) else []).length ≤ p.2.length := by split <;> simp
    omega
def gridM (ns : List Bs) (set : Set6) (a : Nat) (deps : List Bs) (j : Nat) : List (List Int) := (gridB ns set).set a (needB ns set (a : Int) ++ (deps.take j).map (placeB ns))
theorem gridM_zero {ns : List Bs} {set : Set6} {a : Nat} {deps : List Bs} (h : a < ns.length) : gridM ns set a deps 0 = gridB ns set := by
  unfold gridM
  rw [List.take_zero, List.map_nil, List.append_nil]
  apply List.ext_getElem?
  intro u
  by_cases e : a = u
  · subst e
    rw [List.getElem?_set_self (by rw [gridB_len]; exact h), gridB_at h]
  · rw [List.getElem?_set_ne e]
theorem gridM_at {ns : List Bs} {set : Set6} {a : Nat} {deps : List Bs} {j : Nat} (h : a < ns.length) : (gridM ns set a deps j)[a]? = some (needB ns set (a : Int) ++ (deps.take j).map (placeB ns)) := by
  unfold gridM
  rw [List.getElem?_set_self (by rw [gridB_len]; exact h)]
theorem gridM_step {ns : List Bs} {set : Set6} {a : Nat} {deps : List Bs} {j : Nat} {d : Bs} (hd : deps[j]? = some d) : gridM ns set a deps (j + 1) = (gridM ns set a deps j).set a (needB ns set (a : Int) ++ (deps.take j).map (placeB ns) ++ [placeB ns d]) := by
  unfold gridM
  rw [List.set_set]
  congr 1
  rw [List.append_assoc]
  congr 1
  rw [List.take_add_one, hd]
  simp
theorem gridM_end {ns : List Bs} {set : Set6} {a : Nat} {p : Bs × List Bs} (h : a < ns.length) (hp : placeB ns p.1 = (a : Int)) : gridM ns set a p.2 p.2.length = gridB ns (set ++ [p]) := by
  unfold gridM
  rw [List.take_length]
  apply List.ext_getElem?
  intro u
  by_cases hu : u < ns.length
  · rw [gridB_at hu, needB_snoc, hp]
    by_cases e : a = u
    · subst e
      rw [List.getElem?_set_self (by rw [gridB_len]; exact h), if_pos rfl]
    · rw [List.getElem?_set_ne e, if_neg (by omega), List.append_nil, gridB_at hu]
  · rw [List.getElem?_eq_none (by rw [List.length_set, gridB_len]; omega), List.getElem?_eq_none (by rw [gridB_len]; omega)]
theorem place_range (ns : List Bs) (x : Bs) : placeB ns x = -1 ∨ ∃ u : Nat, u < ns.length ∧ placeB ns x = (u : Int) := by
  by_cases h : x ∈ ns
  · obtain ⟨u, hu, e, _⟩ := place_in h
    exact .inr ⟨u, hu, e⟩
  · exact .inl (place_out h)
theorem needB_range {ns : List Bs} {set : Set6} {u d : Int} (h : d ∈ needB ns set u) : d = -1 ∨ ∃ v : Nat, v < ns.length ∧ d = (v : Int) := by
  unfold needB at h
  obtain ⟨p, _, hp⟩ := List.mem_flatMap.1 h
  obtain ⟨x, _, rfl⟩ := List.mem_map.1 hp
  exact place_range ns x

def useB (need : Int → List Int) (k : Nat) (d : Int) : List Int := (List.range k).flatMap fun x : Nat => List.replicate ((need (x : Int)).count d) (x : Int)
def useM (need : Int → List Int) (k j : Nat) (d : Int) : List Int := useB need k d ++ List.replicate (((need (k : Int)).take j).count d) (k : Int)
theorem useM_zero (need : Int → List Int) (k : Nat) (d : Int) : useM need k 0 d = useB need k d := by simp [useM]
theorem useM_step {need : Int → List Int} {k j : Nat} {y : Int} (hy : (need (k : Int))[j]? = some y) (d : Int) : useM need k (j + 1) d = if y = d then useM need k j d ++ [(k : Int)] else useM need k j d := by
  unfold useM
  rw [List.take_add_one, hy, List.count_append]
  by_cases h : y = d
  · subst h
    rw [if_pos rfl]
    simp [List.replicate_succ']
  · rw [if_neg h]
    simp [h]
theorem useM_end (need : Int → List Int) (k : Nat) (d : Int) : useM need k (need (k : Int)).length d = useB need (k + 1) d := by
  unfold useM useB
  rw [List.take_length, List.range_succ, List.flatMap_append]
  simp
theorem useB_lt {need : Int → List Int} {k : Nat} {d y : Int} (h : y ∈ useB need k d) : ∃ u : Nat, u < k ∧ y = (u : Int) := by
  unfold useB at h
  obtain ⟨x, hx, hy⟩ := List.mem_flatMap.1 h
  exact ⟨x, List.mem_range.1 hx, (List.mem_replicate.1 hy).2⟩
theorem useB_count (need : Int → List Int) (d : Int) (x : Nat) : ∀ k, (useB need k d).count (x : Int) = if x < k then (need (x : Int)).count d else 0 := by
  intro k
  induction k with
  | zero => simp [useB]
  | succ k ih =>
    have e : useB need (k + 1) d = useB need k d ++ List.replicate ((need (k : Int)).count d) (k : Int) := by
      unfold useB
      rw [List.range_succ, List.flatMap_append]
      simp
    rw [e, List.count_append, ih, List.count_replicate]
    by_cases h : x = k
    · subst h
      simp
    · have h1 : ((k : Int) == (x : Int)) = false := by simp; omega
      rw [h1, if_neg Bool.false_ne_true, Nat.add_zero]
      by_cases h2 : x < k
      · rw [if_pos h2, if_pos (by omega)]
      · rw [if_neg h2, if_neg (by omega)]
def gridU (need : Int → List Int) (n k j : Nat) : List (List Int) := (List.range n).map fun d : Nat => useM need k j (d : Int)
theorem gridU_len (need : Int → List Int) (n k j : Nat) : (gridU need n k j).length = n := by simp [gridU]
theorem gridU_at {need : Int → List Int} {n k j d : Nat} (h : d < n) : (gridU need n k j)[d]? = some (useM need k j (d : Int)) := by simp [gridU, h]
theorem gridU_begin (need : Int → List Int) (n : Nat) : gridU need n 0 0 = List.replicate n [] := by
  apply List.ext_getElem?
  intro u
  rw [List.getElem?_replicate]
  by_cases h : u < n
  · rw [gridU_at h, if_pos h]; rfl
  · rw [if_neg h, List.getElem?_eq_none (by rw [gridU_len]; omega)]
theorem gridU_put {need : Int → List Int} {n k j d : Nat} (hd : d < n) (hy : (need (k : Int))[j]? = some (d : Int)) : gridU need n k (j + 1) = (gridU need n k j).set d (useM need k j (d : Int) ++ [(k : Int)]) := by
  apply List.ext_getElem?
  intro u
  by_cases hu : u < n
  · rw [gridU_at hu, useM_step hy]
    by_cases e : d = u
    · subst e
      rw [if_pos rfl, List.getElem?_set_self (by rw [gridU_len]; exact hd)]
    · rw [if_neg (by omega), List.getElem?_set_ne e, gridU_at hu]
  · rw [List.getElem?_eq_none (by rw [gridU_len]; omega), List.getElem?_eq_none (by rw [List.length_set, gridU_len]; omega)]
theorem gridU_skip {need : Int → List Int} {n k j : Nat} (hy : (need (k : Int))[j]? = some (-1)) : gridU need n k (j + 1) = gridU need n k j := by
  apply List.ext_getElem?
  intro u
  by_cases hu : u < n
  · rw [gridU_at hu, gridU_at hu, useM_step hy, if_neg (by omega)]
  · rw [List.getElem?_eq_none (by rw [gridU_len]; omega), List.getElem?_eq_none (by rw [gridU_len]; omega)]
theorem gridU_end (need : Int → List Int) (n k : Nat) : gridU need n k (need (k : Int)).length = gridU need n (k + 1) 0 := by
  unfold gridU
  apply List.map_congr_left
  intro d _
  rw [useM_end, useM_zero]

theorem useB_len (need : Int → List Int) (M : Nat) (hM : ∀ u : Nat, (need (u : Int)).length ≤ M) (d : Int) : ∀ k, (useB need k d).length ≤ k * M := by
  intro k
  induction k with
  | zero => simp [useB]
  | succ k ih =>
    have e : useB need (k + 1) d = useB need k d ++ List.replicate ((need (k : Int)).count d) (k : Int) := by
      unfold useB
      rw [List.range_succ, List.flatMap_append]
      simp
    have h1 := hM k
    have h2 := List.count_le_length (a := d) (l := need (k : Int))
    rw [e, List.length_append, List.length_replicate, Nat.succ_mul]
    omega
theorem useM_len (need : Int → List Int) (M : Nat) (hM : ∀ u : Nat, (need (u : Int)).length ≤ M) (d : Int) (k j : Nat) : (useM need k j d).length ≤ k * M + M := by
  have h1 := useB_len need M hM d k
  have h2 := List.count_le_length (a := d) (l := (need (k : Int)).take j)
  have h3 := hM k
  have h4 := List.length_take_le j (need (k : Int))
  unfold useM
  rw [List.length_append, List.length_replicate]
  have h5 := List.length_take (i := j) (l := need (k : Int))
  omega
def SeenB (seen : List Bool) (x : Int) : Prop := ∃ u : Nat, x = (u : Int) ∧ seen.getD u false = true
structure PastO (need : Int → List Int) (n : Nat) (a : Int) (seen : List Bool) (left : List Int) : Prop where
  len : seen.length = n
  sound : ∀ d, SeenB seen d → PastK need a d
  left_ok : ∀ x ∈ left, x = a ∨ SeenB seen x
  left_lt : ∀ x ∈ left, ∃ u : Nat, u < n ∧ x = (u : Int)
  done : ∀ x, (x = a ∨ SeenB seen x) → x ∉ left → ∀ d ∈ need x, 0 ≤ d → SeenB seen d
structure PastI (need : Int → List Int) (n : Nat) (a : Int) (seen : List Bool) (left : List Int) (i : Int) (j : Nat) : Prop where
  len : seen.length = n
  sound : ∀ d, SeenB seen d → PastK need a d
  left_ok : ∀ x ∈ left, x = a ∨ SeenB seen x
  left_lt : ∀ x ∈ left, ∃ u : Nat, u < n ∧ x = (u : Int)
  done : ∀ x, (x = a ∨ SeenB seen x) → x ∉ left → x ≠ i → ∀ d ∈ need x, 0 ≤ d → SeenB seen d
  here : i = a ∨ SeenB seen i
  part : ∀ d ∈ (need i).take j, 0 ≤ d → SeenB seen d
theorem seen_none (n : Nat) (x : Int) : ¬ SeenB (List.replicate n false) x := by
  rintro ⟨u, _, h⟩
  rw [List.getD_eq_getElem?_getD, List.getElem?_replicate] at h
  split at h <;> simp at h
theorem seen_set {seen : List Bool} {u : Nat} (hu : u < seen.length) (x : Int) : SeenB (seen.set u true) x ↔ SeenB seen x ∨ x = (u : Int) := by
  unfold SeenB
  constructor
  · rintro ⟨v, rfl, h⟩
    by_cases e : u = v
    · subst e; exact .inr rfl
    · left
      refine ⟨v, rfl, ?_⟩
      rw [List.getD_eq_getElem?_getD, List.getElem?_set_ne e] at h
      rw [List.getD_eq_getElem?_getD]; exact h
  · rintro (⟨v, rfl, h⟩ | rfl)
    · refine ⟨v, rfl, ?_⟩
      rw [List.getD_eq_getElem?_getD] at h ⊢
      by_cases e : u = v
      · subst e; rw [List.getElem?_set_self hu]; rfl
      · rw [List.getElem?_set_ne e]; exact h
    · refine ⟨u, rfl, ?_⟩
      rw [List.getD_eq_getElem?_getD, List.getElem?_set_self hu]; rfl
theorem past_begin (need : Int → List Int) {n a : Nat} (ha : a < n) : PastO need n (a : Int) (List.replicate n false) [(a : Int)] := by
  refine ⟨by simp, fun d h => absurd h (seen_none n d), fun x hx => .inl (by simpa using hx), fun x hx => ⟨a, ha, by simpa using hx⟩, fun x hx hn => ?_⟩
  rcases hx with rfl | hx
  · simp at hn
  · exact absurd hx (seen_none n x)
theorem past_pop {need : Int → List Int} {n : Nat} {a : Int} {seen : List Bool} {left : List Int} {i : Int} (h : PastO need n a seen (left ++ [i])) : PastI need n a seen left i 0 :=
  ⟨h.len, h.sound, fun x hx => h.left_ok x (by simp [hx]), fun x hx => h.left_lt x (by simp [hx]), fun x hx hn hi => h.done x hx (by simp [hn, hi]), h.left_ok i (by simp), fun d hd => by simp at hd⟩
theorem part_step {need : Int → List Int} {i : Int} {j : Nat} {d : Int} (hd : (need i)[j]? = some d) {seen : List Bool} (h : ∀ d ∈ (need i).take j, 0 ≤ d → SeenB seen d) (h2 : 0 ≤ d → SeenB seen d) : ∀ d ∈ (need i).take (j + 1), 0 ≤ d → SeenB seen d := by
  intro x hx
  rw [List.take_add_one, hd, List.mem_append] at hx
  rcases hx with hx | hx
  · exact h x hx
  · obtain rfl : x = d := by simpa using hx
    exact h2
theorem past_seen {need : Int → List Int} {n : Nat} {a : Int} {seen : List Bool} {left : List Int} {i : Int} {j : Nat} {d : Int} (h : PastI need n a seen left i j) (hd : (need i)[j]? = some d) (hs : 0 ≤ d → SeenB seen d) : PastI need n a seen left i (j + 1) :=
  ⟨h.len, h.sound, h.left_ok, h.left_lt, h.done, h.here, part_step hd h.part hs⟩
theorem past_push {need : Int → List Int} {n : Nat} {a : Int} {seen : List Bool} {left : List Int} {i : Int} {j u : Nat} (h : PastI need n a seen left i j) (hd : (need i)[j]? = some (u : Int)) (hu : u < n) : PastI need n a (seen.set u true) (left ++ [(u : Int)]) i (j + 1) := by
  have hl : u < seen.length := by rw [h.len]; exact hu
  have st := seen_set hl
  have mono : ∀ x, SeenB seen x → SeenB (seen.set u true) x := fun x hx => (st x).2 (.inl hx)
  have hmem : (u : Int) ∈ need i := List.mem_of_getElem? hd
  refine ⟨by rw [List.length_set]; exact h.len, fun d hs => ?_, fun x hx => ?_, fun x hx => ?_, fun x hx hn hi d hd2 h0 => ?_, h.here.imp id (mono i), part_step hd (fun d hd2 h0 => mono d (h.part d hd2 h0)) (fun _ => (st _).2 (.inr rfl))⟩
  · rcases (st d).1 hs with hs | rfl
    · exact h.sound d hs
    · rcases h.here with rfl | hh
      · exact .one hmem (by omega)
      · exact .more (h.sound i hh) hmem (by omega)
  · rcases List.mem_append.1 hx with hx | hx
    · exact (h.left_ok x hx).imp id (mono x)
    · exact .inr ((st x).2 (.inr (by simpa using hx)))
  · rcases List.mem_append.1 hx with hx | hx
    · exact h.left_lt x hx
    · exact ⟨u, hu, by simpa using hx⟩
  · rw [List.mem_append, not_or] at hn
    have hxu : x ≠ (u : Int) := fun e => hn.2 (by simp [e])
    exact mono d (h.done x (hx.imp id fun hs => ((st x).1 hs).resolve_right hxu) hn.1 hi d hd2 h0)
theorem past_done {need : Int → List Int} {n : Nat} {a : Int} {seen : List Bool} {left : List Int} {i : Int} (h : PastI need n a seen left i (need i).length) : PastO need n a seen left := by
  refine ⟨h.len, h.sound, h.left_ok, h.left_lt, fun x hx hn d hd h0 => ?_⟩
  by_cases e : x = i
  · subst e
    exact h.part d (by rw [List.take_length]; exact hd) h0
  · exact h.done x hx hn e d hd h0
theorem past_end {need : Int → List Int} {n : Nat} {a : Int} {seen : List Bool} (h : PastO need n a seen []) (x : Int) : SeenB seen x ↔ PastK need a x :=
  past_is (P := SeenB seen) h.sound (fun d hd h0 => h.done a (.inl rfl) (by simp) d hd h0) (fun i hi d hd h0 => h.done i (.inr hi) (by simp) d hd h0) x
def unseen (seen : List Bool) : Nat := seen.countP (fun b => !b)
theorem unseen_set {seen : List Bool} {u : Nat} (hu : u < seen.length) (h : seen.getD u false = false) : unseen (seen.set u true) + 1 = unseen seen := by
  unfold unseen
  induction seen generalizing u with
  | nil => simp at hu
  | cons b l ih =>
    cases u with
    | zero =>
      simp at h
      subst h
      simp
    | succ u =>
      have := ih (u := u) (by simpa using hu) (by simpa using h)
      simp only [List.set_cons_succ, List.countP_cons]
      omega
theorem unseen_le (seen : List Bool) : unseen seen ≤ seen.length := List.countP_le_length
end Go.Proofs.YteaencgbgfnokaaDoor
