/- Mathematics that the law KnotsSort wants: there is an order just if every thing is alone and no edge leads from a thing to itself; in the order all edges lead on. -/
import Derived.Test.YtaemegcemmcgdaaKLawM
import Derived.Test.YtaemegcemmcgdaaKnR
set_option linter.unusedVariables false
namespace Go.Proofs.Ytaemegcemmcgdaa

theorem least_idem {R : Nat → Nat → Prop} {ks : Nat → Nat} {n : Nat} (h : ∀ x, x < n → LeastK R x (ks x)) {x : Nat} (hx : x < n) : ks x ≤ x ∧ ks (ks x) = ks x := by
  have h1 := h x hx
  have hl := h1.le
  refine ⟨hl, ?_⟩
  have h2 : LeastK R (ks x) (ks x) := ⟨Knot.refl _, fun b hb => h1.2 b (h1.1.trans hb)⟩
  exact (h (ks x) (by omega)).unique h2
/-- From any told ones on there is an end. -/
theorem reach_stop {need : Int → List Int} {n : Nat} : ∀ (d : Nat) {told : List Int}, ReachK need n told → n - told.length = d → ∃ t, ReachK need n t ∧ nextK need n t = none
  | d, told, h, hd => by
    cases hn : nextK need n told with
    | none => exact ⟨told, h, hn⟩
    | some u =>
      have h2 := ReachK.step h hn
      have hl := reach_len h2
      simp only [List.length_append, List.length_cons, List.length_nil] at hl
      cases d with
      | zero => omega
      | succ d => exact reach_stop d h2 (by simp only [List.length_append, List.length_cons, List.length_nil]; omega)
theorem noring_of {es : List (Nat × Nat)} {n : Nat} {out : List Int} (h : ReachK (needE es) n out) (hl : out.length = n) {x : Nat} (hx : x < n) (hw : Walk (EdR es) x x) : False := by
  obtain ⟨hnd, hlt⟩ := reach_tame h
  obtain ⟨i, j, hij, hi, hj⟩ := reach_noring h hw (full_mem hnd hlt hl hx)
  have := nodupI_at hnd hi hj
  omega
theorem sort_alone {es : List (Nat × Nat)} {n : Nat} {out : List Int} {ok : Bool} {ks : Nat → Nat} (hr : ∀ e ∈ es, e.1 < n ∧ e.2 < n) (h : ∀ x, x < n → LeastK (EdR es) x (ks x)) (hs : SortR n es out ok) :
    ok = true ↔ (∀ x, x < n → ks x = x) ∧ ∀ e ∈ es, e.1 ≠ e.2 := by
  rcases hs with ⟨rfl, h1, h2⟩ | ⟨rfl, rfl, hno⟩
  · refine ⟨fun _ => ⟨fun x hx => ?_, fun e he hee => ?_⟩, fun _ => rfl⟩
    · have hk := h x hx
      refine Classical.byContradiction fun hne => ?_
      rcases hk.1.1 with e | hw
      · exact hne e.symm
      · rcases hk.1.2 with e | hw2
        · exact hne e
        · exact noring_of h1 h2 hx (hw.trans hw2)
    · have this : (e.1, e.1) = e := by rw [Prod.ext_iff]; exact ⟨rfl, hee⟩
      have hm : (e.1, e.1) ∈ es := by rw [this]; exact he
      exact noring_of h1 h2 (hr e he).1 (Walk.one (E := EdR es) hm)
  · refine ⟨fun h => (by cases h), fun ⟨ha, hb⟩ => ?_⟩
    exfalso
    obtain ⟨t, ht, hn⟩ := reach_stop (need := needE es) (n := n) n .nil (by simp)
    obtain ⟨u, hu, hw⟩ := stuck_ring (fun e he => (hr e he).1) ht hn (hno t ht)
    rcases ring_knot hw with he | ⟨v, hv, hk⟩
    · exact hb _ he rfl
    · have h1 := (h u hu).2 v hk
      rw [ha u hu] at h1
      have hvn : v < n := by
        rcases hk.1 with e | w
        · omega
        · have key : ∀ {a b : Nat}, Walk (EdR es) a b → b < n := by
            intro a b w
            induction w with
            | one g => exact (hr _ g).2
            | more _ _ ih => exact ih
          exact key w
      have h2 := (h v hvn).2 u hk.symm
      rw [ha v hvn] at h2
      omega
/-- What stands at a thing once `j` of the order are told. -/
def atF (out : List Int) (j v : Nat) : Nat := if (v : Int) ∈ out.take j then out.idxOf (v : Int) + 1 else 0
theorem atF_zero (out : List Int) (v : Nat) : atF out 0 v = 0 := by simp [atF]
theorem atF_at {out : List Int} (hn : out.Nodup) {j x : Nat} (hx : out[j]? = some (x : Int)) : atF out (j + 1) x = j + 1 := by
  have hj := (List.getElem?_eq_some_iff.1 hx).1
  have hm : (x : Int) ∈ out.take (j + 1) := List.mem_iff_getElem?.2 ⟨j, by rw [List.getElem?_take_of_lt (by omega)]; exact hx⟩
  have hi : out.idxOf (x : Int) = j := by
    have hm2 : (x : Int) ∈ out := List.mem_of_getElem? hx
    have hlt := List.idxOf_lt_length_of_mem hm2
    have h2 : out[out.idxOf (x : Int)]? = some (x : Int) := by rw [List.getElem?_eq_getElem hlt]; simp
    exact nodupI_at hn h2 hx
  unfold atF
  rw [if_pos hm, hi]
theorem atF_off {out : List Int} {j x v : Nat} (hx : out[j]? = some (x : Int)) (hv : v ≠ x) : atF out (j + 1) v = atF out j v := by
  unfold atF
  have : ((v : Int) ∈ out.take (j + 1)) ↔ (v : Int) ∈ out.take j := by
    rw [List.take_add_one, hx, List.mem_append]
    simp
    omega
  simp only [this]
theorem atF_pos {es : List (Nat × Nat)} {n : Nat} {out : List Int} (h : ReachK (needE es) n out) (hl : out.length = n) {v : Nat} (hv : v < n) : 0 < atF out n v := by
  obtain ⟨hnd, hlt⟩ := reach_tame h
  have hm := full_mem hnd hlt hl hv
  unfold atF
  rw [List.take_of_length_le (by omega), if_pos hm]
  omega
theorem atF_lt {es : List (Nat × Nat)} {n : Nat} {out : List Int} (h : ReachK (needE es) n out) (hl : out.length = n) (hr : ∀ e ∈ es, e.1 < n ∧ e.2 < n) {e : Nat × Nat} (he : e ∈ es) : atF out n e.1 < atF out n e.2 := by
  obtain ⟨hnd, hlt⟩ := reach_tame h
  obtain ⟨k, hk⟩ := List.getElem?_of_mem (full_mem hnd hlt hl (hr e he).2)
  obtain ⟨j, hj, hjv⟩ := reach_beh h k _ hk (e.1 : Int) (mem_needE.2 ⟨e, he, rfl, rfl⟩)
  have hkl := (List.getElem?_eq_some_iff.1 hk).1
  have key : ∀ {i : Nat} {x : Nat}, out[i]? = some (x : Int) → atF out n x = i + 1 := by
    intro i x hx
    have hm2 : (x : Int) ∈ out := List.mem_of_getElem? hx
    have hlt2 := List.idxOf_lt_length_of_mem hm2
    have h2 : out[out.idxOf (x : Int)]? = some (x : Int) := by rw [List.getElem?_eq_getElem hlt2]; simp
    unfold atF
    rw [List.take_of_length_le (by omega), if_pos hm2, nodupI_at hnd h2 hx]
  rw [key hjv, key hk]
  omega
theorem atF_le {out : List Int} {n : Nat} (h : out.length ≤ n) (j v : Nat) : atF out j v ≤ n := by
  unfold atF
  split
  · rename_i hm
    have := List.idxOf_lt_length_of_mem (List.mem_of_mem_take hm)
    omega
  · omega
/-- Whether everything is alone: of the first `j` knots, and of the first `j` edges. -/
theorem alone_knot {ks : Nat → Nat} {b : Bool} {j : Nat} (h : b = true ↔ ∀ i, i < j → ks i = i) : (b && (ks j : Int) == (j : Int)) = true ↔ ∀ i, i < j + 1 → ks i = i := by
  rw [Bool.and_eq_true, h, beq_iff_eq, Int.natCast_inj]
  constructor
  · rintro ⟨h1, h2⟩ i hi
    by_cases e : i = j
    · rw [e]; exact h2
    · exact h1 i (by omega)
  · intro h1
    exact ⟨fun i hi => h1 i (by omega), h1 j (by omega)⟩
def selfE (n : Int) (e : Int × Int) : Prop := e.1 = e.2 ∧ 0 ≤ e.1 ∧ e.1 < n
theorem alone_edge {n : Int} {es : Ed} {A : Prop} {b c : Bool} {j : Nat} {e : Int × Int} (he : es[j]? = some e) (h : b = true ↔ A ∧ ∀ e ∈ es.take j, ¬ selfE n e) (hc : c = true ↔ b = true ∧ ¬ selfE n e) : c = true ↔ A ∧ ∀ e ∈ es.take (j + 1), ¬ selfE n e := by
  rw [hc, h, List.take_add_one, he]
  constructor
  · rintro ⟨⟨h1, h2⟩, h3⟩
    refine ⟨h1, fun x hx => ?_⟩
    rcases List.mem_append.1 hx with hx | hx
    · exact h2 x hx
    · obtain rfl : x = e := by simpa using hx
      exact h3
  · rintro ⟨h1, h2⟩
    exact ⟨⟨h1, fun x hx => h2 x (List.mem_append.2 (.inl hx))⟩, h2 e (List.mem_append.2 (.inr (by simp)))⟩
theorem self_iff {n : Int} {es : Ed} : (∀ e ∈ es, ¬ selfE n e) ↔ ∀ e ∈ toN (amongL n es), e.1 ≠ e.2 := by
  unfold toN amongL
  constructor
  · intro h e he
    obtain ⟨e0, h0, rfl⟩ := List.mem_map.1 he
    obtain ⟨h1, h2⟩ := List.mem_filter.1 h0
    have h3 := rightP_iff.1 h2
    intro hee
    simp only at hee
    exact h e0 h1 ⟨by omega, by omega, by omega⟩
  · intro h e he hs
    obtain ⟨s1, s2, s3⟩ := hs
    exact h (e.1.toNat, e.2.toNat) (List.mem_map.2 ⟨e, List.mem_filter.2 ⟨he, rightP_iff.2 ⟨by omega, by omega, by omega, by omega⟩⟩, rfl⟩) (by simp only; rw [s1])
/-- What the law asks of the order and the knots, at one go. -/
theorem sort_says {n : Int} {N : Nat} {es : Ed} {out : List Int} {ok b : Bool} {ks : Nat → Nat} (hl : ∀ e ∈ toN (amongL n es), e.1 < N ∧ e.2 < N) (h : ∀ x, x < N → LeastK (EdR (toN (amongL n es))) x (ks x)) (hs : SortR N (toN (amongL n es)) out ok)
    (hb : b = true ↔ (∀ x, x < N → ks x = x) ∧ ∀ e ∈ es, ¬ selfE n e) : ok = b := by
  have h1 := sort_alone hl h hs
  rw [← self_iff] at h1
  rw [Bool.eq_iff_iff, h1, hb]
end Go.Proofs.Ytaemegcemmcgdaa
