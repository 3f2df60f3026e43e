/- Mathematics that the law KnotsRings wants: the ring i * s % n -> (i + 1) * s % n of a step with no common divisor; the ring without one edge. -/
import Derived.Test.YteaencgbgfnokaaKLawM
set_option linter.unusedVariables false
namespace Go.Proofs.Yteaencgbgfnokaa

theorem mulmod_inj_le {n s i j : Nat} (hg : Nat.gcd s n = 1) (hij : i ≤ j) (hj : j < n) (h : i * s % n = j * s % n) : i = j := by
  have h1 : (j * s - i * s) % n = 0 := Nat.sub_mod_eq_zero_of_mod_eq h.symm
  have h2 : n ∣ (j - i) * s := by rw [Nat.sub_mul]; exact Nat.dvd_of_mod_eq_zero h1
  have hc : Nat.Coprime n s := by unfold Nat.Coprime; rw [Nat.gcd_comm]; exact hg
  have h3 : n ∣ j - i := hc.dvd_of_dvd_mul_right h2
  have h4 := Nat.eq_zero_of_dvd_of_lt h3 (by omega)
  omega
theorem mulmod_inj {n s i j : Nat} (hg : Nat.gcd s n = 1) (hi : i < n) (hj : j < n) (h : i * s % n = j * s % n) : i = j := by
  rcases Nat.le_total i j with hl | hl
  · exact mulmod_inj_le hg hl hj h
  · exact (mulmod_inj_le hg hl hi h.symm).symm
theorem mulmod_nodup {n s : Nat} (hg : Nat.gcd s n = 1) : ∀ k, k ≤ n → ((List.range k).map fun i => i * s % n).Nodup := by
  intro k hk
  rw [List.nodup_iff_pairwise_ne, List.pairwise_map]
  refine (List.nodup_range (n := k)).imp_of_mem ?_
  intro a b ha hb hab e
  exact hab (mulmod_inj hg (by have := List.mem_range.1 ha; omega) (by have := List.mem_range.1 hb; omega) e)
theorem mulmod_onto {n s : Nat} (hg : Nat.gcd s n = 1) {x : Nat} (hx : x < n) : ∃ i, i < n ∧ i * s % n = x := by
  refine Classical.byContradiction fun hno => ?_
  have hnd : (((List.range n).map fun i => i * s % n) ++ [x]).Nodup := by
    rw [List.nodup_append]
    refine ⟨mulmod_nodup hg n (Nat.le_refl _), by simp, ?_⟩
    intro a ha b hb e
    obtain ⟨i, hi, rfl⟩ := List.mem_map.1 ha
    have hb' : b = x := by simpa using hb
    exact hno ⟨i, List.mem_range.1 hi, by rw [← hb', ← e]⟩
  have := nodupN_len (n := n) hnd (fun t ht => by
    rcases List.mem_append.1 ht with ht | ht
    · obtain ⟨i, hi, rfl⟩ := List.mem_map.1 ht
      exact Nat.mod_lt _ (by omega)
    · have : t = x := by simpa using ht
      omega)
  simp at this
  omega
/-- The first `k` edges of the ring. -/
def ringE (n s k : Nat) : List (Nat × Nat) := (List.range k).map fun i => (i * s % n, (i + 1) * s % n)
theorem ringE_lt {n s k : Nat} (hn : 0 < n) : ∀ e ∈ ringE n s k, e.1 < n ∧ e.2 < n := by
  intro e he
  obtain ⟨i, _, rfl⟩ := List.mem_map.1 he
  exact ⟨Nat.mod_lt _ hn, Nat.mod_lt _ hn⟩
theorem ring_walk {n s : Nat} {R : Nat → Nat → Prop} : ∀ (d i : Nat), (∀ k, i ≤ k → k < i + d + 1 → R (k * s % n) ((k + 1) * s % n)) → Walk R (i * s % n) ((i + d + 1) * s % n)
  | 0, i, h => .one (h i (Nat.le_refl _) (by omega))
  | d + 1, i, h => by
    have h1 := ring_walk d (i + 1) (fun k h1 h2 => h k (by omega) (by omega))
    have e : i + 1 + d + 1 = i + (d + 1) + 1 := by omega
    rw [e] at h1
    exact .more (h i (Nat.le_refl _) (by omega)) h1
theorem ring_least {n s : Nat} (hg : Nat.gcd s n = 1) {x : Nat} (hx : x < n) : LeastK (EdR (ringE n s n)) x 0 := by
  obtain ⟨i, hi, rfl⟩ := mulmod_onto hg hx
  have hR : ∀ k, k < n → EdR (ringE n s n) (k * s % n) ((k + 1) * s % n) := fun k hk => List.mem_map.2 ⟨k, List.mem_range.2 hk, rfl⟩
  have h0 : (n : Nat) * s % n = 0 := Nat.mul_mod_right n s
  have w1 : Walk (EdR (ringE n s n)) (i * s % n) 0 := by
    have h := ring_walk (R := EdR (ringE n s n)) (n - i - 1) i (fun k _ h2 => hR k (by omega))
    have e : i + (n - i - 1) + 1 = n := by omega
    rw [e, h0] at h
    exact h
  refine ⟨⟨?_, ?_⟩, fun b _ => Nat.zero_le b⟩
  · exact .inr w1
  · rcases Nat.eq_zero_or_pos i with e | hp
    · subst e
      left
      simp
    · have h := ring_walk (R := EdR (ringE n s n)) (i - 1) 0 (fun k _ h2 => hR k (by omega))
      have e : 0 + (i - 1) + 1 = i := by omega
      rw [e] at h
      right
      simpa using h
/-- Where a thing stands on the ring. -/
noncomputable def seatR (n s x : Nat) : Nat := open Classical in if h : ∃ i, i < n ∧ i * s % n = x then h.choose else 0
theorem seatR_at {n s : Nat} (hg : Nat.gcd s n = 1) {i : Nat} (hi : i < n) : seatR n s (i * s % n) = i := by
  have h : ∃ k, k < n ∧ k * s % n = i * s % n := ⟨i, hi, rfl⟩
  unfold seatR
  rw [dif_pos h]
  exact mulmod_inj hg h.choose_spec.1 hi h.choose_spec.2
noncomputable def rankR (n s c x : Nat) : Nat := if seatR n s x ≤ c then seatR n s x + n - (c + 1) else seatR n s x - (c + 1)
theorem rank_up {n s c : Nat} (hg : Nat.gcd s n = 1) (hc : c < n) {i : Nat} (hi : i < n) (hic : i ≠ c) : rankR n s c (i * s % n) < rankR n s c ((i + 1) * s % n) := by
  have h1 := seatR_at hg hi
  have h2 : seatR n s ((i + 1) * s % n) = if i + 1 = n then 0 else i + 1 := by
    by_cases e : i + 1 = n
    · rw [if_pos e, e, Nat.mul_mod_right]
      have := seatR_at hg (i := 0) (by omega)
      simpa using this
    · rw [if_neg e]
      exact seatR_at hg (by omega)
  unfold rankR
  rw [h1, h2]
  by_cases e : i + 1 = n
  · rw [if_pos e]
    split <;> split <;> omega
  · rw [if_neg e]
    split <;> split <;> omega
theorem walk_rank {R : Nat → Nat → Prop} {f : Nat → Nat} (h : ∀ a b, R a b → f a < f b) {a b : Nat} (hw : Walk R a b) : f a < f b := by
  induction hw with
  | one g => exact h _ _ g
  | more g _ ih => exact Nat.lt_trans (h _ _ g) ih
theorem cut_least {n s c : Nat} {es : List (Nat × Nat)} (hg : Nat.gcd s n = 1) (hc : c < n) (he : ∀ e ∈ es, ∃ i, i < n ∧ i ≠ c ∧ e = (i * s % n, (i + 1) * s % n)) (x : Nat) : LeastK (EdR es) x x := by
  have hup : ∀ a b, EdR es a b → rankR n s c a < rankR n s c b := by
    intro a b hab
    obtain ⟨i, hi, hic, e⟩ := he (a, b) hab
    injection e with e1 e2
    rw [e1, e2]
    exact rank_up hg hc hi hic
  refine ⟨Knot.refl x, fun b hb => ?_⟩
  rcases hb.1 with e | w1
  · omega
  · rcases hb.2 with e | w2
    · omega
    · have := walk_rank hup (w1.trans w2)
      omega
theorem step_ends {n : Nat} : Nat.gcd (n + 1) n = 1 := by
  rw [Nat.gcd_comm, Nat.gcd_rec]
  rcases Nat.lt_or_ge 1 n with h | h
  · rw [Nat.add_mod_left, Nat.mod_eq_of_lt h]; simp
  · obtain rfl | rfl : n = 0 ∨ n = 1 := by omega
    · rfl
    · rfl
end Go.Proofs.Yteaencgbgfnokaa
