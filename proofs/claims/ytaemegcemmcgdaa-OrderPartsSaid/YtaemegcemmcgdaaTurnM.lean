import Derived.Test.YtaemegcemmcgdaaOrdL
/- A set told in another order: the same order, the same past, the same heads. -/
set_option linter.unusedVariables false
namespace Go.Proofs.Ytaemegcemmcgdaa

theorem nsB_perm {S T : SetB} (h : S.Perm T) : nsB S = nsB T :=
  asc_unique (nsB_spec S).1 (nsB_spec T).1 (fun x => by rw [(nsB_spec S).2, (nsB_spec T).2]; exact (h.map fun p => bsOf p.1).mem_iff)
theorem need_perm {S T : SetB} (h : S.Perm T) (u : Int) : (needS S u).Perm (needS T u) := by
  unfold needS needB
  rw [nsB_perm h]
  exact ((h.map fun p => (bsOf p.1, p.2.map bsOf)).filter _).flatMap_right _
theorem wait_perm {S T : SetB} (h : S.Perm T) (told : List Int) (u : Int) : waitK (needS S) told u = waitK (needS T) told u := (need_perm h u).countP_eq _
theorem next_perm {S T : SetB} (h : S.Perm T) (n : Nat) (told : List Int) : nextK (needS S) n told = nextK (needS T) n told := by
  unfold nextK
  congr 1
  funext u
  unfold canB
  rw [wait_perm h]
theorem reach_perm {S T : SetB} (h : S.Perm T) {n : Nat} {told : List Int} (hr : ReachK (needS S) n told) : ReachK (needS T) n told := by
  induction hr with
  | nil => exact .nil
  | step _ hu ih => exact .step ih (by rw [← next_perm h]; exact hu)
theorem lin_perm {S T : SetB} (h : S.Perm T) {a b : Lb} {k l : Int} (ha : LinR S a k) (hb : LinR T b l) : a = b ∧ k = l := by
  have hn := nsB_perm h
  have hl := h.length_eq
  have ho : nsOf S = nsOf T := by unfold nsOf; rw [hn]
  rcases ha with ⟨h1, rfl, rfl⟩ | ⟨h1, t, r1, n1, hx⟩
  · rcases hb with ⟨_, rfl, rfl⟩ | ⟨h2, _⟩
    · exact ⟨rfl, rfl⟩
    · rw [hn] at h1; omega
  · rcases hb with ⟨h2, _, _⟩ | ⟨h2, t', r2, n2, hy⟩
    · rw [← hn] at h2; omega
    · have r1' := reach_perm h r1
      rw [hn] at r1' n1
      rw [next_perm h] at n1
      have e := reach_end r1' r2 n1 n2
      subst e
      rcases hx with ⟨x1, rfl, rfl⟩ | ⟨x1, rfl, rfl⟩ <;> rcases hy with ⟨y1, rfl, rfl⟩ | ⟨y1, rfl, rfl⟩
      · exact ⟨rfl, rfl⟩
      · omega
      · omega
      · exact ⟨by rw [ho], rfl⟩
theorem pastk_perm {S T : SetB} (h : S.Perm T) {a d : Int} (hp : PastK (needS S) a d) : PastK (needS T) a d := by
  induction hp with
  | one hd h0 => exact .one ((need_perm h _).mem_iff.1 hd) h0
  | more _ hd h0 ih => exact .more ih ((need_perm h _).mem_iff.1 hd) h0
theorem onlyL_congr (ns : Lb) {p q : Nat → Bool} {n : Nat} (h : ∀ u, u < n → p u = q u) : onlyL ns p n = onlyL ns q n := by
  unfold onlyL
  congr 1
  exact List.filter_congr fun u hu => h u (List.mem_range.1 hu)
theorem past_perm {S T : SetB} (h : S.Perm T) {nm : Bs} {a b : Lb} (ha : PastR S nm a) (hb : PastR T nm b) : a = b := by
  obtain ⟨p, hp, rfl⟩ := ha
  obtain ⟨q, hq, rfl⟩ := hb
  have hn := nsB_perm h
  have ho : nsOf S = nsOf T := by unfold nsOf; rw [hn]
  rw [ho, hn]
  split
  · refine onlyL_congr _ fun u _ => ?_
    rw [Bool.eq_iff_iff, hp, hq, hn]
    exact ⟨pastk_perm h, pastk_perm h.symm⟩
  · rfl
theorem head_perm {S T : SetB} (h : S.Perm T) {a b : Lb} (ha : HeadR S a) (hb : HeadR T b) : a = b := by
  obtain ⟨p, hp, rfl⟩ := ha
  obtain ⟨q, hq, rfl⟩ := hb
  have hn := nsB_perm h
  have ho : nsOf S = nsOf T := by unfold nsOf; rw [hn]
  rw [ho, hn]
  rw [hn] at hp
  refine onlyL_congr _ fun u hu => ?_
  rw [Bool.eq_iff_iff, hp u hu, hq u hu]
  constructor
  · intro k v hv hm; exact k v hv ((need_perm h _).mem_iff.2 hm)
  · intro k v hv hm; exact k v hv ((need_perm h _).mem_iff.1 hm)
theorem small_perm {S T : SetB} (h : S.Perm T) (hs : SmallS S) : SmallS T := by
  refine ⟨by rw [← h.length_eq]; exact hs.1, ?_⟩
  have := (h.map fun p => p.2.length).sum_nat
  rw [← this]; exact hs.2
/-- The set told from the end, turned by k: its first t. -/
def turnS (S : SetB) (k t : Nat) : SetB := (List.range t).filterMap fun i => S[(S.length - 1 - i + k) % S.length]?
theorem turnS_step {S : SetB} {k t : Nat} {p : ByteArray × Lb} (hp : S[(S.length - 1 - t + k) % S.length]? = some p) : turnS S k (t + 1) = turnS S k t ++ [p] := by
  unfold turnS
  rw [List.range_succ, List.filterMap_append]
  simp [hp]
theorem turnS_perm {S : SetB} {k : Nat} (hk : k < S.length) : (turnS S k S.length).Perm S := by
  have e : turnS S k S.length = (S.drop k ++ S.take k).reverse := by
    have h1 : ∀ t, t ≤ S.length → turnS S k t = ((S.drop k ++ S.take k).reverse).take t := by
      intro t
      induction t with
      | zero => intro _; simp [turnS]
      | succ t ih =>
        intro ht
        have hlen : (S.drop k ++ S.take k).length = S.length := by rw [List.length_append, List.length_drop, List.length_take]; omega
        have hi : (S.length - 1 - t + k) % S.length < S.length := Nat.mod_lt _ (by omega)
        have hg : ((S.drop k ++ S.take k).reverse)[t]? = some (S[(S.length - 1 - t + k) % S.length]'hi) := by
          rw [List.getElem?_reverse (by rw [hlen]; omega), hlen]
          by_cases h : S.length - 1 - t < S.length - k
          · rw [List.getElem?_append_left (by rw [List.length_drop]; exact h), List.getElem?_drop]
            rw [List.getElem?_eq_getElem (by omega)]
            congr 1
            have : (S.length - 1 - t + k) % S.length = k + (S.length - 1 - t) := by rw [Nat.mod_eq_of_lt (by omega)]; omega
            simp only [this]
          · rw [List.getElem?_append_right (by rw [List.length_drop]; omega), List.length_drop, List.getElem?_take, if_pos (by omega)]
            rw [List.getElem?_eq_getElem (by omega)]
            congr 1
            have : (S.length - 1 - t + k) % S.length = S.length - 1 - t - (S.length - k) := by
              rw [Nat.mod_eq_sub_mod (by omega), Nat.mod_eq_of_lt (by omega)]; omega
            simp only [this]
        rw [turnS_step (p := S[(S.length - 1 - t + k) % S.length]'hi) (by rw [List.getElem?_eq_getElem hi]), ih (by omega), List.take_add_one, hg]
        rfl
    rw [h1 _ (Nat.le_refl _)]
    refine List.take_of_length_le ?_
    rw [List.length_reverse, List.length_append, List.length_drop, List.length_take]; omega
  rw [e]
  refine (List.reverse_perm _).trans (List.perm_append_comm.trans ?_)
  rw [List.take_append_drop]
end Go.Proofs.Ytaemegcemmcgdaa
