/-   -/
import Derived.Test.YteaencgbgfnokaaDoorM27
/- The mathematics of package order's laws: what an order that tells all says by names; closed parts. -/
set_option linter.unusedVariables false
namespace Go.Proofs.YteaencgbgfnokaaDoor

theorem nodup_sub {α : Type} [DecidableEq α] : ∀ {l m : List α}, l.Nodup → (∀ x ∈ l, x ∈ m) → l.length ≤ m.length := by
  intro l
  induction l with
  | nil => intro m _ _; exact Nat.zero_le _
  | cons x l ih =>
    intro m hd hs
    obtain ⟨hx, hd⟩ := List.nodup_cons.1 hd
    have hxm := hs x (by simp)
    have h1 := ih (m := m.erase x) hd (fun y hy => (List.mem_erase_of_ne (fun e => hx (by rw [← e]; exact hy))).2 (hs y (by simp [hy])))
    have h2 := List.length_erase_of_mem hxm
    have h3 := List.length_pos_of_mem hxm
    simp only [List.length_cons]
    omega
theorem nodup_eqlen {α : Type} [DecidableEq α] : ∀ {l m : List α}, l.Nodup → (∀ x ∈ l, x ∈ m) → m.length = l.length → m.Nodup := by
  intro l
  induction l with
  | nil =>
    intro m _ _ hl
    obtain rfl : m = [] := List.length_eq_zero_iff.1 hl
    exact List.nodup_nil
  | cons x l ih =>
    intro m hd hs hl
    have hdc := hd
    obtain ⟨hx, hd⟩ := List.nodup_cons.1 hd
    have hxm := hs x (by simp)
    have h2 := List.length_erase_of_mem hxm
    have hsub : ∀ y ∈ l, y ∈ m.erase x := fun y hy => (List.mem_erase_of_ne (fun e => hx (by rw [← e]; exact hy))).2 (hs y (by simp [hy]))
    have h1 := ih (m := m.erase x) hd hsub (by rw [h2, hl]; simp)
    have hnx : x ∉ m.erase x := fun hm => by
      have := nodup_sub (m := m.erase x) hdc (fun y hy => by
        rcases List.mem_cons.1 hy with rfl | hy
        · exact hm
        · exact hsub y hy)
      rw [h2, hl] at this
      simp only [List.length_cons] at this
      omega
    exact (List.perm_cons_erase hxm).nodup_iff.2 (List.nodup_cons.2 ⟨hnx, h1⟩)
structure LinOk (S : SetB) (lb : List Bs) : Prop where
  uniq : (S.map fun p => bsOf p.1).Nodup
  len : lb.length = S.length
  nodup : lb.Nodup
  mem : ∀ x, x ∈ lb ↔ x ∈ nsB S
  reach : ReachK (needS S) (nsB S).length (lb.map (placeB (nsB S)))
  behind : ∀ k (hk : k < lb.length), ∀ p ∈ S, bsOf p.1 = lb[k] → ∀ d ∈ p.2, bsOf d ∈ lb.take k
theorem nsB_nodup (S : SetB) : (nsB S).Nodup := asc_nodup (nsB_spec S).1
theorem nsB_mem {S : SetB} {x : Bs} : x ∈ nsB S ↔ ∃ p ∈ S, bsOf p.1 = x := by
  rw [(nsB_spec S).2, List.mem_map]
theorem need_mem {S : SetB} {p : ByteArray × Lb} (hp : p ∈ S) {d : ByteArray} (hd : d ∈ p.2) : placeB (nsB S) (bsOf d) ∈ needS S (placeB (nsB S) (bsOf p.1)) := by
  unfold needS needB
  refine List.mem_flatMap.2 ⟨(bsOf p.1, p.2.map bsOf), List.mem_filter.2 ⟨List.mem_map.2 ⟨p, hp, rfl⟩, by simp⟩, ?_⟩
  exact List.mem_map.2 ⟨bsOf d, List.mem_map.2 ⟨d, hd, rfl⟩, rfl⟩
theorem need_of {S : SetB} {x : Bs} {e : Int} (hx : x ∈ nsB S) (h : e ∈ needS S (placeB (nsB S) x)) : ∃ p ∈ S, bsOf p.1 = x ∧ ∃ d ∈ p.2, e = placeB (nsB S) (bsOf d) := by
  unfold needS needB at h
  obtain ⟨q, hq, he⟩ := List.mem_flatMap.1 h
  obtain ⟨hq1, hq2⟩ := List.mem_filter.1 hq
  obtain ⟨p, hp, rfl⟩ := List.mem_map.1 hq1
  obtain ⟨b, hb, rfl⟩ := List.mem_map.1 he
  obtain ⟨d, hd, rfl⟩ := List.mem_map.1 hb
  refine ⟨p, hp, ?_, d, hd, rfl⟩
  exact place_inj (nsB_mem.2 ⟨p, hp, rfl⟩) (by simpa using hq2)
theorem nsOf_getD (S : SetB) (u : Nat) : bsOf ((nsOf S).getD u ByteArray.empty) = (nsB S).getD u [] := by
  rw [List.getD_eq_getElem?_getD, List.getD_eq_getElem?_getD]
  unfold nsOf
  rw [List.getElem?_map]
  cases (nsB S)[u]? with
  | none => rfl
  | some b => rfl
theorem nsB_full {S : SetB} (h : (S.map fun p => bsOf p.1).Nodup) : (nsB S).length = S.length := by
  have h1 := nodup_sub h (m := nsB S) (fun x hx => ((nsB_spec S).2 x).2 hx)
  have h2 := nsB_len S
  rw [List.length_map] at h1
  omega
end Go.Proofs.YteaencgbgfnokaaDoor
/- A set told in another order: the same order, the same past, the same heads. -/
set_option linter.unusedVariables false
namespace Go.Proofs.YteaencgbgfnokaaDoor

theorem nsB_perm {S T : SetB} (h : S.Perm T) : nsB S = nsB T :=
  asc_unique (nsB_spec S).1 (nsB_spec T).1 (fun x => by rw [(nsB_spec S).2, (nsB_spec T).2]; exact (h.map fun p => bsOf p.1).mem_iff)
theorem need_perm {S T : SetB} (h : S.Perm T) (u : Int) : (needS S u).Perm (needS T u) := by
  unfold needS needB
  rw [nsB_perm h]
  exact ((h.map fun p => (bsOf p.1, p.2.map bsOf)).filter _).flatMap_right _
theorem wait_perm {S T : SetB} (h : S.Perm T) (told : List Int) (u : Int) : waitK (needS S) told u = waitK (needS T) told u := (need_perm h u).countP_eq _
theorem next_perm {S T : SetB} (h : S.Perm T) (n : Nat) (told : List Int) : nextK (needS S) n told = nextK (needS T) n told := by
  unfold nextK
  congr 1
  funext u
  unfold canB
  rw [wait_perm h]
theorem reach_perm {S T : SetB} (h : S.Perm T) {n : Nat} {told : List Int} (hr : ReachK (needS S) n told) : ReachK (needS T) n told := by
  induction hr with
  | nil => exact .nil
  | step _ hu ih => exact .step ih (by rw [← next_perm h]; exact hu)
theorem lin_perm {S T : SetB} (h : S.Perm T) {a b : Lb} {k l : Int} (ha : LinR S a k) (hb : LinR T b l) : a = b ∧ k = l := by
  have hn := nsB_perm h
  have hl := h.length_eq
  have ho : nsOf S = nsOf T := by unfold nsOf; rw [hn]
  rcases ha with ⟨h1, rfl, rfl⟩ | ⟨h1, t, r1, n1, hx⟩
  · rcases hb with ⟨_, rfl, rfl⟩ | ⟨h2, _⟩
    · exact ⟨rfl, rfl⟩
    · rw [hn] at h1; omega
  · rcases hb with ⟨h2, _, _⟩ | ⟨h2, t', r2, n2, hy⟩
    · rw [← hn] at h2; omega
    · have r1' := reach_perm h r1
      rw [hn] at r1' n1
      rw [next_perm h] at n1
      have e := reach_end r1' r2 n1 n2
      subst e
      rcases hx with ⟨x1, rfl, rfl⟩ | ⟨x1, rfl, rfl⟩ <;> rcases hy with ⟨y1, rfl, rfl⟩ | ⟨y1, rfl, rfl⟩
      · exact ⟨rfl, rfl⟩
      · omega
      · omega
      · exact ⟨by rw [ho], rfl⟩
end Go.Proofs.YteaencgbgfnokaaDoor
