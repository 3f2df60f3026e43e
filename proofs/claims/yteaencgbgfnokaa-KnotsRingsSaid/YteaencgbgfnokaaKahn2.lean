import Derived.Test.YteaencgbgfnokaaKahn
/- What the order of places reaches, from nothing told on: each place once, the end is one. -/
set_option linter.unusedVariables false
namespace Go.Proofs.Yteaencgbgfnokaa

/-- Told so, from nothing on. -/
inductive ReachK (need : Int → List Int) (n : Nat) : List Int → Prop
  | nil : ReachK need n []
  | step {told : List Int} {u : Nat} (h : ReachK need n told) (hu : nextK need n told = some u) : ReachK need n (told ++ [(u : Int)])
theorem next_lt {need : Int → List Int} {n u : Nat} {told : List Int} (h : nextK need n told = some u) : u < n ∧ canB need told u = true := ⟨List.mem_range.1 (List.mem_of_find?_eq_some h), List.find?_some h⟩
theorem can_fresh {need : Int → List Int} {u : Nat} {told : List Int} (h : canB need told u = true) : (u : Int) ∉ told := by
  intro hm
  unfold canB at h
  simp [hm] at h
theorem reach_tame {need : Int → List Int} {n : Nat} {told : List Int} (h : ReachK need n told) : told.Nodup ∧ ∀ x ∈ told, ∃ u : Nat, u < n ∧ x = (u : Int) := by
  induction h with
  | nil => exact ⟨List.nodup_nil, fun x hx => by cases hx⟩
  | step h hu ih =>
    obtain ⟨h1, h2⟩ := next_lt hu
    constructor
    · rw [List.nodup_append]
      refine ⟨ih.1, by simp, ?_⟩
      intro a ha b hb e
      obtain rfl := List.mem_singleton.1 hb
      subst e
      exact can_fresh h2 ha
    · intro x hx
      rcases List.mem_append.1 hx with hx | hx
      · exact ih.2 x hx
      · exact ⟨_, h1, List.mem_singleton.1 hx⟩
theorem nodup_len : ∀ {n : Nat} {l : List Int}, l.Nodup → (∀ x ∈ l, ∃ u : Nat, u < n ∧ x = (u : Int)) → l.length ≤ n := by
  intro n
  induction n with
  | zero =>
    intro l _ hb
    cases l with
    | nil => exact Nat.le_refl _
    | cons x l =>
      obtain ⟨u, hu, _⟩ := hb x (by simp)
      exact absurd hu (Nat.not_lt_zero _)
  | succ n ih =>
    intro l hd hb
    have h1 := ih (hd.erase (n : Int)) fun x hx => by
      obtain ⟨hne, hm⟩ := (List.Nodup.mem_erase_iff hd).1 hx
      obtain ⟨u, hu, rfl⟩ := hb x hm
      exact ⟨u, by omega, rfl⟩
    have h2 := List.length_erase (a := (n : Int)) (l := l)
    split at h2 <;> omega
theorem reach_len {need : Int → List Int} {n : Nat} {told : List Int} (h : ReachK need n told) : told.length ≤ n := nodup_len (reach_tame h).1 (reach_tame h).2
theorem reach_full {need : Int → List Int} {n : Nat} {told : List Int} (h : ReachK need n told) (hl : told.length = n) : nextK need n told = none := by
  cases hn : nextK need n told with
  | none => rfl
  | some u =>
    have := reach_len (ReachK.step h hn)
    rw [List.length_append, hl, List.length_singleton] at this
    omega
/-- The end is one. -/
theorem reach_total {need : Int → List Int} {n : Nat} {a b : List Int} (ha : ReachK need n a) (hb : ReachK need n b) : a <+: b ∨ b <+: a := by
  induction ha generalizing b with
  | nil => exact .inl (List.nil_prefix)
  | step h hu ih =>
    rename_i told u
    rcases ih hb with hp | hp
    · obtain ⟨t, rfl⟩ := hp
      cases t with
      | nil => right; rw [List.append_nil]; exact List.prefix_append _ _
      | cons x t =>
        left
        have key : ∀ {c : List Int}, ReachK need n c → ∀ y s, c = told ++ y :: s → y = (u : Int) := by
          intro c hc
          induction hc with
          | nil => intro y s e; simp at e
          | step h2 hu2 ih2 =>
            rename_i told2 u2
            intro y s e
            rcases List.eq_nil_or_concat s with rfl | ⟨s', z, rfl⟩
            · have e1 : told2 = told := by
                have := List.append_inj' e rfl
                exact this.1
              have e2 : (u2 : Int) = y := by
                have := List.append_inj' e rfl
                simpa using this.2
              subst e1
              rw [hu] at hu2
              injection hu2 with hu3
              rw [← e2, hu3]
            · refine ih2 y s' ?_
              have : told2 ++ [(u2 : Int)] = (told ++ y :: s') ++ [z] := by rw [e]; simp
              exact (List.append_inj' this rfl).1
        rw [key hb x t rfl]
        exact ⟨t, by simp⟩
    · right
      exact hp.trans (List.prefix_append _ _)
theorem reach_end {need : Int → List Int} {n : Nat} {a b : List Int} (ha : ReachK need n a) (hb : ReachK need n b) (ea : nextK need n a = none) (eb : nextK need n b = none) : a = b := by
  have key : ∀ {c d : List Int}, ReachK need n c → ReachK need n d → nextK need n c = none → c <+: d → c = d := by
    intro c d hc hd ec hp
    induction hd with
    | nil => exact List.prefix_nil.1 hp
    | step h hu ih =>
      rename_i told u
      rcases List.prefix_concat_iff.1 hp with e | hp
      · exact e
      · have e := ih hp
        subst e
        rw [ec] at hu
        cases hu
  rcases reach_total ha hb with hp | hp
  · exact key ha hb ea hp
  · exact (key hb ha eb hp).symm
end Go.Proofs.Yteaencgbgfnokaa
