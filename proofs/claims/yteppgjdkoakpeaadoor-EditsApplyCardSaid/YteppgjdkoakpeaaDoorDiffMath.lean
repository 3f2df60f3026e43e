/- Plain mathematics of one round of the search. No program is named here. -/
import Derived.Test.YteppgjdkoakpeaaDoorHunks
set_option linter.unusedVariables false
namespace Go.Proofs.YteppgjdkoakpeaaDoor

theorem Pa.split {a b : Ls} {ss : List Stp} {x y : Nat} (h : Pa a b ss x y) : ∀ j, j ≤ ss.length → ∃ x' y', Pa a b (ss.take j) x' y' := by
  induction h with
  | start => intro j hj; exact ⟨0, 0, by simpa using Pa.start⟩
  | keep h h1 h2 ih => exact ih
  | @cut ss x y h h1 ih =>
    intro j hj
    by_cases e : j ≤ ss.length
    · rw [List.take_append_of_le_length e]; exact ih j e
    · rw [List.length_append, List.length_singleton] at hj
      rw [List.take_of_length_le (by simp; omega)]
      exact ⟨_, _, h.cut h1⟩
  | @put ss x y h h1 ih =>
    intro j hj
    by_cases e : j ≤ ss.length
    · rw [List.take_append_of_le_length e]; exact ih j e
    · rw [List.length_append, List.length_singleton] at hj
      rw [List.take_of_length_le (by simp; omega)]
      exact ⟨_, _, h.put h1⟩

theorem Pa.stepN {a b : Ls} {ss : List Stp} {x y : Nat} (h : Pa a b ss x y) : ∀ s ∈ ss, ∃ u v : Nat, s.x = (u : Int) ∧ s.y = (v : Int) ∧ u ≤ a.length ∧ v ≤ b.length ∧ (s.cut = true ∨ v < b.length) := by
  induction h with
  | start => simp
  | keep h h1 h2 ih => exact ih
  | @cut ss x y h h1 ih =>
    intro s hs
    rcases List.mem_append.1 hs with hs | hs
    · exact ih s hs
    · simp at hs
      subst hs
      exact ⟨x, y, rfl, rfl, by omega, h.le.2, .inl rfl⟩
  | @put ss x y h h1 ih =>
    intro s hs
    rcases List.mem_append.1 hs with hs | hs
    · exact ih s hs
    · simp at hs
      subst hs
      exact ⟨x, y, rfl, rfl, h.le.1, by omega, .inr h1⟩

theorem costL_from (h : List Hk) : ∀ n : Int, h.foldl (fun (n : Int) k => n + (k.cut + (k.put.length : Int))) n = n + costL h := by
  induction h with
  | nil => intro n; simp [costL]
  | cons k r ih =>
    intro n
    unfold costL
    rw [List.foldl_cons, List.foldl_cons, ih, ih]
    omega
theorem costL_cons (k : Hk) (r : List Hk) : costL (k :: r) = k.cut + (k.put.length : Int) + costL r := by
  have := costL_from r (0 + (k.cut + (k.put.length : Int)))
  unfold costL at this ⊢
  rw [List.foldl_cons, this]
  omega

theorem cost_bounds (n : Int) : ∀ (h : List Hk) (e : Int), -1 ≤ e → rightFrom n e h = true → (h.length : Int) ≤ costL h ∧ ∀ k ∈ h, 0 ≤ k.at_ ∧ k.at_ ≤ n ∧ 0 ≤ k.cut ∧ k.cut ≤ n ∧ (k.put.length : Int) ≤ costL h
  | [], _, _, _ => by simp [costL]
  | k :: r, e, he, hr => by
    rw [rightFrom, Bool.and_eq_true] at hr
    have hk := okH_iff.1 hr.1
    have hend0 : -1 ≤ hend k := by unfold hend; omega
    obtain ⟨h1, h2⟩ := cost_bounds n r (hend k) hend0 hr.2
    rw [costL_cons]
    have h0 : (0 : Int) ≤ costL r := by omega
    refine ⟨by simp only [List.length_cons]; omega, fun q hq => ?_⟩
    rcases List.mem_cons.1 hq with rfl | hq
    · omega
    · have := h2 q hq
      omega

def TameH (h : List Hk) : Prop := h.length ≤ 1000000 ∧ ∀ k ∈ h, (0 ≤ k.at_ ∧ k.at_ ≤ 1000000) ∧ (0 ≤ k.cut ∧ k.cut ≤ 1000000) ∧ k.put.length ≤ 1000000

theorem tame_of {a b : Ls} {ss : List Stp} {x y : Nat} (p : Pa a b ss x y) (h3 : a.length ≤ 1000) (h4 : b.length ≤ 1000) : TameH (ss.foldl (joinS b) []) := by
  obtain ⟨hi, hc⟩ := joined p
  have hl := p.length_le
  have hle := p.le
  obtain ⟨h1, h2⟩ := cost_bounds x _ (-1) (by omega) hi.right
  refine ⟨by omega, fun k hk => ?_⟩
  have := h2 k hk
  omega

/-- What one round does. -/
structure Round (A B : Ls) (X Y : Nat) (hs : List Hk) (k c0 x y : Nat) : Prop where
  rc : c0 ≤ stop (A.drop X) (B.drop Y)
  rbest : bestF (fr (A.drop X) (B.drop Y) (stop (A.drop X) (B.drop Y))) (A.drop X) (B.drop Y) = (c0 : Int)
  rgi : gi (fr (A.drop X) (B.drop Y) (stop (A.drop X) (B.drop Y))) c0 = (x : Int)
  racr : acr (x : Int) c0 (stop (A.drop X) (B.drop Y)) = (y : Int)
  pos : 0 < x + y
  lx : X + x ≤ A.length
  ly : Y + y ≤ B.length
  rnext : itD A B (k + 1) = ⟨X + x, Y + y, ((rt (A.drop X) (B.drop Y) (stop (A.drop X) (B.drop Y)) c0).map (shift X Y)).foldl (joinS B) hs⟩
  rtame : ∀ j, TameH ((((rt (A.drop X) (B.drop Y) (stop (A.drop X) (B.drop Y)) c0).map (shift X Y)).take j).foldl (joinS B) hs)
  rsteps : ∀ s ∈ rt (A.drop X) (B.drop Y) (stop (A.drop X) (B.drop Y)) c0, ∃ u v : Nat, s.x = (u : Int) ∧ s.y = (v : Int) ∧ X + u ≤ A.length ∧ Y + v ≤ B.length ∧ (s.cut = true ∨ Y + v < B.length)

theorem round_of {A B : Ls} {X Y k : Nat} {hs : List Hk} (h : itD A B k = ⟨X, Y, hs⟩) (hgo : X < A.length ∨ Y < B.length) (h3 : A.length ≤ 1000) (h4 : B.length ≤ 1000) : ∃ c0 x y, Round A B X Y hs k c0 x y := by
  obtain ⟨ss, hp, hh, hm, hb⟩ := itD_ok A B k
  rw [h] at hp hh
  simp only at hp hh
  obtain ⟨c0, x, y, h0, e, eg, hxy, hpa, hpos, hbest⟩ := stop_best (A.drop X) (B.drop Y)
  have hmore := hp.more hpa
  have hle := hmore.le
  have ea : acr (x : Int) c0 (stop (A.drop X) (B.drop Y) : Int) = (y : Int) := by unfold acr; omega
  refine ⟨c0, x, y, h0, e, eg, ea, hpos (by rw [List.length_drop, List.length_drop]; omega), hle.1, hle.2, ?_, fun j => ?_, fun s hs' => ?_⟩
  · rw [itD, h]
    unfold stepD
    simp only
    rw [if_pos hgo, e]
    simp only [Int.toNat_natCast]
    rw [eg, ea]
    simp only [Int.toNat_natCast]
  · by_cases hj : j ≤ (rt (A.drop X) (B.drop Y) (stop (A.drop X) (B.drop Y)) c0).length
    · obtain ⟨x', y', hq⟩ := hmore.split (ss.length + j) (by rw [List.length_append, List.length_map]; omega)
      have := tame_of hq h3 h4
      rw [List.take_append, List.take_of_length_le (by omega), show ss.length + j - ss.length = j by omega, List.foldl_append, ← hh] at this
      exact this
    · have := tame_of hmore h3 h4
      rw [List.foldl_append, ← hh] at this
      rw [List.take_of_length_le (by rw [List.length_map]; omega)]
      exact this
  · obtain ⟨u, v, e1, e2, e3, e4, e5⟩ := hpa.stepN s hs'
    rw [List.length_drop] at e3 e4 e5
    have := hp.le
    exact ⟨u, v, e1, e2, by omega, by omega, by rcases e5 with e5 | e5; exact .inl e5; exact .inr (by omega)⟩
end Go.Proofs.YteppgjdkoakpeaaDoor
