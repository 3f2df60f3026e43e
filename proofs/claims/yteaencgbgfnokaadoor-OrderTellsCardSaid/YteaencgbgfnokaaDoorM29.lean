/-  -/
import Derived.Test.YteaencgbgfnokaaDoorM28
/- The three patches of awake: their order, and their heads. -/
set_option linter.unusedVariables false
namespace Go.Proofs.YteaencgbgfnokaaDoor

abbrev bA : ByteArray := ⟨#[97]⟩
abbrev bB : ByteArray := ⟨#[98]⟩
abbrev bC : ByteArray := ⟨#[99]⟩
def S0 : SetB := [(bC, [bA]), (bB, [bA]), (bA, [])]
theorem s0_small : SmallS S0 := by unfold SmallS S0; decide
theorem s0_ns : nsB S0 = [[97], [98], [99]] := by
  refine asc_unique (nsB_spec S0).1 ?_ (fun x => ?_)
  · show List.Pairwise (· < ·) _
    decide
  · rw [(nsB_spec S0).2]
    have : (S0.map fun p => bsOf p.1) = [[99], [98], [97]] := rfl
    rw [this]
    simp only [List.mem_cons, List.not_mem_nil, or_false]
    constructor
    · rintro (h | h | h) <;> simp [h]
    · rintro (h | h | h) <;> simp [h]
def need0 : Int → List Int := needB [[97], [98], [99]] [([99], [[97]]), ([98], [[97]]), ([97], [])]
theorem s0_need : needS S0 = need0 := by
  unfold needS need0
  rw [s0_ns]
  rfl
theorem s0_reach : ReachK need0 3 [0, 1, 2] := by
  have h0 : ReachK need0 3 [] := .nil
  have h1 : ReachK need0 3 ([] ++ [((0 : Nat) : Int)]) := .step h0 (by decide)
  have h2 : ReachK need0 3 (([] ++ [((0 : Nat) : Int)]) ++ [((1 : Nat) : Int)]) := .step h1 (by decide)
  have h3 : ReachK need0 3 ((([] ++ [((0 : Nat) : Int)]) ++ [((1 : Nat) : Int)]) ++ [((2 : Nat) : Int)]) := .step h2 (by decide)
  exact h3
theorem s0_lin {out : Lb} {k : Int} (h : LinR S0 out k) : k = 0 ∧ out = [bA, bB, bC] := by
  have hl : (nsB S0).length = 3 := by rw [s0_ns]; rfl
  have hs : S0.length = 3 := rfl
  rcases h with ⟨h, _, _⟩ | ⟨_, told, hre, hnx, h⟩
  · rw [hl, hs] at h; omega
  · rw [s0_need, hl] at hre hnx
    have he := reach_end hre s0_reach hnx (by decide)
    subst he
    rcases h with ⟨h, _, _⟩ | ⟨_, h, hk⟩
    · rw [hs] at h; simp at h
    · refine ⟨hk, ?_⟩
      rw [h]
      unfold nsOf
      rw [s0_ns]
      rfl
theorem s0_heads {out : Lb} (h : HeadR S0 out) : out = [bB, bC] := by
  obtain ⟨pred, hp, rfl⟩ := h
  have hl : (nsB S0).length = 3 := by rw [s0_ns]; rfl
  rw [hl] at hp ⊢
  rw [s0_need] at hp
  have p0 : pred 0 = false := by
    rw [Bool.eq_false_iff]
    intro h
    exact (hp 0 (by omega)).1 h 1 (by omega) (by decide)
  have p1 : pred 1 = true := (hp 1 (by omega)).2 (fun v hv => by
    have : v = 0 ∨ v = 1 ∨ v = 2 := by omega
    rcases this with rfl | rfl | rfl <;> decide)
  have p2 : pred 2 = true := (hp 2 (by omega)).2 (fun v hv => by
    have : v = 0 ∨ v = 1 ∨ v = 2 := by omega
    rcases this with rfl | rfl | rfl <;> decide)
  unfold onlyL nsOf
  rw [s0_ns]
  have : (List.range 3).filter pred = [1, 2] := by
    show [0, 1, 2].filter pred = _
    simp [p0, p1, p2]
  rw [this]
  rfl
end Go.Proofs.YteaencgbgfnokaaDoor
