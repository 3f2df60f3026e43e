/- Slices of bools that are read. No function of the program is named here. -/
import Derived.Test.YtbicecbcloellaaOff
set_option linter.unusedVariables false
namespace Go.Proofs.Ytbicecbcloellaa
open Go.ChangeShapes Go.WideShapes Go.ChangeAt Go.RowKit

/-- The slice v reads as the bools l. -/
def RB (w : World) (v : Value) (l : List Bool) : Prop :=
  (l = [] ∧ ∃ a c, v = .slice a 0 c) ∨ (l ≠ [] ∧ ∃ b o c, v = .slice (some ⟨b, o, none⟩) l.length c ∧ l.length ≤ c ∧ c ≤ maxLen ∧ b < w.heap.size ∧ ∀ (j : Nat) x, l[j]? = some x → w.cell? ⟨b, o + j, none⟩ = some (.bool x))
theorem RB.off {Z : Nat → Prop} {w w' : World} {v : Value} {l : List Bool} (h : RB w v l) (ho : Off Z w w') (hv : l ≠ [] → ∀ b o n c, v = .slice (some ⟨b, o, none⟩) n c → ¬ Z b) : RB w' v l := by
  rcases h with h | ⟨hn, b, o, c, h1, h2, h3, h4, h5⟩
  · exact .inl h
  · exact .inr ⟨hn, b, o, c, h1, h2, h3, Nat.lt_of_lt_of_le h4 ho.size, fun j x hx => (ho.cell (p := ⟨b, o + j, none⟩) h4 (hv hn b o _ c h1)).trans (h5 j x hx)⟩
theorem RB.below {w w' : World} {v : Value} {l : List Bool} (h : RB w v l) (hb : Below w.heap.size w w') : RB w' v l := h.off (Z := fun _ => False) (Off.of_below hb) (fun _ _ _ _ _ _ h => h)
theorem RB.form {w : World} {v : Value} {l : List Bool} (h : RB w v l) : ∃ a c, v = .slice a l.length c := by
  rcases h with ⟨rfl, a, c, rfl⟩ | ⟨hn, b, o, c, rfl, _⟩
  · exact ⟨_, _, rfl⟩
  · exact ⟨_, _, rfl⟩
theorem RB.at {w : World} {a : Option Addr} {n c : Nat} {l : List Bool} (h : RB w (.slice a n c) l) {j : Nat} {x : Bool} (hx : l[j]? = some x) : ∃ b o, a = some ⟨b, o, none⟩ ∧ b < w.heap.size ∧ n ≤ c ∧ c ≤ maxLen ∧ w.cell? ⟨b, o + j, none⟩ = some (.bool x) := by
  rcases h with ⟨rfl, a', c', e⟩ | ⟨hn, b, o, c', e, hc, hm, hl, hx'⟩
  · simp at hx
  · simp only [Value.slice.injEq] at e
    obtain ⟨rfl, rfl, rfl⟩ := e
    exact ⟨b, o, rfl, hl, hc, hm, hx' j x hx⟩
theorem RB.nil (w : World) : RB w (.slice none 0 0) [] := .inl ⟨rfl, _, _, rfl⟩
/-- Where it lies, if it lies anywhere. -/
theorem RB.lt {w : World} {v : Value} {l : List Bool} (h : RB w v l) (hl : l ≠ []) : ∀ b o n c, v = .slice (some ⟨b, o, none⟩) n c → b < w.heap.size := by
  rcases h with ⟨rfl, _⟩ | ⟨hn, b, o, c, rfl, _, _, h4, _⟩
  · exact absurd rfl hl
  · intro b' o' n' c' e
    simp only [Value.slice.injEq, Option.some.injEq, Addr.mk.injEq] at e
    omega
end Go.Proofs.Ytbicecbcloellaa
