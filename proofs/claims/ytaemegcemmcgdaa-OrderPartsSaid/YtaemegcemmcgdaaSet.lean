/- Slices of named patches: what they read as (names and Deps; notes and ops as they are). No function of the program is named here. -/
import Derived.Test.YtaemegcemmcgdaaSorts
import Derived.Test.YtaemegcemmcgdaaOrdM
set_option linter.unusedVariables false
namespace Go.Proofs.Ytaemegcemmcgdaa
open Go.ChangeShapes Go.WideShapes Go.ChangeAt Go.RowKit

/-- Names and Deps. -/
abbrev SetB := List (ByteArray × Lb)
def bsOf (s : ByteArray) : Bs := s.data.toList
def s6 (S : SetB) : Set6 := S.map fun p => (bsOf p.1, p.2.map bsOf)
/-- One element's four cells. -/
def NamedAt (w : World) (b o : Nat) (p : ByteArray × Lb) : Prop :=
  ∃ nt dv oa ol oc, w.cell? ⟨b, o, none⟩ = some (.string p.1) ∧ w.cell? ⟨b, o + 1, none⟩ = some (.string nt) ∧ w.cell? ⟨b, o + 2, none⟩ = some dv ∧ w.cell? ⟨b, o + 3, none⟩ = some (.slice oa ol oc) ∧ Reads w dv p.2
/-- The slice v reads as the set S. -/
def SReads (w : World) (v : Value) (S : SetB) : Prop :=
  (S = [] ∧ ∃ a c, v = .slice a 0 c) ∨ (S ≠ [] ∧ ∃ b o c, v = .slice (some ⟨b, o, none⟩) S.length c ∧ S.length ≤ c ∧ c ≤ 9223372036854775807 ∧ b < w.heap.size ∧ ∀ j p, S[j]? = some p → NamedAt w b (o + j * 4) p)
theorem NamedAt.below {w w' : World} {b o : Nat} {p : ByteArray × Lb} (h : NamedAt w b o p) (hb : Below w.heap.size w w') (hl : b < w.heap.size) : NamedAt w' b o p := by
  obtain ⟨nt, dv, oa, ol, oc, h0, h1, h2, h3, h4⟩ := h
  exact ⟨nt, dv, oa, ol, oc, (hb.cell (p := ⟨b, o, none⟩) hl).trans h0, (hb.cell (p := ⟨b, o + 1, none⟩) hl).trans h1, (hb.cell (p := ⟨b, o + 2, none⟩) hl).trans h2, (hb.cell (p := ⟨b, o + 3, none⟩) hl).trans h3, h4.below hb⟩
theorem SReads.below {w w' : World} {v : Value} {S : SetB} (h : SReads w v S) (hb : Below w.heap.size w w') : SReads w' v S := by
  rcases h with h | ⟨hn, b, o, c, h1, h2, h3, h4, h5⟩
  · exact .inl h
  · exact .inr ⟨hn, b, o, c, h1, h2, h3, Nat.lt_of_lt_of_le h4 hb.size, fun j p hp => (h5 j p hp).below hb h4⟩
theorem SReads.form {w : World} {v : Value} {S : SetB} (h : SReads w v S) : ∃ a c, v = .slice a S.length c ∧ S.length ≤ 9223372036854775807 := by
  rcases h with ⟨rfl, a, c, rfl⟩ | ⟨hn, b, o, c, rfl, hc, hm, _⟩
  · exact ⟨_, _, rfl, Nat.zero_le _⟩
  · exact ⟨_, _, rfl, by omega⟩
theorem SReads.at {w : World} {a : Option Addr} {n c : Nat} {S : SetB} (h : SReads w (.slice a n c) S) {j : Nat} {p : ByteArray × Lb} (hp : S[j]? = some p) : ∃ b o, a = some ⟨b, o, none⟩ ∧ b < w.heap.size ∧ NamedAt w b (o + j * 4) p := by
  rcases h with ⟨rfl, a', c', e⟩ | ⟨hn, b, o, c', e, hc, hm, hl, hx⟩
  · simp at hp
  · simp only [Value.slice.injEq] at e
    obtain ⟨rfl, rfl, rfl⟩ := e
    exact ⟨b, o, rfl, hl, hx j p hp⟩
theorem NamedAt.off {Z : Nat → Prop} {w w' : World} {b o : Nat} {p : ByteArray × Lb} (h : NamedAt w b o p) (ho : Off Z w w') (hl : b < w.heap.size) (hz : ¬ Z b) (hd : ∀ dv xs, Reads w dv xs → w.cell? ⟨b, o + 2, none⟩ = some dv → Reads w' dv xs) : NamedAt w' b o p := by
  obtain ⟨nt, dv, oa, ol, oc, h0, h1, h2, h3, h4⟩ := h
  exact ⟨nt, dv, oa, ol, oc, (ho.cell (p := ⟨b, o, none⟩) hl hz).trans h0, (ho.cell (p := ⟨b, o + 1, none⟩) hl hz).trans h1, (ho.cell (p := ⟨b, o + 2, none⟩) hl hz).trans h2, (ho.cell (p := ⟨b, o + 3, none⟩) hl hz).trans h3, hd dv p.2 h4 h2⟩
end Go.Proofs.Ytaemegcemmcgdaa
