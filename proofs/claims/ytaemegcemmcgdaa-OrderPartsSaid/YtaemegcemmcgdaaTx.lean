/- Texts as bytes, and slices that read as texts. No function of the program is named here. -/
import Derived.Test.YtaemegcemmcgdaaBase
set_option linter.unusedVariables false
namespace Go.Proofs.Ytaemegcemmcgdaa

/-- A text of these bytes. -/
abbrev tx (l : List UInt8) : ByteArray := ⟨l.toArray⟩
theorem tx_toList (l : List UInt8) : (tx l).data.toList = l := rfl
theorem tx_data (t : ByteArray) : tx t.data.toList = t := by cases t; simp
abbrev Lb := List ByteArray
theorem map_inj_on {α β : Type} (f : α → β) (Q : α → Prop) (h : ∀ x y, Q x → Q y → f x = f y → x = y) : ∀ l m : List α, (∀ x ∈ l, Q x) → (∀ x ∈ m, Q x) → l.map f = m.map f → l = m
  | [], [], _, _, _ => rfl
  | [], _ :: _, _, _, e => by simp at e
  | _ :: _, [], _, _, e => by simp at e
  | x :: r, y :: s, hl, hm, e => by
    simp only [List.map_cons, List.cons.injEq] at e
    rw [h x y (hl x (by simp)) (hm y (by simp)) e.1, map_inj_on f Q h r s (fun z hz => hl z (by simp [hz])) (fun z hz => hm z (by simp [hz])) e.2]
theorem Reads.form {w : World} {v : Value} {xs : Lb} (h : Reads w v xs) : ∃ a c, v = .slice a xs.length c ∧ xs.length ≤ 9223372036854775807 := by
  rcases h with ⟨rfl, a, c, rfl⟩ | ⟨hn, b, o, c, rfl, hc, hm, hx⟩
  · exact ⟨_, _, rfl, Nat.zero_le _⟩
  · exact ⟨_, _, rfl, by omega⟩
theorem Reads.at {w : World} {a : Option Addr} {n c : Nat} {xs : Lb} (h : Reads w (.slice a n c) xs) {j : Nat} {x : ByteArray} (hx : xs[j]? = some x) : ∃ b o, a = some ⟨b, o, none⟩ ∧ n = xs.length ∧ Cells w b o xs := by
  rcases h with ⟨rfl, a', c', e⟩ | ⟨hn, b, o, c', e, hc, hm, hx'⟩
  · simp at hx
  · simp only [Value.slice.injEq] at e
    obtain ⟨rfl, rfl, rfl⟩ := e
    exact ⟨b, o, rfl, rfl, hx'⟩
end Go.Proofs.Ytaemegcemmcgdaa
