/- Words of our own over memory that reads as9 lists of strings. No function of the program is named here. Texts as9 bytes, and slices that read as9 texts. No function of the program is named here. Plain mathematics of lines: no program is named here. The contracts of the functions that tell a marker: the program's and the document's. -/
import Derived.Test.YtojnagonhihknaaGreatDoorRows
import Derived.WalkKit
import Derived.ProofKit
import Derived.OpenShut
import Derived.WalkSpells
import Derived.Outline
import Derived.BigQuiet
import Derived.Deep.QuietTactic
import Derived.Below
import Derived.Lib.Hide
import Derived.Laws.OwnMore
import Derived.OwnWalk
import Derived.Lib.Split
import Derived.Lib.SplitLaws
import Derived.Lib.Join
set_option linter.unusedVariables false
namespace Go.Proofs.YtojnagonhihknaaGreatDoor
open Go.ChangeShapes Go.WideShapes Go.ChangeAt Go.RowKit

def Cells (w : World) (b o : Nat) (xs : List ByteArray) : Prop :=
  b < w.heap.size ∧ ∀ j x, xs[j]? = some x → w.cell? ⟨b, o + j, none⟩ = some (.string x)

def Reads (w : World) (v : Value) (xs : List ByteArray) : Prop :=
  (xs = [] ∧ ∃ a c, v = .slice a 0 c) ∨ (xs ≠ [] ∧ ∃ b o c, v = .slice (some ⟨b, o, none⟩) xs.length c ∧ xs.length ≤ c ∧ c ≤ 9223372036854775807 ∧ Cells w b o xs)

theorem Cells.below {w w' : World} {b o : Nat} {xs : List ByteArray} (h : Cells w b o xs) (hb : Below w.heap.size w w') : Cells w' b o xs :=
  ⟨Nat.lt_of_lt_of_le h.1 hb.size, fun j x hx => (hb.cell (p := ⟨b, o + j, none⟩) h.1).trans (h.2 j x hx)⟩

theorem Reads.below {w w' : World} {v : Value} {xs : List ByteArray} (h : Reads w v xs) (hb : Below w.heap.size w w') : Reads w' v xs := by
  rcases h with h | ⟨hn, b, o, c, hv, hc, hm, hx⟩
  · exact .inl h
  · exact .inr ⟨hn, b, o, c, hv, hc, hm, hx.below hb⟩

theorem Cells.drew {w : World} {b o : Nat} {xs : List ByteArray} (h : Cells w b o xs) : Cells w.drew b o xs := h
theorem Cells.drewN {w : World} {b o n : Nat} {xs : List ByteArray} (h : Cells w b o xs) : Cells (w.drewN n) b o xs := h
theorem Reads.drewN {w : World} {v : Value} {n : Nat} {xs : List ByteArray} (h : Reads w v xs) : Reads (w.drewN n) v xs := by
  rcases h with h | ⟨hn, b, o, c, hv, hc, hm, hx⟩
  · exact .inl h
  · exact .inr ⟨hn, b, o, c, hv, hc, hm, hx.drewN⟩
theorem Reads.drew {w : World} {v : Value} {xs : List ByteArray} (h : Reads w v xs) : Reads w.drew v xs := h

theorem cell_lt {w : World} {b o : Nat} {v : Value} (h : w.cell? ⟨b, o, none⟩ = some v) : b < w.heap.size := by
  rcases Nat.lt_or_ge b w.heap.size with h' | h'
  · exact h'
  · have e : w.heap[b]? = none := Array.getElem?_eq_none h'
    simp [World.cell?, e] at h

theorem Below.drewN {B n : Nat} {a w : World} (h : Below B a w) : Below B a (w.drewN n) := ⟨h.os, h.tape, h.output, h.size, h.block⟩

theorem ba_eq {x y : ByteArray} (h : (!x.toList == y.toList) = false) : x = y := by
  have h' : x.toList = y.toList := by simpa using h
  have e : x.data.toList = y.data.toList := by rw [← ByteArray.toList_eq x, ← ByteArray.toList_eq y]; exact h'
  cases x; cases y
  simp only [ByteArray.mk.injEq]
  exact Array.toList_inj.1 e

theorem ba_eq' {x y : ByteArray} (h : (x.toList == y.toList) = true) : x = y := by
  refine ba_eq ?_
  rw [h]; rfl
theorem ret_bool {a b : Bool} (h : a = b) : Ending.returned (.bool a) = .returned (.bool b) := by rw [h]
theorem ret_int {k : IntKind} {a b : Int} (h : a = b) : Ending.returned (.int k a) = .returned (.int k b) := by rw [h]
end Go.Proofs.YtojnagonhihknaaGreatDoor
set_option linter.unusedVariables false
namespace Go.Proofs.YtojnagonhihknaaGreatDoor

abbrev tx (l : List UInt8) : ByteArray := ⟨l.toArray⟩
theorem tx_toList (l : List UInt8) : (tx l).data.toList = l := rfl
theorem tx_data (t : ByteArray) : tx t.data.toList = t := by cases t; simp
abbrev Lb := List ByteArray
theorem Reads.form {w : World} {v : Value} {xs : Lb} (h : Reads w v xs) : ∃ a c, v = .slice a xs.length c ∧ xs.length ≤ 9223372036854775807 := by
  rcases h with ⟨rfl, a, c, rfl⟩ | ⟨hn, b, o, c, rfl, hc, hm, hx⟩
  · exact ⟨_, _, rfl, Nat.zero_le _⟩
  · exact ⟨_, _, rfl, by omega⟩
theorem Reads.at {w : World} {a : Option Addr} {n c : Nat} {xs : Lb} (h : Reads w (.slice a n c) xs) {j : Nat} {x : ByteArray} (hx : xs[j]? = some x) : ∃ b o, a = some ⟨b, o, none⟩ ∧ n = xs.length ∧ Cells w b o xs := by
  rcases h with ⟨rfl, a', c', e⟩ | ⟨hn, b, o, c', e, hc, hm, hx'⟩
  · simp at hx
  · simp only [Value.slice.injEq] at e
    obtain ⟨rfl, rfl, rfl⟩ := e
    exact ⟨b, o, rfl, rfl, hx'⟩
end Go.Proofs.YtojnagonhihknaaGreatDoor
set_option linter.unusedVariables false
namespace Go.Proofs.YtojnagonhihknaaGreatDoor

end Go.Proofs.YtojnagonhihknaaGreatDoor
set_option linter.unusedVariables false
namespace Go.Proofs.YtojnagonhihknaaGreatDoor
open Go.ChangeShapes Go.WideShapes Go.ChangeAt Go.RowKit

def mk (l : List UInt8) : Bool := decide (7 ≤ l.length) && (l.take 7 == [62, 62, 62, 62, 62, 62, 62] || l.take 7 == [61, 61, 61, 61, 61, 61, 61] || l.take 7 == [60, 60, 60, 60, 60, 60, 60])

theorem ext7 (s : ByteArray) : (s.extract 0 7).toList = s.data.toList.take 7 := by
  rw [ByteArray.toList_eq, Lib.extract_data]; simp

theorem mk_short (l : List UInt8) (h : l.length < 7) : mk l = false := by
  have : ¬ 7 ≤ l.length := by omega
  simp [mk, this]
theorem mk_yes (l : List UInt8) (h : 7 ≤ l.length) (e : (l.take 7 == [62, 62, 62, 62, 62, 62, 62]) = true ∨ (l.take 7 == [61, 61, 61, 61, 61, 61, 61]) = true ∨ (l.take 7 == [60, 60, 60, 60, 60, 60, 60]) = true) : mk l = true := by
  unfold mk
  rcases e with e | e | e <;> simp only [e, h, decide_true, Bool.or_true, Bool.true_or, Bool.true_and]
theorem mk_no (l : List UInt8) (e1 : (l.take 7 == [62, 62, 62, 62, 62, 62, 62]) = false) (e2 : (l.take 7 == [61, 61, 61, 61, 61, 61, 61]) = false) (e3 : (l.take 7 == [60, 60, 60, 60, 60, 60, 60]) = false) : mk l = false := by
  unfold mk
  simp only [e1, e2, e3, Bool.or_false, Bool.and_false]

set_option maxHeartbeats 400000 in
theorem marker_any (s : ByteArray) (w : World) (hs : s.size ≤ 9223372036854775807) :
    Calls Tryz.prog 183 #[.string s] w fun e w' => e = .returned (.bool (mk s.data.toList)) ∧ w' = w := by
  have hl : s.data.toList.length = s.size := Array.length_toList
  have HL := Lib.hid hl
  clear hl
  go_enter Tryz.func183, Tryz.ntmps183
  go_wp2
  all_goals go_ret
  all_goals refine ⟨ret_bool ?_, rfl⟩
  · exact (mk_short _ (by have := HL.out; omega)).symm
  · exact (mk_yes _ (by have := HL.out; omega) (.inl (by rw [← ext7]; assumption))).symm
  · exact (mk_yes _ (by have := HL.out; omega) (.inr (.inl (by rw [← ext7]; assumption)))).symm
  · exact (mk_yes _ (by have := HL.out; omega) (.inr (.inr (by rw [← ext7]; assumption)))).symm
  · exact (mk_no _ (by rw [← ext7]; assumption) (by rw [← ext7]; assumption) (by rw [← ext7]; assumption)).symm
end Go.Proofs.YtojnagonhihknaaGreatDoor
