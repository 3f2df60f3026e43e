/- Forms in memory: a slice value reads as a list of forms. The program's look at one form: is it right by itself? The contract of the document's right: is a form right all through? Cells of boxes that a call has laid. -/
import Derived.Test.YtgjcblginkdinaaGreatDoorTm
import Derived.Test.YtgjcblginkdinaaGreatDoorU0
import Derived.Test.YtgjcblginkdinaaGreatDoorU1
set_option linter.unusedVariables false
namespace Go.Proofs.YtgjcblginkdinaaGreatDoor
open Go.ChangeShapes Go.WideShapes Go.ChangeAt Go.RowKit

inductive SlL (Z : Nat → Prop) (w : World) : Value → List Tm → Prop
  | nil (a : Option Addr) (c : Nat) : c ≤ maxLen → SlL Z w (.slice a 0 c) []
  | row (b o c : Nat) (xs : List Tm) (S : Nat → Value) : xs ≠ [] → Z b → xs.length ≤ c → c ≤ maxLen →
      (∀ j l t ys, xs[j]? = some (.mk l t ys) → w.cell? ⟨b, o + j * 3, none⟩ = some (.bool l) ∧ w.cell? ⟨b, o + j * 3 + 1, none⟩ = some (.string t) ∧ w.cell? ⟨b, o + j * 3 + 2, none⟩ = some (S j) ∧ t.size ≤ 140737488355328) →
      (∀ j l t ys, xs[j]? = some (.mk l t ys) → SlL Z w (S j) ys) → SlL Z w (.slice (some ⟨b, o, none⟩) xs.length c) xs

theorem SlL.form {Z : Nat → Prop} {w : World} {v : Value} {xs : List Tm} (h : SlL Z w v xs) : ∃ a c, v = .slice a xs.length c ∧ xs.length ≤ c ∧ c ≤ maxLen := by
  cases h with
  | nil a c hc => exact ⟨a, c, rfl, Nat.zero_le _, hc⟩
  | row b o c xs S h1 h2 h3 h4 h5 h6 => exact ⟨_, c, rfl, h3, h4⟩

def FRow (Z : Nat → Prop) (w : World) (b o : Nat) (xs : List Tm) : Prop :=
  Z b ∧ b < w.heap.size ∧ ∀ j l t ys, xs[j]? = some (.mk l t ys) → ∃ a c, w.cell? ⟨b, o + j * 3, none⟩ = some (.bool l) ∧ w.cell? ⟨b, o + j * 3 + 1, none⟩ = some (.string t) ∧ w.cell? ⟨b, o + j * 3 + 2, none⟩ = some (.slice a ys.length c) ∧
    t.size ≤ 140737488355328 ∧ SlL Z w (.slice a ys.length c) ys

theorem SlL.pos {Z : Nat → Prop} {w : World} {v : Value} {xs : List Tm} (h : SlL Z w v xs) (hne : xs ≠ []) : ∃ b o c, v = .slice (some ⟨b, o, none⟩) xs.length c ∧ xs.length ≤ c ∧ c ≤ maxLen ∧ FRow Z w b o xs := by
  cases h with
  | nil a c => exact absurd rfl hne
  | row b o c xs S h1 h2 h3 h4 h5 h6 =>
    refine ⟨b, o, c, rfl, h3, h4, h2, ?_, fun j l t ys hj => ?_⟩
    · obtain ⟨⟨l, t, ys⟩, r, rfl⟩ := List.exists_cons_of_ne_nil h1
      exact cell_lt (h5 0 l t ys rfl).1
    · obtain ⟨c1, c2, c3, c4⟩ := h5 j l t ys hj
      have hs := h6 j l t ys hj
      obtain ⟨a, c', e, _, _⟩ := hs.form
      rw [e] at c3 hs
      exact ⟨a, c', c1, c2, c3, c4, hs⟩

theorem SlL.of_row {Z : Nat → Prop} {w : World} {b o c : Nat} {xs : List Tm} (h : FRow Z w b o xs) (hne : xs ≠ []) (hc : xs.length ≤ c) (hm : c ≤ maxLen) : SlL Z w (.slice (some ⟨b, o, none⟩) xs.length c) xs := by
  obtain ⟨h1, h2, h3⟩ := h
  have hS : ∀ j, ∃ v, ∀ l t ys, xs[j]? = some (.mk l t ys) → w.cell? ⟨b, o + j * 3, none⟩ = some (.bool l) ∧ w.cell? ⟨b, o + j * 3 + 1, none⟩ = some (.string t) ∧ w.cell? ⟨b, o + j * 3 + 2, none⟩ = some v ∧ t.size ≤ 140737488355328 ∧ SlL Z w v ys := by
    intro j
    cases e : xs[j]? with
    | none => exact ⟨.nilIface, fun _ _ _ h => by cases h⟩
    | some x =>
      obtain ⟨l, t, ys⟩ := x
      obtain ⟨a, c', k⟩ := h3 j l t ys e
      refine ⟨.slice a ys.length c', fun l' t' ys' h => ?_⟩
      cases h
      exact k
  obtain ⟨S, hS⟩ := Classical.axiomOfChoice hS
  exact .row b o c xs S hne h1 hc hm (fun j l t ys hj => by obtain ⟨a1, a2, a3, a4, _⟩ := hS j l t ys hj; exact ⟨a1, a2, a3, a4⟩) (fun j l t ys hj => (hS j l t ys hj).2.2.2.2)

theorem SlL.carry {Z Z' : Nat → Prop} {w w' : World} {v : Value} {xs : List Tm} (h : SlL Z w v xs) (hb : ∀ i, i < w.heap.size → Z i → w'.heap[i]? = w.heap[i]? ∧ Z' i) : SlL Z' w' v xs := by
  induction h with
  | nil a c hc => exact .nil a c hc
  | row b o c xs S h1 h2 h3 h4 h5 h6 ih =>
    have hlt : b < w.heap.size := by
      obtain ⟨⟨l, t, ys⟩, r, rfl⟩ := List.exists_cons_of_ne_nil h1
      exact cell_lt (h5 0 l t ys rfl).1
    obtain ⟨e, hz⟩ := hb b hlt h2
    refine .row b o c xs S h1 hz h3 h4 (fun j l t ys hj => ?_) (fun j l t ys hj => ih j l t ys hj)
    obtain ⟨a1, a2, a3, a4⟩ := h5 j l t ys hj
    exact ⟨(World.cell?_of_block (w := w) (a := ⟨b, o + j * 3, none⟩) e).trans a1, (World.cell?_of_block (w := w) (a := ⟨b, o + j * 3 + 1, none⟩) e).trans a2, (World.cell?_of_block (w := w) (a := ⟨b, o + j * 3 + 2, none⟩) e).trans a3, a4⟩

theorem SlL.keep {Z : Nat → Prop} {w w' : World} {v : Value} {xs : List Tm} (h : SlL Z w v xs) (hb : Below w.heap.size w w') : SlL Z w' v xs := h.carry fun i hi hz => ⟨hb.block i hi, hz⟩
theorem SlL.belowB {B : Nat} {w w' : World} {v : Value} {xs : List Tm} (h : SlL (· < B) w v xs) (hb : Below B w w') : SlL (· < B) w' v xs := h.carry fun i hi hz => ⟨hb.block i hz, hz⟩
theorem SlL.off {Z Y : Nat → Prop} {w w' : World} {v : Value} {xs : List Tm} (h : SlL Z w v xs) (ho : Off Y w w') (hz : ∀ i, Z i → ¬ Y i) : SlL Z w' v xs := h.carry fun i hi h => ⟨ho.block i hi (hz i h), h⟩
theorem SlL.mono {Z Z' : Nat → Prop} {w : World} {v : Value} {xs : List Tm} (h : SlL Z w v xs) (hz : ∀ i, i < w.heap.size → Z i → Z' i) : SlL Z' w v xs := h.carry fun i hi h => ⟨rfl, hz i hi h⟩
theorem SlL.drewN {Z : Nat → Prop} {w : World} {v : Value} {xs : List Tm} {n : Nat} (h : SlL Z w v xs) : SlL Z (w.drewN n) v xs := h.carry fun i hi h => ⟨rfl, h⟩
theorem SlL.drew {Z : Nat → Prop} {w : World} {v : Value} {xs : List Tm} (h : SlL Z w v xs) : SlL Z w.drew v xs := h.carry fun i hi h => ⟨rfl, h⟩
theorem SlL.alloc {Z : Nat → Prop} {w : World} {v : Value} {xs : List Tm} (h : SlL Z w v xs) (o : Obj) : SlL Z (w.alloc o) v xs := h.keep ((Below.refl _ _).alloc (Nat.le_refl _) o)
theorem FRow.below {Z : Nat → Prop} {w w' : World} {b o : Nat} {xs : List Tm} (h : FRow Z w b o xs) (hb : Below w.heap.size w w') : FRow Z w' b o xs := by
  obtain ⟨h1, h2, h3⟩ := h
  refine ⟨h1, Nat.lt_of_lt_of_le h2 hb.size, fun j l t ys hj => ?_⟩
  obtain ⟨a, c, a1, a2, a3, a4, a5⟩ := h3 j l t ys hj
  exact ⟨a, c, (hb.cell (p := ⟨b, o + j * 3, none⟩) h2).trans a1, (hb.cell (p := ⟨b, o + j * 3 + 1, none⟩) h2).trans a2, (hb.cell (p := ⟨b, o + j * 3 + 2, none⟩) h2).trans a3, a4, a5.keep hb⟩
theorem FRow.off {Z Y : Nat → Prop} {w w' : World} {b o : Nat} {xs : List Tm} (h : FRow Z w b o xs) (ho : Off Y w w') (hz : ∀ i, Z i → ¬ Y i) : FRow Z w' b o xs := by
  obtain ⟨h1, h2, h3⟩ := h
  refine ⟨h1, Nat.lt_of_lt_of_le h2 ho.size, fun j l t ys hj => ?_⟩
  obtain ⟨a, c, a1, a2, a3, a4, a5⟩ := h3 j l t ys hj
  have hn := hz b h1
  exact ⟨a, c, (ho.cell (p := ⟨b, o + j * 3, none⟩) h2 hn).trans a1, (ho.cell (p := ⟨b, o + j * 3 + 1, none⟩) h2 hn).trans a2, (ho.cell (p := ⟨b, o + j * 3 + 2, none⟩) h2 hn).trans a3, a4, a5.off ho hz⟩

abbrev fv (l : Bool) (t : ByteArray) (s : Value) : Value := .agg #[.bool l, .string t, s]
end Go.Proofs.YtgjcblginkdinaaGreatDoor
set_option linter.unusedVariables false
namespace Go.Proofs.YtgjcblginkdinaaGreatDoor
open Go.ChangeShapes Go.WideShapes Go.ChangeAt Go.RowKit

def rightB (l : Bool) (t : ByteArray) (n : Nat) : Bool := if l then decide (t.size = 0) else decide (n = 0)

theorem toList_nil {t : ByteArray} (h : t.size = 0) : t.toList = [] := by
  rw [ByteArray.toList_eq]
  exact List.length_eq_zero_iff.1 (by rw [ba_len]; exact h)
theorem toList_ne {t : ByteArray} (h : ¬ t.size = 0) : t.toList ≠ [] := by
  rw [ByteArray.toList_eq]
  intro e
  have := ba_len t
  rw [e] at this
  exact h this.symm

theorem fright_any (l : Bool) (t : ByteArray) (a : Option Addr) (n c : Nat) (w : World) (hn : n ≤ maxLen) :
    Calls Tryz.prog 101 #[fv l t (.slice a n c)] w fun e w' => e = .returned (.bool (rightB l t n)) ∧ Below w.heap.size w w' := by
  unfold maxLen at hn
  cases l with
  | true =>
    have hr : rightB true t n = decide (t.size = 0) := rfl
    by_cases ht : t.size = 0
    · have e := toList_nil ht
      rw [hr, decide_eq_true ht]
      clear ht hr
      go_enter Tryz.func101, Tryz.ntmps101
      go_wp2
      go_ret
      exact ⟨rfl, (Below.refl _ _).alloc (Nat.le_refl _) _⟩
    · have e := toList_ne ht
      have e2 : t.toList.isEmpty = false := by simpa using e
      rw [hr, decide_eq_false ht]
      clear ht hr e
      go_enter Tryz.func101, Tryz.ntmps101
      go_wp2
      go_ret
      exact ⟨rfl, (Below.refl _ _).alloc (Nat.le_refl _) _⟩
  | false =>
    have hr : rightB false t n = decide (n = 0) := rfl
    by_cases hz : n = 0
    · rw [hr, decide_eq_true hz]
      subst hz
      clear hr
      go_enter Tryz.func101, Tryz.ntmps101
      go_wp2
      go_ret
      exact ⟨rfl, (Below.refl _ _).alloc (Nat.le_refl _) _⟩
    · rw [hr, decide_eq_false hz]
      have e : ((n : Int) == 0) = false := by rw [beq_eq_false_iff_ne]; omega
      clear hr
      go_enter Tryz.func101, Tryz.ntmps101
      go_wp2
      go_ret
      exact ⟨rfl, (Below.refl _ _).alloc (Nat.le_refl _) _⟩
end Go.Proofs.YtgjcblginkdinaaGreatDoor
set_option linter.unusedVariables false
namespace Go.Proofs.YtgjcblginkdinaaGreatDoor
open Go.ChangeShapes Go.WideShapes Go.ChangeAt Go.RowKit

theorem Tm.ok_list (t : ByteArray) (xs : List Tm) : (Tm.mk true t xs).ok = (decide (t.size = 0) && Tm.oks xs) := by rw [Tm.ok]; rfl
theorem Tm.ok_text (t : ByteArray) (xs : List Tm) : (Tm.mk false t xs).ok = decide (xs.length = 0) := by
  rw [Tm.ok]
  cases xs <;> simp

end Go.Proofs.YtgjcblginkdinaaGreatDoor
set_option linter.unusedVariables false
namespace Go.Proofs.YtgjcblginkdinaaGreatDoor
open Go.ChangeShapes Go.WideShapes Go.ChangeAt Go.RowKit

theorem ba_neq {x y : ByteArray} (h : x ≠ y) : (x.toList == y.toList) = false := by
  cases e : (x.toList == y.toList) with
  | false => rfl
  | true => exact absurd (ba_eq' e) h

end Go.Proofs.YtgjcblginkdinaaGreatDoor
