/- The contract of the document's Digits. The mathematics of numbers' texts: what is written of a number is read as it; how long it is. The contract of the document's Depth. The contracts of the document's size and bytes. The contract of the document's Write. -/
import Derived.Laws.IdiomStrings
import Derived.Lib.ItoaMem
import Derived.Lib.AtoiAllCases
import Derived.Deep.RegionHeld3
import Derived.Test.YtgjcblginkdinaaGreatDoorU2
set_option linter.unusedVariables false
namespace Go.Proofs.YtgjcblginkdinaaGreatDoor
open Go.ChangeShapes Go.WideShapes Go.ChangeAt Go.RowKit
open Go.Lib (decDigits itoa)

abbrev tx (l : List UInt8) : ByteArray := ⟨l.toArray⟩

theorem decDigits_len (u : Nat) : (decDigits u).length ≤ u / 2 + 1 := by
  induction u using Nat.strongRecOn with
  | _ u ih =>
    rw [decDigits]
    split
    · simp
    · have := ih (u / 10) (by omega)
      rw [List.length_append, List.length_singleton]; omega
theorem itoa_nat (u : Nat) : itoa (u : Nat) = decDigits u := Lib.itoa_nonneg u

end Go.Proofs.YtgjcblginkdinaaGreatDoor
set_option linter.unusedVariables false
namespace Go.Proofs.YtgjcblginkdinaaGreatDoor
open Go.Lib (decDigits itoa)

theorem parse_digits : ∀ (r l : List UInt8), (∀ c ∈ r, isDig c) → val (l ++ r) < 18446744073709551616 → Lib.parseUint10 (val l) r = .ok (val (l ++ r))
  | [], l, _, _ => by simp [Lib.parseUint10]
  | c :: r, l, hd, hv => by
    have h1 := hd c (by simp)
    have h2 := parse_digits r (l ++ [c]) (fun x hx => hd x (by simp [hx])) (by rw [List.append_assoc]; exact hv)
    have h3 := val_app_le (l ++ [c]) r
    rw [List.append_assoc] at h3 h2
    have h4 : val ([c] ++ r) = val (c :: r) := rfl
    have h5 := val_snoc l c
    unfold isDig at h1
    simp only [Lib.parseUint10]
    have e : l ++ ([c] ++ r) = l ++ c :: r := rfl
    rw [e] at h3 h2
    rw [if_pos h1, if_neg (by omega), if_neg (by omega), ← h2, h5, Nat.mul_comm]

theorem parseMag_dec (u : Nat) (h : u < 18446744073709551616) : Lib.parseMag (decDigits u) = .ok u := by
  unfold Lib.parseMag
  rw [if_neg (decDigits_ne u)]
  have := parse_digits (decDigits u) [] (fun c hc => decDigits_dig u c hc) (by rw [List.nil_append, val_decDigits]; exact h)
  rw [List.nil_append, val_decDigits] at this
  exact this

theorem atoi_itoa (n : Int) (h0 : -9223372036854775808 ≤ n) (h1 : n ≤ 9223372036854775807) : Lib.atoiAll (itoa n) = .ok n := by
  by_cases hneg : n < 0
  · obtain ⟨u, hu⟩ : ∃ u : Nat, n = -(u : Int) := ⟨n.natAbs, by omega⟩
    subst hu
    rw [Lib.itoa_neg u (by omega), Lib.atoiAll_minus, parseMag_dec u (by omega)]
    simp only [Lib.signed]
    rw [if_neg (by omega)]
  · obtain ⟨u, hu⟩ : ∃ u : Nat, n = (u : Int) := ⟨n.toNat, by omega⟩
    subst hu
    rw [itoa_nat]
    obtain ⟨c, r, hcr⟩ : ∃ c r, decDigits u = c :: r := by
      cases h : decDigits u with
      | nil => exact absurd h (decDigits_ne u)
      | cons c r => exact ⟨c, r, rfl⟩
    have hc : isDig c := decDigits_dig u c (by rw [hcr]; simp)
    unfold isDig at hc
    have hp := parseMag_dec u (by omega)
    rw [hcr] at hp ⊢
    rw [Lib.atoiAll_plain c r (by omega) (by omega), hp]
    simp only [Lib.signless]
    rw [if_neg (by omega)]

def isNum (s : ByteArray) (lo hi n : Int) : Prop := -9223372036854775808 ≤ n ∧ n ≤ 9223372036854775807 ∧ s = tx (itoa n) ∧ lo ≤ n ∧ n ≤ hi

theorem itoa_inj {n m : Int} (h0 : -9223372036854775808 ≤ n) (h1 : n ≤ 9223372036854775807) (g0 : -9223372036854775808 ≤ m) (g1 : m ≤ 9223372036854775807) (h : itoa n = itoa m) : n = m := by
  have a := atoi_itoa n h0 h1
  rw [h, atoi_itoa m g0 g1] at a
  injection a with a
  exact a.symm

theorem tx_inj {l m : List UInt8} (h : tx l = tx m) : l = m := by
  have := congrArg (fun b : ByteArray => b.data.toList) h
  simpa using this

theorem isNum.one {s : ByteArray} {lo hi n m : Int} (h : isNum s lo hi n) (g : isNum s lo hi m) : n = m :=
  itoa_inj h.1 h.2.1 g.1 g.2.1 (tx_inj (h.2.2.1.symm.trans g.2.2.1))

theorem itoa_plain {n : Int} {l : List UInt8} (h : itoa n = l) (h0 : -9223372036854775808 ≤ n) (h1 : n ≤ 9223372036854775807) (hb : ∀ r, l ≠ 45 :: r) : 0 ≤ n ∧ (∀ c ∈ l, isDig c) ∧ (val l : Int) = n := by
  have hn : ¬ n < 0 := by
    intro hneg
    obtain ⟨u, hu⟩ : ∃ u : Nat, n = -(u : Int) := ⟨n.natAbs, by omega⟩
    subst hu
    rw [Lib.itoa_neg u (by omega)] at h
    exact hb _ h.symm
  obtain ⟨u, hu⟩ : ∃ u : Nat, n = (u : Int) := ⟨n.toNat, by omega⟩
  subst hu
  rw [itoa_nat] at h
  subst h
  exact ⟨by omega, fun c hc => decDigits_dig u c hc, by rw [val_decDigits]⟩

theorem itoa_below {n : Int} {r : List UInt8} (h : itoa n = 45 :: r) (h0 : -9223372036854775808 ≤ n) (h1 : n ≤ 9223372036854775807) : n < 0 ∧ (∀ c ∈ r, isDig c) ∧ (val r : Int) = -n := by
  have hn : n < 0 := by
    refine Int.not_le.1 fun hge => ?_
    obtain ⟨u, hu⟩ : ∃ u : Nat, n = (u : Int) := ⟨n.toNat, by omega⟩
    subst hu
    rw [itoa_nat] at h
    have := decDigits_dig u 45 (by rw [h]; simp)
    unfold isDig at this
    have e : (45 : UInt8).toNat = 45 := rfl
    omega
  obtain ⟨u, hu⟩ : ∃ u : Nat, n = -(u : Int) := ⟨n.natAbs, by omega⟩
  subst hu
  rw [Lib.itoa_neg u (by omega)] at h
  injection h with _ h
  subst h
  exact ⟨hn, fun c hc => decDigits_dig u c hc, by rw [val_decDigits]; omega⟩
end Go.Proofs.YtgjcblginkdinaaGreatDoor
set_option linter.unusedVariables false
namespace Go.Proofs.YtgjcblginkdinaaGreatDoor
open Go.ChangeShapes Go.WideShapes Go.ChangeAt Go.RowKit

theorem Tm.depth_list (t : ByteArray) (xs : List Tm) : (Tm.mk true t xs).depth = Tm.depths xs + 1 := by rw [Tm.depth]; rfl
theorem Tm.depth_text (t : ByteArray) (xs : List Tm) : (Tm.mk false t xs).depth = 0 := by rw [Tm.depth]; rfl
end Go.Proofs.YtgjcblginkdinaaGreatDoor
set_option linter.unusedVariables false
namespace Go.Proofs.YtgjcblginkdinaaGreatDoor
open Go.ChangeShapes Go.WideShapes Go.ChangeAt Go.RowKit
open Go.Lib (decDigits itoa)

theorem Tm.bytes_text (t : ByteArray) (xs : List Tm) : (Tm.mk false t xs).bytes = decDigits t.size ++ 58 :: t.data.toList := by rw [Tm.bytes]; rfl
theorem Tm.bytes_list (t : ByteArray) (xs : List Tm) : (Tm.mk true t xs).bytes = 40 :: (Tm.bytess xs ++ [41]) := by rw [Tm.bytes]; rfl

theorem tx_toList (l : List UInt8) : (tx l).data.toList = l := rfl
theorem tx_data (t : ByteArray) : tx t.data.toList = t := by cases t; simp

theorem Tm.bytess_take_le (xs : List Tm) (k : Nat) : (Tm.bytess (xs.take k)).length ≤ (Tm.bytess xs).length := by
  have := congrArg (fun l => (Tm.bytess l).length) (List.take_append_drop k xs)
  simp only [Tm.bytess_app, List.length_append] at this
  omega
theorem Tm.bytess_get (xs : List Tm) (k : Nat) (x : Tm) (h : xs[k]? = some x) : (Tm.bytess (xs.take k)).length + x.bytes.length ≤ (Tm.bytess xs).length := by
  have h1 := Tm.bytess_take_le xs (k + 1)
  rw [take_snoc h, Tm.bytess_app, List.length_append] at h1
  simpa [Tm.bytess] using h1

end Go.Proofs.YtgjcblginkdinaaGreatDoor
set_option linter.unusedVariables false
namespace Go.Proofs.YtgjcblginkdinaaGreatDoor
open Go.ChangeShapes Go.WideShapes Go.ChangeAt Go.RowKit
open Go.Lib (decDigits itoa)

theorem Tm.bytes_le (T : Tm) : T.bytes.length ≤ 2 * T.texts + 3 * T.parts := by
  induction T using Tm.ind with
  | h l t xs ih =>
    have hxs : (Tm.bytess xs).length ≤ 2 * Tm.textss xs + 3 * Tm.partss xs := by
      clear l t
      induction xs with
      | nil => simp [Tm.bytess]
      | cons x r ih2 =>
        have h1 := ih x (by simp)
        have h2 := ih2 fun y hy => ih y (by simp [hy])
        simp only [Tm.bytess, Tm.textss, Tm.partss, List.length_append]; omega
    cases l with
    | true => rw [Tm.bytes_list, Tm.texts, Tm.parts]; simp only [List.length_cons, List.length_append, List.length_nil]; omega
    | false =>
      have h1 := decDigits_len t.size
      have h2 := ba_len t
      rw [Tm.bytes_text, Tm.texts, Tm.parts]; simp only [List.length_cons, List.length_append]; omega

theorem box_step {w wz w2 : World} {o : Obj} (h1 : Below (w.heap.size + 1) (w.alloc o) wz) (h2 : Below wz.heap.size wz w2) : Below (w.heap.size + 1) (w.alloc o) w2 :=
  h1.trans (h2.mono (by have := h1.size; simp at this; omega))
theorem box_first {w w2 : World} {o : Obj} (h2 : Below (w.alloc o).heap.size (w.alloc o) w2) : Below (w.heap.size + 1) (w.alloc o) w2 := h2.mono (by simp)
theorem box3 {w wz : World} {x1 x2 x3 : Value} {ty : TypeId} (h : Below (w.heap.size + 1) (w.alloc (.cells #[x1, x2, x3] ty)) wz) :
    wz.cell? ⟨w.heap.size, 0, none⟩ = some x1 ∧ wz.cell? ⟨w.heap.size, 1, none⟩ = some x2 ∧ wz.cell? ⟨w.heap.size, 2, none⟩ = some x3 ∧ Below w.heap.size w wz := by
  have hc : ∀ j, wz.cell? ⟨w.heap.size, j, none⟩ = #[x1, x2, x3][j]? := fun j => (h.cell (p := ⟨w.heap.size, j, none⟩) (Nat.lt_succ_self _)).trans (World.cell?_alloc_at _ _ _ _ rfl)
  exact ⟨hc 0, hc 1, hc 2, ((Below.refl _ _).alloc (Nat.le_refl _) _).trans (h.mono (Nat.le_succ _))⟩

end Go.Proofs.YtgjcblginkdinaaGreatDoor
