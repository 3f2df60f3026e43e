/- The mathematics of numbers' texts: what is written of a number is read as it; how long it is. What strconv.Atoi leaves, of any text: a number, or an error that is not nil. -/
import Derived.Lib.AtoiAllCases
import Derived.Test.YthamfbfeokmhgaaGreatDoorV11
import Derived.Test.YthamfbfeokmhgaaGreatDoorV9
set_option linter.unusedVariables false
namespace Go.Proofs.YthamfbfeokmhgaaGreatDoor
open Go.Lib (decDigits itoa)

theorem parse_digits : ∀ (r l : List UInt8), (∀ c ∈ r, isDig c) → val (l ++ r) < 18446744073709551616 → Lib.parseUint10 (val l) r = .ok (val (l ++ r))
  | [], l, _, _ => by simp [Lib.parseUint10]
  | c :: r, l, hd, hv => by
    have h1 := hd c (by simp)
    have h2 := parse_digits r (l ++ [c]) (fun x hx => hd x (by simp [hx])) (by rw [List.append_assoc]; exact hv)
    have h3 := val_app_le (l ++ [c]) r
    rw [List.append_assoc] at h3 h2
    have h4 : val ([c] ++ r) = val (c :: r) := rfl
    have h5 := val_snoc l c
    unfold isDig at h1
    simp only [Lib.parseUint10]
    have e : l ++ ([c] ++ r) = l ++ c :: r := rfl
    rw [e] at h3 h2
    rw [if_pos h1, if_neg (by omega), if_neg (by omega), ← h2, h5, Nat.mul_comm]

theorem parseMag_dec (u : Nat) (h : u < 18446744073709551616) : Lib.parseMag (decDigits u) = .ok u := by
  unfold Lib.parseMag
  rw [if_neg (decDigits_ne u)]
  have := parse_digits (decDigits u) [] (fun c hc => decDigits_dig u c hc) (by rw [List.nil_append, val_decDigits]; exact h)
  rw [List.nil_append, val_decDigits] at this
  exact this

theorem atoi_itoa (n : Int) (h0 : -9223372036854775808 ≤ n) (h1 : n ≤ 9223372036854775807) : Lib.atoiAll (itoa n) = .ok n := by
  by_cases hneg : n < 0
  · obtain ⟨u, hu⟩ : ∃ u : Nat, n = -(u : Int) := ⟨n.natAbs, by omega⟩
    subst hu
    rw [Lib.itoa_neg u (by omega), Lib.atoiAll_minus, parseMag_dec u (by omega)]
    simp only [Lib.signed]
    rw [if_neg (by omega)]
  · obtain ⟨u, hu⟩ : ∃ u : Nat, n = (u : Int) := ⟨n.toNat, by omega⟩
    subst hu
    rw [itoa_nat]
    obtain ⟨c, r, hcr⟩ : ∃ c r, decDigits u = c :: r := by
      cases h : decDigits u with
      | nil => exact absurd h (decDigits_ne u)
      | cons c r => exact ⟨c, r, rfl⟩
    have hc : isDig c := decDigits_dig u c (by rw [hcr]; simp)
    unfold isDig at hc
    have hp := parseMag_dec u (by omega)
    rw [hcr] at hp ⊢
    rw [Lib.atoiAll_plain c r (by omega) (by omega), hp]
    simp only [Lib.signless]
    rw [if_neg (by omega)]

theorem dec_len : ∀ (k u : Nat), u < 10 ^ (k + 1) → (decDigits u).length ≤ k + 1
  | 0, u, h => by
    rw [decDigits]
    rw [dif_pos (by omega)]
    simp
  | k + 1, u, h => by
    rw [decDigits]
    split
    · simp
    · have h1 : u / 10 < 10 ^ (k + 1) := by
        rw [Nat.div_lt_iff_lt_mul (by decide)]
        rw [Nat.pow_succ] at h
        exact h
      have := dec_len k (u / 10) h1
      rw [List.length_append, List.length_singleton]
      omega

theorem itoa_len (n : Int) (h0 : -9223372036854775808 ≤ n) (h1 : n ≤ 9223372036854775807) : (itoa n).length ≤ 20 := by
  by_cases hneg : n < 0
  · obtain ⟨u, hu⟩ : ∃ u : Nat, n = -(u : Int) := ⟨n.natAbs, by omega⟩
    subst hu
    rw [Lib.itoa_neg u (by omega)]
    have := dec_len 18 u (by simp; omega)
    simp; omega
  · obtain ⟨u, hu⟩ : ∃ u : Nat, n = (u : Int) := ⟨n.toNat, by omega⟩
    subst hu
    rw [itoa_nat]
    have := dec_len 18 u (by simp; omega)
    omega

def isNum (s : ByteArray) (lo hi n : Int) : Prop := -9223372036854775808 ≤ n ∧ n ≤ 9223372036854775807 ∧ s = tx (itoa n) ∧ lo ≤ n ∧ n ≤ hi

theorem itoa_inj {n m : Int} (h0 : -9223372036854775808 ≤ n) (h1 : n ≤ 9223372036854775807) (g0 : -9223372036854775808 ≤ m) (g1 : m ≤ 9223372036854775807) (h : itoa n = itoa m) : n = m := by
  have a := atoi_itoa n h0 h1
  rw [h, atoi_itoa m g0 g1] at a
  injection a with a
  exact a.symm

theorem tx_inj {l m : List UInt8} (h : tx l = tx m) : l = m := by
  have := congrArg (fun b : ByteArray => b.data.toList) h
  simpa using this

theorem isNum.one {s : ByteArray} {lo hi n m : Int} (h : isNum s lo hi n) (g : isNum s lo hi m) : n = m :=
  itoa_inj h.1 h.2.1 g.1 g.2.1 (tx_inj (h.2.2.1.symm.trans g.2.2.1))

theorem itoa_plain {n : Int} {l : List UInt8} (h : itoa n = l) (h0 : -9223372036854775808 ≤ n) (h1 : n ≤ 9223372036854775807) (hb : ∀ r, l ≠ 45 :: r) : 0 ≤ n ∧ (∀ c ∈ l, isDig c) ∧ (val l : Int) = n := by
  have hn : ¬ n < 0 := by
    intro hneg
    obtain ⟨u, hu⟩ : ∃ u : Nat, n = -(u : Int) := ⟨n.natAbs, by omega⟩
    subst hu
    rw [Lib.itoa_neg u (by omega)] at h
    exact hb _ h.symm
  obtain ⟨u, hu⟩ : ∃ u : Nat, n = (u : Int) := ⟨n.toNat, by omega⟩
  subst hu
  rw [itoa_nat] at h
  subst h
  exact ⟨by omega, fun c hc => decDigits_dig u c hc, by rw [val_decDigits]⟩

theorem itoa_below {n : Int} {r : List UInt8} (h : itoa n = 45 :: r) (h0 : -9223372036854775808 ≤ n) (h1 : n ≤ 9223372036854775807) : n < 0 ∧ (∀ c ∈ r, isDig c) ∧ (val r : Int) = -n := by
  have hn : n < 0 := by
    refine Int.not_le.1 fun hge => ?_
    obtain ⟨u, hu⟩ : ∃ u : Nat, n = (u : Int) := ⟨n.toNat, by omega⟩
    subst hu
    rw [itoa_nat] at h
    have := decDigits_dig u 45 (by rw [h]; simp)
    unfold isDig at this
    have e : (45 : UInt8).toNat = 45 := rfl
    omega
  obtain ⟨u, hu⟩ : ∃ u : Nat, n = -(u : Int) := ⟨n.natAbs, by omega⟩
  subst hu
  rw [Lib.itoa_neg u (by omega)] at h
  injection h with _ h
  subst h
  exact ⟨hn, fun c hc => decDigits_dig u c hc, by rw [val_decDigits]; omega⟩
end Go.Proofs.YthamfbfeokmhgaaGreatDoor
set_option linter.unusedVariables false
namespace Go.Proofs.YthamfbfeokmhgaaGreatDoor
open Go.ChangeShapes Go.WideShapes Go.ChangeAt Go.RowKit
open Go.Lib (decDigits itoa)

theorem var_below {P : Program} {name : String} {g : Nat} (hg : P.globalNamed name = some g) {w w' : World} {vs : Array Value} (h : w.var? P name = some vs) (hb : Below w.heap.size w w') : w'.var? P name = some vs := by
  have hlt : g < w.heap.size := by
    unfold World.var? at h
    rw [hg] at h
    simp only [Option.bind_some] at h
    rcases Nat.lt_or_ge g w.heap.size with h' | h'
    · exact h'
    · rw [Array.getElem?_eq_none h'] at h; simp at h
  unfold World.var? at *
  rw [hg] at h ⊢
  simp only [Option.bind_some] at h ⊢
  rw [hb.block g hlt]
  exact h

structure HasSents (w : World) : Prop where
  bad : ∃ tp p, w.var? Tryz.prog "strconv.ErrSyntax" = some #[.iface tp p]
  range : ∃ tp p, w.var? Tryz.prog "strconv.ErrRange" = some #[.iface tp p]
theorem Tryz.synG : Tryz.prog.globalNamed "strconv.ErrSyntax" = some 5 := by kernel_rfl
theorem Tryz.ranG : Tryz.prog.globalNamed "strconv.ErrRange" = some 6 := by kernel_rfl
theorem HasSents.below {w w' : World} (h : HasSents w) (hb : Below w.heap.size w w') : HasSents w' := by
  obtain ⟨⟨t1, p1, h1⟩, t2, p2, h2⟩ := h
  exact ⟨⟨t1, p1, var_below Tryz.synG h1 hb⟩, t2, p2, var_below Tryz.ranG h2 hb⟩

def AtoiP (s : ByteArray) (w : World) (e : Ending) (w' : World) : Prop :=
  Below w.heap.size w w' ∧ ((∃ v, Lib.atoiAll s.data.toList = .ok v ∧ e = .returned (.tuple #[.int .i64 v, .nilIface])) ∨
    ((∀ v, Lib.atoiAll s.data.toList ≠ .ok v) ∧ ∃ k p, e = .returned (.tuple #[.int .i64 k, .iface 190 p])))

theorem atoi_any (s : ByteArray) (w : World) (hs : s.size ≤ 140737488355328) (hv : HasSents w) : Calls Tryz.prog 86 #[.string s] w (AtoiP s w) := by
  obtain ⟨⟨t1, p1, h1⟩, t2, p2, h2⟩ := hv
  cases hA : Lib.atoiAll s.data.toList
  case ok v =>
    refine (Tryz.strconv_Atoi_ok s (by omega) v hA w).mono fun e w' ⟨he, hw⟩ => ⟨?_, .inl ⟨v, hA, he⟩⟩
    rcases hw with rfl | ⟨t, rfl⟩
    · exact Below.refl _ _
    · exact Lib.bytesWorld_below _ _ _
  case range =>
    exact (Tryz.strconv_Atoi_range_var s (by omega) hA t2 p2 w h2).mono fun e w' ⟨N, he, _, _, hb⟩ => ⟨hb, .inr ⟨(fun v h => by rw [hA] at h; cases h), _, _, he⟩⟩
  · exact (Any.strconv_Atoi_syntax_var Tryz.laysC172 s (by omega) hA t1 p1 w h1).mono fun e w' ⟨N, he, _, _, hb⟩ => ⟨hb, .inr ⟨(fun v h => by rw [hA] at h; cases h), _, _, he⟩⟩

theorem not_num {s : ByteArray} (h : ∀ v, Lib.atoiAll s.data.toList ≠ .ok v) (lo hi n : Int) : ¬ isNum s lo hi n := fun g => by
  refine h n ?_
  have := atoi_itoa n g.1 g.2.1
  rw [g.2.2.1]
  exact this
end Go.Proofs.YthamfbfeokmhgaaGreatDoor
