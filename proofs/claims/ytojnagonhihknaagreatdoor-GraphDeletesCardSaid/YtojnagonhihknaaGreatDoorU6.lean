/- Digits of numbers: mathematics. No function of the program is named here. The contract of the document's Digits. The mathematics of numbers' texts: what is written of a number is read as9 it; how long it is. Small things that several texts lean on. What forms are by their parts; boxes of three cells. No function of the program is named here. The contract of the writer's put. -/
import Derived.Laws.IdiomStrings
import Derived.Lib.ItoaMem
import Derived.Lib.AtoiAllCases
import Derived.Test.YtojnagonhihknaaGreatDoorU0
import Derived.Test.YtojnagonhihknaaGreatDoorU5
set_option linter.unusedVariables false
namespace Go.Proofs.YtojnagonhihknaaGreatDoor
open Go.ChangeShapes Go.WideShapes Go.ChangeAt Go.RowKit
open Go.Lib (decDigits itoa)

theorem decDigits_len (u : Nat) : (decDigits u).length ≤ u / 2 + 1 := by
  induction u using Nat.strongRecOn with
  | _ u ih =>
    rw [decDigits]
    split
    · simp
    · have := ih (u / 10) (by omega)
      rw [List.length_append, List.length_singleton]; omega
theorem itoa_nat (u : Nat) : itoa (u : Nat) = decDigits u := Lib.itoa_nonneg u
end Go.Proofs.YtojnagonhihknaaGreatDoor
set_option linter.unusedVariables false
namespace Go.Proofs.YtojnagonhihknaaGreatDoor
open Go.ChangeShapes Go.WideShapes Go.ChangeAt Go.RowKit
open Go.Lib (decDigits itoa)

end Go.Proofs.YtojnagonhihknaaGreatDoor
set_option linter.unusedVariables false
namespace Go.Proofs.YtojnagonhihknaaGreatDoor
open Go.Lib (decDigits itoa)

theorem parse_digits : ∀ (r l : List UInt8), (∀ c ∈ r, isDig c) → val (l ++ r) < 18446744073709551616 → Lib.parseUint10 (val l) r = .ok (val (l ++ r))
  | [], l, _, _ => by simp [Lib.parseUint10]
  | c :: r, l, hd, hv => by
    have h1 := hd c (by simp)
    have h2 := parse_digits r (l ++ [c]) (fun x hx => hd x (by simp [hx])) (by rw [List.append_assoc]; exact hv)
    have h3 := val_app_le (l ++ [c]) r
    rw [List.append_assoc] at h3 h2
    have h4 : val ([c] ++ r) = val (c :: r) := rfl
    have h5 := val_snoc l c
    unfold isDig at h1
    simp only [Lib.parseUint10]
    have e : l ++ ([c] ++ r) = l ++ c :: r := rfl
    rw [e] at h3 h2
    rw [if_pos h1, if_neg (by omega), if_neg (by omega), ← h2, h5, Nat.mul_comm]

theorem parseMag_dec (u : Nat) (h : u < 18446744073709551616) : Lib.parseMag (decDigits u) = .ok u := by
  unfold Lib.parseMag
  rw [if_neg (decDigits_ne u)]
  have := parse_digits (decDigits u) [] (fun c hc => decDigits_dig u c hc) (by rw [List.nil_append, val_decDigits]; exact h)
  rw [List.nil_append, val_decDigits] at this
  exact this

theorem atoi_itoa (n : Int) (h0 : -9223372036854775808 ≤ n) (h1 : n ≤ 9223372036854775807) : Lib.atoiAll (itoa n) = .ok n := by
  by_cases hneg : n < 0
  · obtain ⟨u, hu⟩ : ∃ u : Nat, n = -(u : Int) := ⟨n.natAbs, by omega⟩
    subst hu
    rw [Lib.itoa_neg u (by omega), Lib.atoiAll_minus, parseMag_dec u (by omega)]
    simp only [Lib.signed]
    rw [if_neg (by omega)]
  · obtain ⟨u, hu⟩ : ∃ u : Nat, n = (u : Int) := ⟨n.toNat, by omega⟩
    subst hu
    rw [itoa_nat]
    obtain ⟨c, r, hcr⟩ : ∃ c r, decDigits u = c :: r := by
      cases h : decDigits u with
      | nil => exact absurd h (decDigits_ne u)
      | cons c r => exact ⟨c, r, rfl⟩
    have hc : isDig c := decDigits_dig u c (by rw [hcr]; simp)
    unfold isDig at hc
    have hp := parseMag_dec u (by omega)
    rw [hcr] at hp ⊢
    rw [Lib.atoiAll_plain c r (by omega) (by omega), hp]
    simp only [Lib.signless]
    rw [if_neg (by omega)]

def isNum (s : ByteArray) (lo hi n : Int) : Prop := -9223372036854775808 ≤ n ∧ n ≤ 9223372036854775807 ∧ s = tx (itoa n) ∧ lo ≤ n ∧ n ≤ hi

theorem itoa_inj {n m : Int} (h0 : -9223372036854775808 ≤ n) (h1 : n ≤ 9223372036854775807) (g0 : -9223372036854775808 ≤ m) (g1 : m ≤ 9223372036854775807) (h : itoa n = itoa m) : n = m := by
  have a := atoi_itoa n h0 h1
  rw [h, atoi_itoa m g0 g1] at a
  injection a with a
  exact a.symm

theorem tx_inj {l m : List UInt8} (h : tx l = tx m) : l = m := by
  have := congrArg (fun b : ByteArray => b.data.toList) h
  simpa using this

theorem isNum.one {s : ByteArray} {lo hi n m : Int} (h : isNum s lo hi n) (g : isNum s lo hi m) : n = m :=
  itoa_inj h.1 h.2.1 g.1 g.2.1 (tx_inj (h.2.2.1.symm.trans g.2.2.1))

end Go.Proofs.YtojnagonhihknaaGreatDoor
set_option linter.unusedVariables false
namespace Go.Proofs.YtojnagonhihknaaGreatDoor
open Go.ChangeShapes Go.WideShapes Go.ChangeAt Go.RowKit

theorem take_snoc {α : Type} {l : List α} {k : Nat} {x : α} (h : l[k]? = some x) : l.take (k + 1) = l.take k ++ [x] := by rw [List.take_add_one, h]; rfl
theorem Tryz.infoByte : (Tryz.prog.info? 5).map (fun i => (i.zero, i.size, i.bytes)) = some (some (.int .u8 0), 1, 1) := by kernel_rfl
theorem list_of {α : Type} (Q : Nat → α → Prop) : ∀ n, (∀ i, i < n → ∃ p, Q i p) → ∃ ps : List α, ps.length = n ∧ ∀ (i : Nat) p, ps[i]? = some p → Q i p
  | 0, _ => ⟨[], rfl, by simp⟩
  | n + 1, h => by
    obtain ⟨ps, hl, hq⟩ := list_of Q n fun i hi => h i (by omega)
    obtain ⟨p, hp⟩ := h n (by omega)
    refine ⟨ps ++ [p], by simp [hl], fun i q hi => ?_⟩
    rcases Nat.lt_or_ge i n with hn | hn
    · rw [List.getElem?_append_left (by omega)] at hi
      exact hq i q hi
    · have hlt := (List.getElem?_eq_some_iff.1 hi).1
      simp [hl] at hlt
      have e : i = n := by omega
      subst e
      rw [List.getElem?_append_right (by omega), hl, Nat.sub_self] at hi
      have : p = q := by simpa using hi
      subst this
      exact hp
end Go.Proofs.YtojnagonhihknaaGreatDoor
set_option linter.unusedVariables false
namespace Go.Proofs.YtojnagonhihknaaGreatDoor
open Go.ChangeShapes Go.WideShapes Go.ChangeAt Go.RowKit
open Go.Lib (decDigits itoa)

theorem Tm.ok_list (t : ByteArray) (xs : List Tm) : (Tm.mk true t xs).ok = (decide (t.size = 0) && Tm.oks xs) := by rw [Tm.ok]; rfl
theorem Tm.ok_text (t : ByteArray) (xs : List Tm) : (Tm.mk false t xs).ok = decide (xs.length = 0) := by
  rw [Tm.ok]
  cases xs <;> simp

theorem Tm.depth_list (t : ByteArray) (xs : List Tm) : (Tm.mk true t xs).depth = Tm.depths xs + 1 := by rw [Tm.depth]; rfl
theorem Tm.depth_text (t : ByteArray) (xs : List Tm) : (Tm.mk false t xs).depth = 0 := by rw [Tm.depth]; rfl
theorem Tm.bytes_text (t : ByteArray) (xs : List Tm) : (Tm.mk false t xs).bytes = decDigits t.size ++ 58 :: t.data.toList := by rw [Tm.bytes]; rfl
theorem Tm.bytes_list (t : ByteArray) (xs : List Tm) : (Tm.mk true t xs).bytes = 40 :: (Tm.bytess xs ++ [41]) := by rw [Tm.bytes]; rfl

theorem Tm.bytess_take_le (xs : List Tm) (k : Nat) : (Tm.bytess (xs.take k)).length ≤ (Tm.bytess xs).length := by
  have := congrArg (fun l => (Tm.bytess l).length) (List.take_append_drop k xs)
  simp only [Tm.bytess_app, List.length_append] at this
  omega
theorem Tm.bytess_get (xs : List Tm) (k : Nat) (x : Tm) (h : xs[k]? = some x) : (Tm.bytess (xs.take k)).length + x.bytes.length ≤ (Tm.bytess xs).length := by
  have h1 := Tm.bytess_take_le xs (k + 1)
  rw [take_snoc h, Tm.bytess_app, List.length_append] at h1
  simpa [Tm.bytess] using h1

theorem Tm.bytes_le (T : Tm) : T.bytes.length ≤ 2 * T.texts + 3 * T.parts := by
  induction T using Tm.ind with
  | h l t xs ih =>
    have hxs : (Tm.bytess xs).length ≤ 2 * Tm.textss xs + 3 * Tm.partss xs := by
      clear l t
      induction xs with
      | nil => simp [Tm.bytess]
      | cons x r ih2 =>
        have h1 := ih x (by simp)
        have h2 := ih2 fun y hy => ih y (by simp [hy])
        simp only [Tm.bytess, Tm.textss, Tm.partss, List.length_append]; omega
    cases l with
    | true => rw [Tm.bytes_list, Tm.texts, Tm.parts]; simp only [List.length_cons, List.length_append, List.length_nil]; omega
    | false =>
      have h1 := decDigits_len t.size
      have h2 := ba_len t
      rw [Tm.bytes_text, Tm.texts, Tm.parts]; simp only [List.length_cons, List.length_append]; omega
end Go.Proofs.YtojnagonhihknaaGreatDoor
set_option linter.unusedVariables false
namespace Go.Proofs.YtojnagonhihknaaGreatDoor
open Go.ChangeShapes Go.WideShapes Go.ChangeAt Go.RowKit


def bcs (l : List UInt8) : List Value := l.map fun b => .int .u8 b.toNat
theorem bcs_len (l : List UInt8) : (bcs l).length = l.length := by simp [bcs]
theorem bcs_app (l m : List UInt8) : bcs (l ++ m) = bcs l ++ bcs m := by simp [bcs]
structure Wr (bw : Nat) (w : World) (v : Value) (out : List UInt8) : Prop where
  row : Row 1 (bw + 1) w v out.length (bcs out)
  cell : w.cell? ⟨bw, 0, none⟩ = some v
  free : w.frozen? ⟨bw, 0, none⟩ = false
  len : out.length ≤ 65536

structure WOff (bw : Nat) (w : World) (v : Value) (w' : World) (v' : Value) : Prop where
  off : Off (fun i => i = bw ∨ v.ownBlock = some i) w w'
  own : ∀ g, v'.ownBlock = some g → v.ownBlock = some g ∨ w.heap.size ≤ g

theorem WOff.refl (bw : Nat) (w : World) (v : Value) : WOff bw w v w v := ⟨Off.refl _ _, fun g h => .inl h⟩
theorem WOff.trans {bw : Nat} {a b c : World} {u v z : Value} (h : WOff bw a u b v) (k : WOff bw b v c z) : WOff bw a u c z :=
  ⟨h.off.trans' k.off fun i hi hz => by
    rcases hz with hz | hz
    · exact .inl hz
    · rcases h.own i hz with h1 | h1
      · exact .inr h1
      · omega, fun g hg => by
    rcases k.own g hg with h1 | h1
    · exact h.own g h1
    · exact .inr (Nat.le_trans h.off.size h1)⟩
theorem WOff.alloc {bw : Nat} {a b : World} {u v : Value} (h : WOff bw a u b v) (o : Obj) : WOff bw a u (b.alloc o) v := ⟨h.off.alloc o, h.own⟩
theorem WOff.of_below {bw : Nat} {a b : World} {v : Value} (h : Below a.heap.size a b) : WOff bw a v b v := ⟨Off.of_below h, fun g h => .inl h⟩
theorem Wr.below {bw : Nat} {w w' : World} {v : Value} {out : List UInt8} (h : Wr bw w v out) (hb : Below w.heap.size w w') : Wr bw w' v out :=
  ⟨h.row.below hb, (hb.cell (p := ⟨bw, 0, none⟩) (cell_lt h.cell)).trans h.cell, (hb.frozen (p := ⟨bw, 0, none⟩) (cell_lt h.cell)).trans h.free, h.len⟩

set_option maxHeartbeats 1000000 in
theorem put_no (s : ByteArray) (bw : Nat) (v : Value) (out : List UInt8) (w : World) (h : Wr bw w v out) (hs : ¬ out.length + s.size ≤ 65536) (hsm : s.size ≤ 140737488355328) :
    Calls Tryz.prog 170 #[.pointer (some ⟨bw, 0, none⟩), .string s] w fun e w' => e = .returned (.bool false) ∧ w' = w := by
  obtain ⟨a, c, hv⟩ := h.row.form
  have hl := h.len
  have hc := h.cell
  rw [hv] at hc
  obtain ⟨N, hN⟩ : ∃ N, N = out.length := ⟨_, rfl⟩
  rw [← hN] at hc hl hs
  have k1 : (65536 : Int) - N < s.size := by omega
  clear h hv hN hs
  go_enter Tryz.func170, Tryz.ntmps170
  go_wp2
  go_ret
  exact ⟨rfl, rfl⟩

def PutP (s : ByteArray) (bw : Nat) (v : Value) (out : List UInt8) (w : World) (e : Ending) (w' : World) : Prop :=
  ∃ v', e = .returned (.bool true) ∧ Wr bw w' v' (out ++ s.data.toList) ∧ WOff bw w v w' v'

set_option maxHeartbeats 1000000 in
theorem put_yes (s : ByteArray) (bw : Nat) (v : Value) (out : List UInt8) (w : World) (h : Wr bw w v out) (hs : out.length + s.size ≤ 65536) :
    Calls Tryz.prog 170 #[.pointer (some ⟨bw, 0, none⟩), .string s] w (PutP s bw v out w) := by
  obtain ⟨a, c, hv⟩ := h.row.form
  have hl := h.len
  have hc := h.cell
  have hf := h.free
  have hrow := h.row
  have hbw := cell_lt hc
  have hlen : (out ++ s.data.toList).length = out.length + s.size := by rw [List.length_append, ba_len]
  subst hv
  obtain ⟨N, hN⟩ : ∃ N, N = out.length := ⟨_, rfl⟩
  rw [← hN] at hc hl hs hrow hlen
  have k1 : ¬ (65536 : Int) - N < s.size := by omega
  have HR := Lib.hid hrow
  have HH := Lib.hid h
  have HN := Lib.hid hN
  have HL := Lib.hid hlen
  clear h hN hrow hlen
  go_enter Tryz.func170, Tryz.ntmps170
  go_wp2_with (at_builtin; refine wpList_append_row rfl (.tmp 18) (.tmp 19) 144 9 rfl 1 5 (.int .u8 0) 1 Tryz.underlying144 Tryz.infoByte rfl (bw + 1) (.slice a N c) N (bcs out) (by simp [Act.eval]) (by exact HR.out) (.string s) (by simp [Act.eval]) s.size (byteCells s) (Src.ofString _ Tryz.underlying9 s) (by omega) (by omega) (by decide) ?_; intro v' w1 hr1 ho1 hw1; obtain ⟨a1, c1, hv1⟩ := hr1.form; have hn1 : ¬ (Value.slice a N c).ownBlock = some bw := (fun e => by have := (HR.out.lt bw e).1; omega); have hc1 := (ho1.cell (p := ⟨bw, 0, none⟩) hbw hn1).trans HH.out.cell; have hf1 := (ho1.frozen (p := ⟨bw, 0, none⟩) hbw hn1).trans HH.out.free; have HR1 := Lib.hid hr1; have HO1 := Lib.hid ho1; have HW1 := Lib.hid hw1; have HV1 := Lib.hid hv1; subst hv1; clear hr1 ho1 hw1)
  go_ret
  have hoff : Off (fun i => i = bw ∨ (Value.slice a N c).ownBlock = some i) w (w1.setCell ⟨bw, 0, none⟩ (.slice a1 (N + s.size) c1)) :=
    (HO1.out.mono fun i h => .inr h).setCell (.inr (.inl rfl)) _
  have hown : ∀ g, (Value.slice a1 (N + s.size) c1).ownBlock = some g → (Value.slice a N c).ownBlock = some g ∨ w.heap.size ≤ g := fun g hg => by
    rcases HW1.out with e | e
    · exact .inl (e.symm.trans hg)
    · have : w.heap.size = g := Option.some.inj (e.symm.trans hg)
      exact .inr (by omega)
  have hN := HN.out
  subst hN
  refine ⟨_, rfl, ⟨?_, ?_, ?_, ?_⟩, ⟨hoff, hown⟩⟩
  · rw [HL.out, bcs_app]
    exact HR1.out.setOther (p := ⟨bw, 0, none⟩) (fun e => by have := (HR1.out.lt bw e).1; omega) _
  · exact World.cell?_setCell_same _ _ _ hc1
  · rw [World.frozen?_setCell]; exact hf1
  · rw [HL.out]; exact hs
end Go.Proofs.YtojnagonhihknaaGreatDoor
