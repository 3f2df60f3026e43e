/- Words of our own over memory that reads as lists of strings. No function of the program is named here. Small things that several texts lean on. Plain mathematics of lines: no program is named here. The contracts of the functions that tell a marker: the program's and the document's. -/
import Derived.Test.YtgjcblginkdinaaGreatDoorRows
import Derived.WalkKit
import Derived.ProofKit
import Derived.OpenShut
import Derived.WalkSpells
import Derived.Outline
import Derived.BigQuiet
import Derived.Deep.QuietTactic
import Derived.Below
import Derived.Lib.Hide
import Derived.Laws.OwnMore
import Derived.OwnWalk
import Derived.Lib.Split
import Derived.Lib.SplitLaws
import Derived.Lib.Join
set_option linter.unusedVariables false
namespace Go.Proofs.YtgjcblginkdinaaGreatDoor
open Go.ChangeShapes Go.WideShapes Go.ChangeAt Go.RowKit

def Cells (w : World) (b o : Nat) (xs : List ByteArray) : Prop :=
  b < w.heap.size ∧ ∀ j x, xs[j]? = some x → w.cell? ⟨b, o + j, none⟩ = some (.string x)

def Reads (w : World) (v : Value) (xs : List ByteArray) : Prop :=
  (xs = [] ∧ ∃ a c, v = .slice a 0 c) ∨ (xs ≠ [] ∧ ∃ b o c, v = .slice (some ⟨b, o, none⟩) xs.length c ∧ xs.length ≤ c ∧ c ≤ 9223372036854775807 ∧ Cells w b o xs)

theorem Cells.below {w w' : World} {b o : Nat} {xs : List ByteArray} (h : Cells w b o xs) (hb : Below w.heap.size w w') : Cells w' b o xs :=
  ⟨Nat.lt_of_lt_of_le h.1 hb.size, fun j x hx => (hb.cell (p := ⟨b, o + j, none⟩) h.1).trans (h.2 j x hx)⟩

theorem Reads.below {w w' : World} {v : Value} {xs : List ByteArray} (h : Reads w v xs) (hb : Below w.heap.size w w') : Reads w' v xs := by
  rcases h with h | ⟨hn, b, o, c, hv, hc, hm, hx⟩
  · exact .inl h
  · exact .inr ⟨hn, b, o, c, hv, hc, hm, hx.below hb⟩

theorem Cells.drew {w : World} {b o : Nat} {xs : List ByteArray} (h : Cells w b o xs) : Cells w.drew b o xs := h
theorem Cells.drewN {w : World} {b o n : Nat} {xs : List ByteArray} (h : Cells w b o xs) : Cells (w.drewN n) b o xs := h
theorem Reads.drewN {w : World} {v : Value} {n : Nat} {xs : List ByteArray} (h : Reads w v xs) : Reads (w.drewN n) v xs := by
  rcases h with h | ⟨hn, b, o, c, hv, hc, hm, hx⟩
  · exact .inl h
  · exact .inr ⟨hn, b, o, c, hv, hc, hm, hx.drewN⟩
theorem Reads.drew {w : World} {v : Value} {xs : List ByteArray} (h : Reads w v xs) : Reads w.drew v xs := h

theorem cell_lt {w : World} {b o : Nat} {v : Value} (h : w.cell? ⟨b, o, none⟩ = some v) : b < w.heap.size := by
  rcases Nat.lt_or_ge b w.heap.size with h' | h'
  · exact h'
  · have e : w.heap[b]? = none := Array.getElem?_eq_none h'
    simp [World.cell?, e] at h

theorem Below.drewN {B n : Nat} {a w : World} (h : Below B a w) : Below B a (w.drewN n) := ⟨h.os, h.tape, h.output, h.size, h.block⟩

theorem take_succ_eq {α : Type} {xs ys : List α} {k : Nat} {x y : α} (h : xs.take k = ys.take k) (hx : xs[k]? = some x) (hy : ys[k]? = some y) (e : x = y) : xs.take (k + 1) = ys.take (k + 1) := by
  rw [List.take_add_one, List.take_add_one, h, hx, hy, e]

theorem ba_ne {x y : ByteArray} (h : (!x.toList == y.toList) = true) : x ≠ y := by
  rintro rfl
  simp at h
theorem ba_eq {x y : ByteArray} (h : (!x.toList == y.toList) = false) : x = y := by
  have h' : x.toList = y.toList := by simpa using h
  have e : x.data.toList = y.data.toList := by rw [← ByteArray.toList_eq x, ← ByteArray.toList_eq y]; exact h'
  cases x; cases y
  simp only [ByteArray.mk.injEq]
  exact Array.toList_inj.1 e

theorem ba_eq' {x y : ByteArray} (h : (x.toList == y.toList) = true) : x = y := by
  refine ba_eq ?_
  rw [h]; rfl
theorem ret_bool {a b : Bool} (h : a = b) : Ending.returned (.bool a) = .returned (.bool b) := by rw [h]
theorem ret_int {k : IntKind} {a b : Int} (h : a = b) : Ending.returned (.int k a) = .returned (.int k b) := by rw [h]
theorem ret_str {a b : ByteArray} (h : a = b) : Ending.returned (.string a) = .returned (.string b) := by rw [h]
end Go.Proofs.YtgjcblginkdinaaGreatDoor
set_option linter.unusedVariables false
namespace Go.Proofs.YtgjcblginkdinaaGreatDoor
open Go.ChangeShapes Go.WideShapes Go.ChangeAt Go.RowKit

theorem take_snoc {α : Type} {l : List α} {k : Nat} {x : α} (h : l[k]? = some x) : l.take (k + 1) = l.take k ++ [x] := by rw [List.take_add_one, h]; rfl
theorem Tryz.infoByte : (Tryz.prog.info? 5).map (fun i => (i.zero, i.size, i.bytes)) = some (some (.int .u8 0), 1, 1) := by kernel_rfl
theorem list_of {α : Type} (Q : Nat → α → Prop) : ∀ n, (∀ i, i < n → ∃ p, Q i p) → ∃ ps : List α, ps.length = n ∧ ∀ (i : Nat) p, ps[i]? = some p → Q i p
  | 0, _ => ⟨[], rfl, by simp⟩
  | n + 1, h => by
    obtain ⟨ps, hl, hq⟩ := list_of Q n fun i hi => h i (by omega)
    obtain ⟨p, hp⟩ := h n (by omega)
    refine ⟨ps ++ [p], by simp [hl], fun i q hi => ?_⟩
    rcases Nat.lt_or_ge i n with hn | hn
    · rw [List.getElem?_append_left (by omega)] at hi
      exact hq i q hi
    · have hlt := (List.getElem?_eq_some_iff.1 hi).1
      simp [hl] at hlt
      have e : i = n := by omega
      subst e
      rw [List.getElem?_append_right (by omega), hl, Nat.sub_self] at hi
      have : p = q := by simpa using hi
      subst this
      exact hp
end Go.Proofs.YtgjcblginkdinaaGreatDoor
set_option linter.unusedVariables false
namespace Go.Proofs.YtgjcblginkdinaaGreatDoor

end Go.Proofs.YtgjcblginkdinaaGreatDoor
set_option linter.unusedVariables false
namespace Go.Proofs.YtgjcblginkdinaaGreatDoor
open Go.ChangeShapes Go.WideShapes Go.ChangeAt Go.RowKit

theorem byte_at {s : ByteArray} {k : Nat} (h : k < s.size) : s.data.toList[k]? = some s[k] := by
  have e : k < s.data.size := h
  rw [Array.getElem?_toList, Array.getElem?_eq_getElem e]
  rfl

def mk (l : List UInt8) : Bool := decide (7 ≤ l.length) && (l.take 7 == [62, 62, 62, 62, 62, 62, 62] || l.take 7 == [61, 61, 61, 61, 61, 61, 61] || l.take 7 == [60, 60, 60, 60, 60, 60, 60])

theorem ext7 (s : ByteArray) : (s.extract 0 7).toList = s.data.toList.take 7 := by
  rw [ByteArray.toList_eq, Lib.extract_data]; simp

theorem mk_short (l : List UInt8) (h : l.length < 7) : mk l = false := by
  have : ¬ 7 ≤ l.length := by omega
  simp [mk, this]
theorem mk_yes (l : List UInt8) (h : 7 ≤ l.length) (e : (l.take 7 == [62, 62, 62, 62, 62, 62, 62]) = true ∨ (l.take 7 == [61, 61, 61, 61, 61, 61, 61]) = true ∨ (l.take 7 == [60, 60, 60, 60, 60, 60, 60]) = true) : mk l = true := by
  unfold mk
  rcases e with e | e | e <;> simp only [e, h, decide_true, Bool.or_true, Bool.true_or, Bool.true_and]
theorem mk_no (l : List UInt8) (e1 : (l.take 7 == [62, 62, 62, 62, 62, 62, 62]) = false) (e2 : (l.take 7 == [61, 61, 61, 61, 61, 61, 61]) = false) (e3 : (l.take 7 == [60, 60, 60, 60, 60, 60, 60]) = false) : mk l = false := by
  unfold mk
  simp only [e1, e2, e3, Bool.or_false, Bool.and_false]

set_option maxHeartbeats 400000 in
theorem marker_any (s : ByteArray) (w : World) (hs : s.size ≤ 9223372036854775807) :
    Calls Tryz.prog 128 #[.string s] w fun e w' => e = .returned (.bool (mk s.data.toList)) ∧ w' = w := by
  have hl : s.data.toList.length = s.size := Array.length_toList
  have HL := Lib.hid hl
  clear hl
  go_enter Tryz.func128, Tryz.ntmps128
  go_wp2
  all_goals go_ret
  all_goals refine ⟨ret_bool ?_, rfl⟩
  · exact (mk_short _ (by have := HL.out; omega)).symm
  · exact (mk_yes _ (by have := HL.out; omega) (.inl (by rw [← ext7]; assumption))).symm
  · exact (mk_yes _ (by have := HL.out; omega) (.inr (.inl (by rw [← ext7]; assumption)))).symm
  · exact (mk_yes _ (by have := HL.out; omega) (.inr (.inr (by rw [← ext7]; assumption)))).symm
  · exact (mk_no _ (by rw [← ext7]; assumption) (by rw [← ext7]; assumption) (by rw [← ext7]; assumption)).symm
theorem take7_at {l m : List UInt8} (h : l.take 7 = m) (j : Nat) (hj : j < 7) : l[j]? = m[j]? := by
  rw [← h, List.getElem?_take, if_pos hj]

theorem mk_of_all {l : List UInt8} {c : UInt8} (h : 7 ≤ l.length) (hc : c = 62 ∨ c = 61 ∨ c = 60) (ha : ∀ j, j < 7 → l[j]? = some c) : mk l = true := by
  have e : l.take 7 = [c, c, c, c, c, c, c] := by
    apply List.ext_getElem?
    intro j
    rw [List.getElem?_take]
    by_cases hj : j < 7
    · rw [if_pos hj, ha j hj]
      match j, hj with
      | 0, _ | 1, _ | 2, _ | 3, _ | 4, _ | 5, _ | 6, _ => rfl
    · rw [if_neg hj]
      exact (List.getElem?_eq_none (by simp; omega)).symm
  refine mk_yes l h ?_
  rw [e]
  rcases hc with rfl | rfl | rfl
  · exact .inl rfl
  · exact .inr (.inl rfl)
  · exact .inr (.inr rfl)

theorem mk_differ {l : List UInt8} (j : Nat) (hj : j < 7) (hd : l[j]? ≠ l[0]?) : mk l = false := by
  have key : ∀ c : UInt8, (l.take 7 == [c, c, c, c, c, c, c]) = false := by
    intro c
    rw [beq_eq_false_iff_ne]
    intro e
    apply hd
    rw [take7_at e j hj, take7_at e 0 (by omega)]
    match j, hj with
    | 0, _ | 1, _ | 2, _ | 3, _ | 4, _ | 5, _ | 6, _ => rfl
  exact mk_no l (key 62) (key 61) (key 60)

theorem mk_first {l : List UInt8} {c : UInt8} (h0 : l[0]? = some c) (h1 : c ≠ 62) (h2 : c ≠ 61) (h3 : c ≠ 60) : mk l = false := by
  have key : ∀ d : UInt8, c ≠ d → (l.take 7 == [d, d, d, d, d, d, d]) = false := by
    intro d hd
    rw [beq_eq_false_iff_ne]
    intro e
    apply hd
    have := take7_at e 0 (by omega)
    rw [h0] at this
    exact Option.some.inj this
  exact mk_no l (key 62 h1) (key 61 h2) (key 60 h3)

theorem u8_eq {a b : UInt8} (h : a = b) : ((a.toNat : Int) == (b.toNat : Int)) = true := by rw [h]; simp
theorem u8_ne {a b : UInt8} (h : a ≠ b) : ((a.toNat : Int) == (b.toNat : Int)) = false := by
  rw [beq_eq_false_iff_ne]
  intro e
  exact h (UInt8.toNat_inj.1 (by omega))
theorem u8_bne_t {a b : UInt8} (h : a ≠ b) : ((a.toNat : Int) != (b.toNat : Int)) = true := by rw [bne, u8_ne h]; rfl
theorem u8_bne_f {a b : UInt8} (h : a = b) : ((a.toNat : Int) != (b.toNat : Int)) = false := by rw [bne, u8_eq h]; rfl

theorem all_one (s : ByteArray) (h : 0 < s.size) : ∀ j, j < 1 → s.data.toList[j]? = some s[0] := by
  intro j hj
  obtain rfl : j = 0 := by omega
  exact byte_at h

set_option maxHeartbeats 1000000 in
theorem rmarker_loop (s : ByteArray) (w : World) (hs : s.size ≤ 9223372036854775807) (h7 : 7 ≤ s.size) (hc : s[0] = 62 ∨ s[0] = 61 ∨ s[0] = 60) :
    Calls Tryz.prog 131 #[.string s] w fun e w' => e = .returned (.bool (mk s.data.toList)) ∧ Below w.heap.size w w' := by
  have hl : s.data.toList.length = s.size := Array.length_toList
  have HL := Lib.hid hl
  clear hl
  obtain ⟨b1, b2, b3, hb⟩ : ∃ b1 b2 b3, ((s[0].toNat : Int) != 62) = b1 ∧ ((s[0].toNat : Int) != 61) = b2 ∧ ((s[0].toNat : Int) != 60) = b3 := ⟨_, _, _, rfl, rfl, rfl⟩
  obtain ⟨hb1, hb2, hb3⟩ := hb
  have hall : (b1 = false) ∨ (b1 = true ∧ b2 = false) ∨ (b1 = true ∧ b2 = true ∧ b3 = false) := by
    rcases hc with e | e | e <;> rw [e] at hb1 hb2 hb3 <;> subst hb1 hb2 hb3 <;> decide
  have HC := Lib.hid hc
  clear hc
  rcases hall with rfl | ⟨rfl, rfl⟩ | ⟨rfl, rfl, rfl⟩
  all_goals
    go_enter Tryz.func131, Tryz.ntmps131
    go_wp2
    go_loopw [3] (fun i wr => ∃ k : Nat, 1 ≤ k ∧ k ≤ 7 ∧ i = .int .i64 k ∧ Below w.heap.size w wr ∧ Hid (∀ j, j < k → s.data.toList[j]? = some s[0])) (fun i _ => 7 - (intOf i).toNat)
    case atStart => exact ⟨1, by omega, by omega, rfl, Below.refl _ _, Lib.hid (all_one s (by omega))⟩
    case round =>
      obtain ⟨k, hk1, hk7, rfl, hb, HA⟩ := hrel
      by_cases hlt : k < 7
      · have hks : k < s.size := by omega
        by_cases he : s[k] = s[0]
        · have e1 := u8_bne_f he
          have HE := Lib.hid he
          clear he
          go_wp2
          go_quiet (fail)
          go_wp2
          refine ⟨⟨k + 1, by omega, by omega, by go_num, Below.drewN hb, Lib.hid fun j hj => ?_⟩, by simp [intOf]; omega⟩
          by_cases ej : j = k
          · rw [ej, byte_at hks, HE.out]
          · exact HA.out j (by omega)
        · have e1 := u8_bne_t he
          have HE := Lib.hid he
          clear he
          go_wp2
          go_quiet (fail)
          go_wp2
          go_ret
          refine ⟨ret_bool ?_, Below.drewN hb⟩
          refine (mk_differ k hlt ?_).symm
          rw [byte_at hks, byte_at (by omega)]
          exact fun e => HE.out (Option.some.inj e)
      · go_wp2
        go_ret
        refine ⟨ret_bool ?_, hb⟩
        exact (mk_of_all (by rw [HL.out]; omega) HC.out fun j hj => HA.out j (by omega)).symm

set_option maxHeartbeats 400000 in
theorem rmarker_any (s : ByteArray) (w : World) (hs : s.size ≤ 9223372036854775807) :
    Calls Tryz.prog 131 #[.string s] w fun e w' => e = .returned (.bool (mk s.data.toList)) ∧ Below w.heap.size w w' := by
  by_cases h7 : 7 ≤ s.size
  · by_cases hc : s[0] = 62 ∨ s[0] = 61 ∨ s[0] = 60
    · exact rmarker_loop s w hs h7 hc
    · simp only [not_or] at hc
      obtain ⟨c1, c2, c3⟩ := hc
      have hm := mk_first (byte_at (s := s) (k := 0) (by omega)) c1 c2 c3
      rw [hm]
      have e1 : ((s[0].toNat : Int) != 62) = true := u8_bne_t c1
      have e2 : ((s[0].toNat : Int) != 61) = true := u8_bne_t c2
      have e3 : ((s[0].toNat : Int) != 60) = true := u8_bne_t c3
      clear c1 c2 c3 hm
      go_enter Tryz.func131, Tryz.ntmps131
      go_wp2
      go_ret
      exact ⟨rfl, Below.refl _ _⟩
  · have hl : s.data.toList.length = s.size := Array.length_toList
    rw [mk_short _ (by omega)]
    clear hl
    go_enter Tryz.func131, Tryz.ntmps131
    go_wp2
    go_ret
    exact ⟨rfl, Below.refl _ _⟩
end Go.Proofs.YtgjcblginkdinaaGreatDoor
