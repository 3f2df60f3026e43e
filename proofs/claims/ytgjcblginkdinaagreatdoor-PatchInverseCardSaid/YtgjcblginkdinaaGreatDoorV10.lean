/- Plain mathematics of lines: no program is named here. The contracts of the functions that tell a marker: the program's and the document's. -/
import Derived.Test.YtgjcblginkdinaaGreatDoorRows
import Derived.Lib.Split
import Derived.Lib.SplitLaws
import Derived.Lib.Join
import Derived.Test.YtgjcblginkdinaaGreatDoorV0
set_option linter.unusedVariables false
namespace Go.Proofs.YtgjcblginkdinaaGreatDoor

end Go.Proofs.YtgjcblginkdinaaGreatDoor
set_option linter.unusedVariables false
namespace Go.Proofs.YtgjcblginkdinaaGreatDoor
open Go.ChangeShapes Go.WideShapes Go.ChangeAt Go.RowKit

theorem byte_at {s : ByteArray} {k : Nat} (h : k < s.size) : s.data.toList[k]? = some s[k] := by
  have e : k < s.data.size := h
  rw [Array.getElem?_toList, Array.getElem?_eq_getElem e]
  rfl

def mk (l : List UInt8) : Bool := decide (7 ≤ l.length) && (l.take 7 == [62, 62, 62, 62, 62, 62, 62] || l.take 7 == [61, 61, 61, 61, 61, 61, 61] || l.take 7 == [60, 60, 60, 60, 60, 60, 60])

theorem ext7 (s : ByteArray) : (s.extract 0 7).toList = s.data.toList.take 7 := by
  rw [ByteArray.toList_eq, Lib.extract_data]; simp

theorem mk_short (l : List UInt8) (h : l.length < 7) : mk l = false := by
  have : ¬ 7 ≤ l.length := by omega
  simp [mk, this]
theorem mk_yes (l : List UInt8) (h : 7 ≤ l.length) (e : (l.take 7 == [62, 62, 62, 62, 62, 62, 62]) = true ∨ (l.take 7 == [61, 61, 61, 61, 61, 61, 61]) = true ∨ (l.take 7 == [60, 60, 60, 60, 60, 60, 60]) = true) : mk l = true := by
  unfold mk
  rcases e with e | e | e <;> simp only [e, h, decide_true, Bool.or_true, Bool.true_or, Bool.true_and]
theorem mk_no (l : List UInt8) (e1 : (l.take 7 == [62, 62, 62, 62, 62, 62, 62]) = false) (e2 : (l.take 7 == [61, 61, 61, 61, 61, 61, 61]) = false) (e3 : (l.take 7 == [60, 60, 60, 60, 60, 60, 60]) = false) : mk l = false := by
  unfold mk
  simp only [e1, e2, e3, Bool.or_false, Bool.and_false]

set_option maxHeartbeats 400000 in
theorem marker_any (s : ByteArray) (w : World) (hs : s.size ≤ 9223372036854775807) :
    Calls Tryz.prog 128 #[.string s] w fun e w' => e = .returned (.bool (mk s.data.toList)) ∧ w' = w := by
  have hl : s.data.toList.length = s.size := Array.length_toList
  have HL := Lib.hid hl
  clear hl
  go_enter Tryz.func128, Tryz.ntmps128
  go_wp2
  all_goals go_ret
  all_goals refine ⟨ret_bool ?_, rfl⟩
  · exact (mk_short _ (by have := HL.out; omega)).symm
  · exact (mk_yes _ (by have := HL.out; omega) (.inl (by rw [← ext7]; assumption))).symm
  · exact (mk_yes _ (by have := HL.out; omega) (.inr (.inl (by rw [← ext7]; assumption)))).symm
  · exact (mk_yes _ (by have := HL.out; omega) (.inr (.inr (by rw [← ext7]; assumption)))).symm
  · exact (mk_no _ (by rw [← ext7]; assumption) (by rw [← ext7]; assumption) (by rw [← ext7]; assumption)).symm
theorem take7_at {l m : List UInt8} (h : l.take 7 = m) (j : Nat) (hj : j < 7) : l[j]? = m[j]? := by
  rw [← h, List.getElem?_take, if_pos hj]

theorem mk_of_all {l : List UInt8} {c : UInt8} (h : 7 ≤ l.length) (hc : c = 62 ∨ c = 61 ∨ c = 60) (ha : ∀ j, j < 7 → l[j]? = some c) : mk l = true := by
  have e : l.take 7 = [c, c, c, c, c, c, c] := by
    apply List.ext_getElem?
    intro j
    rw [List.getElem?_take]
    by_cases hj : j < 7
    · rw [if_pos hj, ha j hj]
      match j, hj with
      | 0, _ | 1, _ | 2, _ | 3, _ | 4, _ | 5, _ | 6, _ => rfl
    · rw [if_neg hj]
      exact (List.getElem?_eq_none (by simp; omega)).symm
  refine mk_yes l h ?_
  rw [e]
  rcases hc with rfl | rfl | rfl
  · exact .inl rfl
  · exact .inr (.inl rfl)
  · exact .inr (.inr rfl)

theorem mk_differ {l : List UInt8} (j : Nat) (hj : j < 7) (hd : l[j]? ≠ l[0]?) : mk l = false := by
  have key : ∀ c : UInt8, (l.take 7 == [c, c, c, c, c, c, c]) = false := by
    intro c
    rw [beq_eq_false_iff_ne]
    intro e
    apply hd
    rw [take7_at e j hj, take7_at e 0 (by omega)]
    match j, hj with
    | 0, _ | 1, _ | 2, _ | 3, _ | 4, _ | 5, _ | 6, _ => rfl
  exact mk_no l (key 62) (key 61) (key 60)

theorem mk_first {l : List UInt8} {c : UInt8} (h0 : l[0]? = some c) (h1 : c ≠ 62) (h2 : c ≠ 61) (h3 : c ≠ 60) : mk l = false := by
  have key : ∀ d : UInt8, c ≠ d → (l.take 7 == [d, d, d, d, d, d, d]) = false := by
    intro d hd
    rw [beq_eq_false_iff_ne]
    intro e
    apply hd
    have := take7_at e 0 (by omega)
    rw [h0] at this
    exact Option.some.inj this
  exact mk_no l (key 62 h1) (key 61 h2) (key 60 h3)

theorem u8_eq {a b : UInt8} (h : a = b) : ((a.toNat : Int) == (b.toNat : Int)) = true := by rw [h]; simp
theorem u8_ne {a b : UInt8} (h : a ≠ b) : ((a.toNat : Int) == (b.toNat : Int)) = false := by
  rw [beq_eq_false_iff_ne]
  intro e
  exact h (UInt8.toNat_inj.1 (by omega))
theorem u8_bne_t {a b : UInt8} (h : a ≠ b) : ((a.toNat : Int) != (b.toNat : Int)) = true := by rw [bne, u8_ne h]; rfl
theorem u8_bne_f {a b : UInt8} (h : a = b) : ((a.toNat : Int) != (b.toNat : Int)) = false := by rw [bne, u8_eq h]; rfl

theorem all_one (s : ByteArray) (h : 0 < s.size) : ∀ j, j < 1 → s.data.toList[j]? = some s[0] := by
  intro j hj
  obtain rfl : j = 0 := by omega
  exact byte_at h

set_option maxHeartbeats 1000000 in
theorem rmarker_loop (s : ByteArray) (w : World) (hs : s.size ≤ 9223372036854775807) (h7 : 7 ≤ s.size) (hc : s[0] = 62 ∨ s[0] = 61 ∨ s[0] = 60) :
    Calls Tryz.prog 131 #[.string s] w fun e w' => e = .returned (.bool (mk s.data.toList)) ∧ Below w.heap.size w w' := by
  have hl : s.data.toList.length = s.size := Array.length_toList
  have HL := Lib.hid hl
  clear hl
  obtain ⟨b1, b2, b3, hb⟩ : ∃ b1 b2 b3, ((s[0].toNat : Int) != 62) = b1 ∧ ((s[0].toNat : Int) != 61) = b2 ∧ ((s[0].toNat : Int) != 60) = b3 := ⟨_, _, _, rfl, rfl, rfl⟩
  obtain ⟨hb1, hb2, hb3⟩ := hb
  have hall : (b1 = false) ∨ (b1 = true ∧ b2 = false) ∨ (b1 = true ∧ b2 = true ∧ b3 = false) := by
    rcases hc with e | e | e <;> rw [e] at hb1 hb2 hb3 <;> subst hb1 hb2 hb3 <;> decide
  have HC := Lib.hid hc
  clear hc
  rcases hall with rfl | ⟨rfl, rfl⟩ | ⟨rfl, rfl, rfl⟩
  all_goals
    go_enter Tryz.func131, Tryz.ntmps131
    go_wp2
    go_loopw [3] (fun i wr => ∃ k : Nat, 1 ≤ k ∧ k ≤ 7 ∧ i = .int .i64 k ∧ Below w.heap.size w wr ∧ Hid (∀ j, j < k → s.data.toList[j]? = some s[0])) (fun i _ => 7 - (intOf i).toNat)
    case atStart => exact ⟨1, by omega, by omega, rfl, Below.refl _ _, Lib.hid (all_one s (by omega))⟩
    case round =>
      obtain ⟨k, hk1, hk7, rfl, hb, HA⟩ := hrel
      by_cases hlt : k < 7
      · have hks : k < s.size := by omega
        by_cases he : s[k] = s[0]
        · have e1 := u8_bne_f he
          have HE := Lib.hid he
          clear he
          go_wp2
          go_quiet (fail)
          go_wp2
          refine ⟨⟨k + 1, by omega, by omega, by go_num, Below.drewN hb, Lib.hid fun j hj => ?_⟩, by simp [intOf]; omega⟩
          by_cases ej : j = k
          · rw [ej, byte_at hks, HE.out]
          · exact HA.out j (by omega)
        · have e1 := u8_bne_t he
          have HE := Lib.hid he
          clear he
          go_wp2
          go_quiet (fail)
          go_wp2
          go_ret
          refine ⟨ret_bool ?_, Below.drewN hb⟩
          refine (mk_differ k hlt ?_).symm
          rw [byte_at hks, byte_at (by omega)]
          exact fun e => HE.out (Option.some.inj e)
      · go_wp2
        go_ret
        refine ⟨ret_bool ?_, hb⟩
        exact (mk_of_all (by rw [HL.out]; omega) HC.out fun j hj => HA.out j (by omega)).symm

set_option maxHeartbeats 400000 in
theorem rmarker_any (s : ByteArray) (w : World) (hs : s.size ≤ 9223372036854775807) :
    Calls Tryz.prog 131 #[.string s] w fun e w' => e = .returned (.bool (mk s.data.toList)) ∧ Below w.heap.size w w' := by
  by_cases h7 : 7 ≤ s.size
  · by_cases hc : s[0] = 62 ∨ s[0] = 61 ∨ s[0] = 60
    · exact rmarker_loop s w hs h7 hc
    · simp only [not_or] at hc
      obtain ⟨c1, c2, c3⟩ := hc
      have hm := mk_first (byte_at (s := s) (k := 0) (by omega)) c1 c2 c3
      rw [hm]
      have e1 : ((s[0].toNat : Int) != 62) = true := u8_bne_t c1
      have e2 : ((s[0].toNat : Int) != 61) = true := u8_bne_t c2
      have e3 : ((s[0].toNat : Int) != 60) = true := u8_bne_t c3
      clear c1 c2 c3 hm
      go_enter Tryz.func131, Tryz.ntmps131
      go_wp2
      go_ret
      exact ⟨rfl, Below.refl _ _⟩
  · have hl : s.data.toList.length = s.size := Array.length_toList
    rw [mk_short _ (by omega)]
    clear hl
    go_enter Tryz.func131, Tryz.ntmps131
    go_wp2
    go_ret
    exact ⟨rfl, Below.refl _ _⟩
end Go.Proofs.YtgjcblginkdinaaGreatDoor
