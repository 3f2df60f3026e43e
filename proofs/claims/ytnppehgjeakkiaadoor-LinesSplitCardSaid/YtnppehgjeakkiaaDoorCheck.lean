/- lines.Check and the reference's Check. -/
import Derived.Test.YtnppehgjeakkiaaDoorLines2
set_option linter.unusedVariables false
namespace Go.Proofs.YtnppehgjeakkiaaDoor
open Go.ChangeShapes Go.WideShapes Go.ChangeAt Go.RowKit

/-- Is a text past a limit? -/
def cb (s : ByteArray) : Bool := decide (8192 < s.size) || decide (300 < (bsp s).length) || (bsp s).any (fun x => decide (500 < x.size))
theorem cb_1 {s : ByteArray} (h : 8192 < s.size) : cb s = true := by simp [cb, h]
theorem cb_2 {s : ByteArray} (h : 300 < (bsp s).length) : cb s = true := by simp [cb, h]
theorem cb_3 {s x : ByteArray} {k : Nat} (hx : (bsp s)[k]? = some x) (h : 500 < x.size) : cb s = true := by
  have : (bsp s).any (fun x => decide (500 < x.size)) = true := List.any_eq_true.2 ⟨x, List.mem_of_getElem? hx, by simpa using h⟩
  simp [cb, this]
theorem cb_no {s : ByteArray} (h1 : ¬ 8192 < s.size) (h2 : ¬ 300 < (bsp s).length) (h3 : ∀ (j : Nat) x, j < (bsp s).length → (bsp s)[j]? = some x → x.size ≤ 500) : cb s = false := by
  have : (bsp s).any (fun x => decide (500 < x.size)) = false := by
    rw [List.any_eq_false]
    intro x hx
    obtain ⟨j, hj⟩ := List.getElem?_of_mem hx
    have := h3 j x (List.getElem?_eq_some_iff.1 hj).1 hj
    simp
    omega
  simp [cb, this]
  omega
def ckV : Bool → Value | true => .iface 37 (.int .i64 2) | false => .nilIface
def ckN : Bool → Int | true => 2 | false => 0

theorem reads_pos {w : World} {v : Value} {xs : List ByteArray} (h : Reads w v xs) (h0 : xs ≠ []) : ∃ b o c n, v = .slice (some ⟨b, o, none⟩) n c ∧ Hid (xs.length = n) ∧ 0 < n ∧ n ≤ 9223372036854775807 ∧ Cells w b o xs := by
  rcases h with ⟨rfl, _⟩ | ⟨_, b, o, c, rfl, hc, hm, hx⟩
  · exact absurd rfl h0
  · exact ⟨b, o, c, xs.length, rfl, Lib.hid rfl, List.length_pos_iff.2 h0, by omega, hx⟩

set_option maxHeartbeats 1000000 in
theorem check_any (s : ByteArray) (w : World) (hm : HasMax w) (hs : s.size ≤ 140737488355328) :
    Calls Tryd.prog 13 #[.string s] w fun e w' => e = .returned (ckV (cb s)) ∧ Below w.heap.size w w' := by
  by_cases h1 : 8192 < s.size
  · rw [cb_1 h1]
    clear hm
    go_enter Tryd.func13, Tryd.ntmps13
    go_wp2
    go_ret
    exact ⟨rfl, Below.refl _ _⟩
  · have HM := Lib.hid hm
    clear hm
    go_enter Tryd.func13, Tryd.ntmps13
    go_wp2_with fail
    refine (lsplit_any s _ HM.out (by omega)).mono ?_
    rintro e w1 ⟨v, rfl, hr, hb⟩
    obtain ⟨b, o, c, n, rfl, HN, hn0, hn, hx⟩ := reads_pos hr (bsp_ne s)
    have HX := Lib.hid hx
    clear hr hx
    by_cases h2 : 300 < n
    · go_wp2
      go_ret
      exact ⟨by rw [cb_2 (by rw [HN.out]; exact h2)]; rfl, hb⟩
    · go_wp2
      go_loop [18] (fun i => ∃ k : Nat, k ≤ n ∧ i = .int .i64 k ∧ Hid (∀ (j : Nat) x, j < k → (bsp s)[j]? = some x → x.size ≤ 500)) (fun i => n - (intOf i).toNat)
      case atStart => exact ⟨0, by omega, rfl, Lib.hid fun j x h => by omega⟩
      case round =>
        obtain ⟨k, hk, rfl, HA⟩ := hrel
        by_cases hlt : k < n
        · obtain ⟨x, ex⟩ : ∃ x, (bsp s)[k]? = some x := ⟨(bsp s)[k]'(by rw [HN.out]; exact hlt), by simp⟩
          have cx : w1.cell? ⟨b, o + k, none⟩ = some (.string x) := HX.out.2 k x ex
          have EX := Lib.hid ex
          clear ex
          by_cases h3 : 500 < x.size
          · go_wp2
            go_ret
            exact ⟨by rw [cb_3 EX.out h3]; rfl, hb⟩
          · go_wp2
            refine ⟨⟨k + 1, by omega, by go_num, Lib.hid fun j y hj hy => ?_⟩, by simp [intOf]; omega⟩
            by_cases e : j = k
            · rw [e, EX.out] at hy
              rw [← Option.some.inj hy]; omega
            · exact HA.out j y (by omega) hy
        · go_wp2
          go_ret
          refine ⟨?_, hb⟩
          rw [cb_no h1 (by rw [HN.out]; omega) (fun j x hj hx => HA.out j x (by rw [HN.out] at hj; omega) hx)]
          rfl

set_option maxHeartbeats 1000000 in
theorem rcheck_any (s : ByteArray) (w : World) (hs : s.size ≤ 140737488355328) :
    Calls Tryd.prog 14 #[.string s] w fun e w' => e = .returned (.int .i64 (ckN (cb s))) ∧ Below w.heap.size w w' := by
  by_cases h1 : 8192 < s.size
  · rw [cb_1 h1]
    go_enter Tryd.func14, Tryd.ntmps14
    go_wp2
    go_ret
    exact ⟨rfl, Below.refl _ _⟩
  · go_enter Tryd.func14, Tryd.ntmps14
    go_wp2_with fail
    refine (rsplit_any s _ (by omega)).mono ?_
    rintro e w1 ⟨v, rfl, hr, hb⟩
    obtain ⟨b, o, c, n, rfl, HN, hn0, hn, hx⟩ := reads_pos hr (bsp_ne s)
    have HX := Lib.hid hx
    clear hr hx
    by_cases h2 : 300 < n
    · go_wp2
      go_ret
      exact ⟨by rw [cb_2 (by rw [HN.out]; exact h2)]; rfl, hb⟩
    · go_wp2
      go_loop [4] (fun i => ∃ k : Nat, k ≤ n ∧ i = .int .i64 k ∧ Hid (∀ (j : Nat) x, j < k → (bsp s)[j]? = some x → x.size ≤ 500)) (fun i => n - (intOf i).toNat)
      case atStart => exact ⟨0, by omega, rfl, Lib.hid fun j x h => by omega⟩
      case round =>
        obtain ⟨k, hk, rfl, HA⟩ := hrel
        by_cases hlt : k < n
        · obtain ⟨x, ex⟩ : ∃ x, (bsp s)[k]? = some x := ⟨(bsp s)[k]'(by rw [HN.out]; exact hlt), by simp⟩
          have cx : w1.cell? ⟨b, o + k, none⟩ = some (.string x) := HX.out.2 k x ex
          have EX := Lib.hid ex
          clear ex
          by_cases h3 : 500 < x.size
          · go_wp2
            go_ret
            exact ⟨by rw [cb_3 EX.out h3]; rfl, hb⟩
          · go_wp2
            refine ⟨⟨k + 1, by omega, by go_num, Lib.hid fun j y hj hy => ?_⟩, by simp [intOf]; omega⟩
            by_cases e : j = k
            · rw [e, EX.out] at hy
              rw [← Option.some.inj hy]; omega
            · exact HA.out j y (by omega) hy
        · go_wp2
          go_ret
          refine ⟨?_, hb⟩
          rw [cb_no h1 (by rw [HN.out]; omega) (fun j x hj hx => HA.out j x (by rw [HN.out] at hj; omega) hx)]
          rfl
end Go.Proofs.YtnppehgjeakkiaaDoor
