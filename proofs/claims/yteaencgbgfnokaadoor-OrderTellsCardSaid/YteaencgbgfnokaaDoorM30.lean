/- The reference's Same: two slices of strings, compared. -/
import Derived.Test.YteaencgbgfnokaaDoorM0
set_option linter.unusedVariables false
namespace Go.Proofs.YteaencgbgfnokaaDoor
open Go.ChangeShapes Go.WideShapes Go.ChangeAt Go.RowKit

set_option maxHeartbeats 400000 in
theorem same_ne (a a' : Option Addr) (n m c c' : Nat) (w : World) (h : n ≠ m) (hn : n ≤ 9223372036854775807) (hm : m ≤ 9223372036854775807) :
    Calls Tryd.prog 10 #[.slice a n c, .slice a' m c'] w fun e w' => e = .returned (.bool false) ∧ w' = w := by
  have h1 : ((n : Int) != (m : Int)) = true := by rw [bne_iff_ne]; omega
  go_enter Tryd.func10, Tryd.ntmps10
  go_wp2
  go_ret
  exact ⟨rfl, rfl⟩

set_option maxHeartbeats 400000 in
theorem same_nil (a a' : Option Addr) (c c' : Nat) (w : World) :
    Calls Tryd.prog 10 #[.slice a 0 c, .slice a' 0 c'] w fun e w' => e = .returned (.bool true) ∧ w' = w := by
  go_enter Tryd.func10, Tryd.ntmps10
  go_wp2
  refine wp_loop_rounds 1 ?_
  rw [rounds_succ]
  go_wp2
  go_ret
  exact ⟨rfl, rfl⟩

set_option maxHeartbeats 1000000 in
theorem same_cells (b o b' o' c c' : Nat) (xs ys : List ByteArray) (w : World) (hl : xs.length = ys.length) (hm : xs.length ≤ 9223372036854775807)
    (hx : Cells w b o xs) (hy : Cells w b' o' ys) :
    Calls Tryd.prog 10 #[.slice (some ⟨b, o, none⟩) xs.length c, .slice (some ⟨b', o', none⟩) ys.length c'] w fun e w' => e = .returned (.bool (decide (xs = ys))) ∧ ∃ n, w' = w.drewN n := by
  rw [← hl]
  have HL := Lib.hid hl
  clear hl
  obtain ⟨n, hn⟩ : ∃ n, n = xs.length := ⟨_, rfl⟩
  have hnn : n ≤ 9223372036854775807 := by omega
  rw [← hn]
  have HN := Lib.hid hn
  clear hn hm
  have HX := Lib.hid hx
  have HY := Lib.hid hy
  clear hx hy
  go_enter Tryd.func10, Tryd.ntmps10
  go_wp2
  go_loopw [5] (fun i wr => ∃ k d : Nat, k ≤ n ∧ i = .int .i64 k ∧ wr = w.drewN d ∧ xs.take k = ys.take k) (fun i _ => n - (intOf i).toNat)
  case atStart => exact ⟨0, 0, Nat.zero_le _, rfl, rfl, rfl⟩
  case round =>
    obtain ⟨k, d, hk, rfl, rfl, ht⟩ := hrel
    have HT := Lib.hid ht
    clear ht
    by_cases hlt : k < n
    · obtain ⟨x, ex⟩ : ∃ x, xs[k]? = some x := ⟨xs[k]'(by rw [← HN.out]; exact hlt), by simp⟩
      obtain ⟨y, ey⟩ : ∃ y, ys[k]? = some y := ⟨ys[k]'(by rw [← HL.out, ← HN.out]; exact hlt), by simp⟩
      have cx : w.cell? ⟨b, o + k, none⟩ = some (.string x) := HX.out.2 k x ex
      have cy : w.cell? ⟨b', o' + k, none⟩ = some (.string y) := HY.out.2 k y ey
      have EX := Lib.hid ex
      have EY := Lib.hid ey
      clear ex ey
      have h0 : (0 : Int) ≤ k := by omega
      have h1 : (k : Int) < n := by omega
      go_wp2
      go_quiet (fail)
      go_wp2
      · have hne : x ≠ y := ba_ne (by assumption)
        go_ret
        refine ⟨ret_bool ?_, _, World.drewN_drewN _ _ _⟩
        rw [eq_comm, decide_eq_false_iff_not]
        rintro rfl
        exact hne (Option.some.inj (EX.out.symm.trans EY.out))
      · have he : x = y := ba_eq (by assumption)
        refine ⟨⟨k + 1, _, by omega, by go_num, rfl, take_succ_eq HT.out EX.out EY.out he⟩, by simp [intOf]; omega⟩
    · have hge : n ≤ k := by omega
      go_wp2
      go_ret
      refine ⟨ret_bool ?_, _, rfl⟩
      have e : k = n := by omega
      have h1 : xs.take k = xs := List.take_of_length_le (by rw [← HN.out]; omega)
      have h2 : ys.take k = ys := List.take_of_length_le (by rw [← HL.out, ← HN.out]; omega)
      rw [eq_comm, decide_eq_true_iff, ← h1, ← h2]
      exact HT.out

theorem same_q (xs ys : List ByteArray) (v v' : Value) (w : World) (hx : Reads w v xs) (hy : Reads w v' ys) :
    Calls Tryd.prog 10 #[v, v'] w fun e w' => e = .returned (.bool (decide (xs = ys))) ∧ ∃ n, w' = w.drewN n := by
  by_cases hl : xs.length = ys.length
  · rcases hx with ⟨rfl, a, c, rfl⟩ | ⟨hn, b, o, c, rfl, hc, hm, hx⟩
    · rcases hy with ⟨rfl, a', c', rfl⟩ | ⟨hn', b', o', c', rfl, hc', hm', hy⟩
      · exact (same_nil a a' c c' w).mono fun e w' ⟨he, hw⟩ => ⟨by rw [he]; rfl, 0, hw⟩
      · exact absurd (List.length_eq_zero_iff.1 hl.symm) hn'
    · rcases hy with ⟨rfl, a', c', rfl⟩ | ⟨hn', b', o', c', rfl, hc', hm', hy⟩
      · exact absurd (List.length_eq_zero_iff.1 hl) hn
      · exact same_cells b o b' o' c c' xs ys w hl (by omega) hx hy
  · have hd : decide (xs = ys) = false := by rw [decide_eq_false_iff_not]; rintro rfl; exact hl rfl
    rw [hd]
    obtain ⟨a, c, rfl, h1⟩ : ∃ a c, v = .slice a xs.length c ∧ xs.length ≤ 9223372036854775807 := by
      rcases hx with ⟨rfl, a, c, rfl⟩ | ⟨hn, b, o, c, rfl, hc, hm, hx⟩
      · exact ⟨a, c, rfl, by simp⟩
      · exact ⟨_, c, rfl, by omega⟩
    obtain ⟨a', c', rfl, h2⟩ : ∃ a c, v' = .slice a ys.length c ∧ ys.length ≤ 9223372036854775807 := by
      rcases hy with ⟨rfl, a, c, rfl⟩ | ⟨hn, b, o, c, rfl, hc, hm, hx⟩
      · exact ⟨a, c, rfl, by simp⟩
      · exact ⟨_, c, rfl, by omega⟩
    exact (same_ne a a' _ _ c c' w hl h1 h2).mono fun e w' ⟨he, hw⟩ => ⟨he, 0, hw⟩

theorem same_any (xs ys : List ByteArray) (v v' : Value) (w : World) (hx : Reads w v xs) (hy : Reads w v' ys) :
    Calls Tryd.prog 10 #[v, v'] w fun e w' => e = .returned (.bool (decide (xs = ys))) ∧ Below w.heap.size w w' :=
  (same_q xs ys v v' w hx hy).mono fun e w' ⟨he, n, hw⟩ => ⟨he, hw ▸ Below.drewN (Below.refl _ _)⟩
end Go.Proofs.YteaencgbgfnokaaDoor
