/- The contracts of what only reads hunks: the reference's Cost and Same. -/
import Derived.Test.YteppgjdkoakpeaaHReads
set_option linter.unusedVariables false
namespace Go.Proofs.Yteppgjdkoakpeaa
open Go.ChangeShapes Go.WideShapes Go.ChangeAt Go.RowKit

def costTo (ps : List (Hk × Value)) (m : Nat) : Int := costL ((ps.take m).map (·.1))
theorem costTo_succ {ps : List (Hk × Value)} {m : Nat} {p : Hk × Value} (h : ps[m]? = some p) : costTo ps (m + 1) = costTo ps m + (p.1.cut + (p.1.put.length : Int)) := by
  unfold costTo
  rw [List.take_add_one, h, Option.toList_some, List.map_append, List.map_singleton, costL_snoc]

set_option maxHeartbeats 1000000 in
theorem cost_cells (b o c : Nat) (ps : List (Hk × Value)) (w : World) (n : Nat) (hn : n = ps.length) (hc : HCells w b o ps) (ht : Tame ps) :
    Calls Try.prog 12 #[.slice (some ⟨b, o, none⟩) n c] w fun e w' => e = .returned (.int .i64 (costL (ps.map (·.1)))) ∧ ∃ n, w' = w.drewN n := by
  have he : costL (ps.map (·.1)) = costTo ps n := by unfold costTo; rw [List.take_of_length_le (by omega)]
  rw [he]
  have hl := ht.1
  rw [← hn] at hl
  have HN := Lib.hid hn
  have HC := Lib.hid hc
  have HT := Lib.hid ht
  clear hn hc ht he
  go_enter Try.func12, Try.ntmps12
  go_wp2
  go_loopw [3, 4] (fun nv iv wr => ∃ m d : Nat, m ≤ n ∧ iv = .int .i64 m ∧ nv = .int .i64 (costTo ps m) ∧ (0 ≤ costTo ps m ∧ costTo ps m ≤ 2000000 * m) ∧ wr = w.drewN d) (fun _ iv _ => n - (intOf iv).toNat)
  case atStart => exact ⟨0, 0, by omega, rfl, rfl, by simp [costTo, costL], rfl⟩
  case round =>
    obtain ⟨m, d, hm, rfl, rfl, ⟨hb1, hb2⟩, rfl⟩ := hrel
    by_cases hlt : m < n
    · obtain ⟨p, hp⟩ : ∃ p, ps[m]? = some p := ⟨ps[m]'(by rw [← HN.out]; exact hlt), by simp⟩
      have hs := costTo_succ hp
      obtain ⟨c1, c2, c3, c4⟩ := HC.out.2 m p hp
      obtain ⟨aa, ca, ea⟩ := c4.form
      rw [ea] at c3
      obtain ⟨-, ⟨k1, k2⟩, k3⟩ := HT.out.2 p (List.mem_of_getElem? hp)
      obtain ⟨T, hT⟩ : ∃ T, T = costTo ps m := ⟨_, rfl⟩
      obtain ⟨C, hC⟩ : ∃ C, C = p.1.cut := ⟨_, rfl⟩
      obtain ⟨L, hL⟩ : ∃ L, L = p.1.put.length := ⟨_, rfl⟩
      rw [← hT] at hb1 hb2 hs ⊢
      rw [← hC] at k1 k2 c2 hs
      rw [← hL] at k3 c3 hs
      have HS := Lib.hid hs
      have HP := Lib.hid hp
      clear hs hp c1 c4 ea hT hC hL
      have h0 : (0 : Int) ≤ m := by omega
      have h1 : (m : Int) < n := by omega
      go_wp2
      go_quiet (fail)
      go_wp2
      refine ⟨⟨m + 1, _, by omega, by go_num, ?_, by rw [HS.out]; omega, by first | rfl | exact World.drewN_drewN _ _ _⟩, by simp [intOf]; omega⟩
      rw [HS.out]
      go_num
    · have e : m = n := by omega
      subst e
      go_wp2
      go_ret
      exact ⟨rfl, _, rfl⟩

set_option maxHeartbeats 400000 in
theorem cost_nil (a : Option Addr) (c : Nat) (w : World) : Calls Try.prog 12 #[.slice a 0 c] w fun e w' => e = .returned (.int .i64 0) ∧ w' = w := by
  go_enter Try.func12, Try.ntmps12
  go_wp2
  refine wp_loop_rounds 1 ?_
  rw [rounds_succ]
  go_wp2
  go_ret
  exact ⟨rfl, rfl⟩

theorem cost_any (hs : List Hk) (v : Value) (w : World) (hr : HReads w v hs) (ht : TameH hs) : Calls Try.prog 12 #[v] w fun e w' => e = .returned (.int .i64 (costL hs)) ∧ ∃ n, w' = w.drewN n := by
  obtain ⟨ps, rfl, ⟨rfl, a, c, rfl⟩ | ⟨hn, b, o, c, rfl, h1, h2, h3⟩⟩ := hr
  · exact (cost_nil a c w).mono fun e w' ⟨h1, h2⟩ => ⟨h1, 0, h2⟩
  · exact cost_cells b o c ps w ps.length rfl h3 ⟨by have := ht.1; rwa [List.length_map] at this, fun p hp => ht.2 p.1 (List.mem_map_of_mem hp)⟩
end Go.Proofs.Yteppgjdkoakpeaa
