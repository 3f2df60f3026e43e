/- The reference's Join. -/
import Derived.Test.YtnppehgjeakkiaaDoorLines2
set_option linter.unusedVariables false
namespace Go.Proofs.YtnppehgjeakkiaaDoor
open Go.ChangeShapes Go.WideShapes Go.ChangeAt Go.RowKit

theorem app_mk (a : ByteArray) (l : List UInt8) : a ++ mkB l = mkB (a.data.toList ++ l) := by
  apply data_inj
  simp [mkB]

theorem bjoin_take_one {xs : List ByteArray} {x : ByteArray} (h : xs[0]? = some x) : bjoin (xs.take 1) = x := by
  cases xs with
  | nil => cases h
  | cons y r =>
    have : y = x := by simpa using h
    subst this
    unfold bjoin
    simp [Lib.join_one, mkB_data]

theorem bjoin_take_succ {xs : List ByteArray} {x : ByteArray} {k : Nat} (h : xs[k + 1]? = some x) : bjoin (xs.take (k + 2)) = bjoin (xs.take (k + 1)) ++ mkB [10] ++ x := by
  cases xs with
  | nil => cases h
  | cons y r =>
    have hr : r[k]? = some x := by simpa using h
    unfold bjoin
    rw [List.take_succ_cons, List.take_succ_cons, List.map_cons, List.map_cons, Lib.join_cons, Lib.join_cons, List.map_take, List.map_take,
      Lib.joinTail_take_succ [10] (r.map (·.data.toList)) k x.data.toList (by simp [hr])]
    apply data_inj
    simp [mkB]

theorem bjoin_take_le (xs : List ByteArray) (k : Nat) : (bjoin (xs.take k)).size ≤ (Lib.join (xs.map (·.data.toList)) [10]).length := by
  have e : (bjoin (xs.take k)).size = (Lib.join ((xs.take k).map (·.data.toList)) [10]).length := by unfold bjoin mkB; simp [ByteArray.size]
  rw [e]
  cases xs with
  | nil => simp [Lib.join_nil]
  | cons y r =>
    cases k with
    | zero => simp [Lib.join_nil]
    | succ k =>
      rw [List.take_succ_cons, List.map_cons, List.map_cons, Lib.join_cons, Lib.join_cons, List.length_append, List.length_append, List.map_take]
      have := Lib.joinTail_take_le [10] (r.map (·.data.toList)) k
      omega

set_option maxHeartbeats 1000000 in
theorem rjoin_cells (b o c : Nat) (xs : List ByteArray) (w : World) (hx : Cells w b o xs) (hn : xs.length ≤ 9223372036854775807) (hl : (Lib.join (xs.map (·.data.toList)) [10]).length ≤ 140737488355328) :
    Calls Tryd.prog 15 #[.slice (some ⟨b, o, none⟩) xs.length c] w fun e w' => e = .returned (.string (bjoin xs)) ∧ Below w.heap.size w w' := by
  have HL := Lib.hid hl
  clear hl
  have HX := Lib.hid hx
  clear hx
  obtain ⟨n, en⟩ : ∃ n, n = xs.length := ⟨_, rfl⟩
  have hn' : n ≤ 9223372036854775807 := by omega
  rw [← en]
  have HN := Lib.hid en
  clear en hn
  go_enter Tryd.func15, Tryd.ntmps15
  go_wp2
  go_loopw [3, 4] (fun t i wr => ∃ (k : Nat) (s : ByteArray), k ≤ n ∧ i = .int .i64 k ∧ t = .string s ∧ Hid (s = bjoin (xs.take k)) ∧ s.size ≤ 140737488355328 ∧ Below w.heap.size w wr) (fun _ i _ => n - (intOf i).toNat)
  case atStart => exact ⟨0, ⟨#[]⟩, by omega, rfl, rfl, Lib.hid rfl, by decide, Below.refl _ _⟩
  case round =>
    obtain ⟨k, s, hk, rfl, rfl, HS, hsz, hb⟩ := hrel
    by_cases hlt : k < n
    · obtain ⟨x, ex⟩ : ∃ x, xs[k]? = some x := ⟨xs[k]'(by rw [← HN.out]; exact hlt), by simp⟩
      have cx : wr.cell? ⟨b, o + k, none⟩ = some (.string x) := (hb.cell (p := ⟨b, o + k, none⟩) HX.out.1).trans (HX.out.2 k x ex)
      have EX := Lib.hid ex
      clear ex
      have hle := bjoin_take_le xs (k + 1)
      have hle' : (bjoin (xs.take (k + 1))).size ≤ 140737488355328 := Nat.le_trans hle HL.out
      clear hle
      by_cases h0 : 0 < k
      · obtain ⟨j, ej⟩ : ∃ j, k = j + 1 := ⟨k - 1, by omega⟩
        have en : bjoin (xs.take (k + 1)) = s ++ mkB [10] ++ x := by
          have e := HS.out
          subst ej
          rw [bjoin_take_succ EX.out, ← e]
        have hs1 : s.size + x.size + 1 ≤ 140737488355328 := by
          rw [en, ByteArray.size_append, ByteArray.size_append] at hle'
          have : (mkB [10]).size = 1 := rfl
          omega
        have EN := Lib.hid en
        clear en ej hle'
        go_wp2
        refine ⟨⟨k + 1, s ++ mkB [10] ++ x, by omega, by go_num, rfl, Lib.hid EN.out.symm, by rw [ByteArray.size_append, ByteArray.size_append]; have : (mkB [10]).size = 1 := rfl; omega, hb⟩, by simp [intOf]; omega⟩
      · obtain rfl : k = 0 := by omega
        have en : bjoin (xs.take (0 + 1)) = x := bjoin_take_one EX.out
        have e0 : s = ⟨#[]⟩ := by rw [HS.out]; rfl
        subst e0
        have hs1 : x.size ≤ 140737488355328 := by rw [en] at hle'; exact hle'
        have EN := Lib.hid en
        have cx0 : wr.cell? ⟨b, o, none⟩ = some (.string x) := cx
        clear en hle' cx
        go_wp2
        refine ⟨⟨0 + 1, x, by omega, by go_num, by first | rfl | simp, Lib.hid EN.out.symm, hs1, hb⟩, by simp [intOf]; omega⟩
    · go_wp2
      go_ret
      refine ⟨ret_str ?_, hb⟩
      rw [HS.out, List.take_of_length_le (by rw [← HN.out]; omega)]

set_option maxHeartbeats 400000 in
theorem rjoin_nil (a : Option Addr) (c : Nat) (w : World) :
    Calls Tryd.prog 15 #[.slice a 0 c] w fun e w' => e = .returned (.string ⟨#[]⟩) ∧ w' = w := by
  go_enter Tryd.func15, Tryd.ntmps15
  go_wp2
  refine wp_loop_rounds 1 ?_
  rw [rounds_succ]
  go_wp2
  go_ret
  exact ⟨rfl, rfl⟩

theorem rjoin_any (xs : List ByteArray) (v : Value) (w : World) (hx : Reads w v xs) (hl : (Lib.join (xs.map (·.data.toList)) [10]).length ≤ 140737488355328) :
    Calls Tryd.prog 15 #[v] w fun e w' => e = .returned (.string (bjoin xs)) ∧ Below w.heap.size w w' := by
  rcases hx with ⟨rfl, a, c, rfl⟩ | ⟨hne, b, o, c, rfl, hc, hm, hx⟩
  · exact (rjoin_nil a c w).mono fun e w' ⟨he, hw⟩ => ⟨he, hw ▸ Below.refl _ _⟩
  · exact rjoin_cells b o c xs w hx (by omega) hl
end Go.Proofs.YtnppehgjeakkiaaDoor
