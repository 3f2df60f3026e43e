/- The law's gcd, walked. -/
import Derived.Test.YteaencgbgfnokaaKSame
import Derived.Test.YteaencgbgfnokaaKRingM
set_option linter.unusedVariables false
namespace Go.Proofs.Yteaencgbgfnokaa
open Go.ChangeShapes Go.WideShapes Go.ChangeAt Go.RowKit

theorem rem_placeR (x : Int) {n : Nat} (hn : 0 < n) : ∃ r : Int, ∃ j : Nat, x.tmod (n : Int) = r ∧ -(n : Int) < r ∧ r < n ∧ (r + n).tmod (n : Int) = (j : Int) ∧ j < n := by
  refine ⟨_, ((x.tmod n + n).tmod n).toNat, rfl, Int.lt_tmod_of_pos _ (by omega), Int.tmod_lt_of_pos _ (by omega), ?_, ?_⟩
  · have h1 := Int.lt_tmod_of_pos x (show (0 : Int) < n by omega)
    have : 0 ≤ (x.tmod n + n).tmod n := Int.tmod_nonneg _ (by omega)
    omega
  · have h1 := Int.lt_tmod_of_pos x (show (0 : Int) < n by omega)
    have h2 : 0 ≤ (x.tmod n + n).tmod n := Int.tmod_nonneg _ (by omega)
    have h3 := Int.tmod_lt_of_pos (x.tmod n + n) (show (0 : Int) < n by omega)
    omega
theorem ringE_step (n s k : Nat) : toI (ringE n s (k + 1)) = toI (ringE n s k) ++ [(((k * s % n : Nat) : Int), (((k + 1) * s % n : Nat) : Int))] := by
  unfold toI ringE
  rw [List.range_succ, List.map_append, List.map_append]
  rfl
theorem amongL_toI {n : Int} {es : List (Nat × Nat)} (h : ∀ e ∈ es, (e.1 : Int) < n ∧ (e.2 : Int) < n) : toN (amongL n (toI es)) = es := by
  have h1 : amongL n (toI es) = toI es := by
    unfold amongL
    refine List.filter_eq_self.2 fun e he => ?_
    unfold toI at he
    obtain ⟨e0, h0, rfl⟩ := List.mem_map.1 he
    have := h e0 h0
    exact rightP_iff.2 ⟨by simp, by simp, this.1, this.2⟩
  rw [h1]
  unfold toN toI
  rw [List.map_map]
  exact (List.map_congr_left (fun e _ => by simp)).trans (List.map_id _)
theorem amongL_ring {n s : Nat} (hn : 0 < n) : toN (amongL (n : Int) (toI (ringE n s n))) = ringE n s n :=
  amongL_toI fun e he => by
    have := ringE_lt hn e he
    omega
theorem evs_app (a b : Ed) : evs (a ++ b) = evs a ++ evs b := by unfold evs; exact List.flatMap_append
theorem evs_left {F : Ed} {c j : Nat} {u : Value} (h : (evs (F.take c))[j]? = some u) : (evs F)[j]? = some u := by
  have e : evs F = evs (F.take c) ++ evs (F.drop c) := by rw [← evs_app, List.take_append_drop]
  rw [e, List.getElem?_append_left (List.getElem?_eq_some_iff.1 h).1]
  exact h
theorem evs_right {F : Ed} {c j : Nat} {u : Value} (h : (evs (F.drop c))[j]? = some u) : (evs F)[c * 2 + j]? = some u := by
  have e : evs F = evs (F.take c) ++ evs (F.drop c) := by rw [← evs_app, List.take_append_drop]
  by_cases hc : c ≤ F.length
  · have hl : (evs (F.take c)).length = c * 2 := by rw [evs_len, List.length_take, Nat.min_eq_left hc]
    rw [e, List.getElem?_append_right (by omega), hl, Nat.add_sub_cancel_left]
    exact h
  · rw [List.drop_eq_nil_of_le (by omega)] at h
    simp [evs] at h
theorem cut_ring {n s c : Nat} (hg : Nat.gcd s n = 1) (hc : c < n) (x : Nat) : LeastK (EdR (toN (amongL (n : Int) ((toI (ringE n s n)).take c ++ (toI (ringE n s n)).drop (c + 1))))) x x := by
  have e : (toI (ringE n s n)).take c ++ (toI (ringE n s n)).drop (c + 1) = toI ((ringE n s n).take c ++ (ringE n s n).drop (c + 1)) := by
    unfold toI
    rw [List.map_append, List.map_take, List.map_drop]
  have hsub : ∀ e ∈ (ringE n s n).take c ++ (ringE n s n).drop (c + 1), ∃ i, i < n ∧ i ≠ c ∧ e = (i * s % n, (i + 1) * s % n) := by
    intro e he
    have key : ∀ (k : Nat) e, (ringE n s n)[k]? = some e → k < n ∧ e = (k * s % n, (k + 1) * s % n) := by
      intro k e hk
      unfold ringE at hk
      rw [List.getElem?_map] at hk
      rcases Nat.lt_or_ge k n with h | h
      · rw [List.getElem?_range h] at hk
        simp at hk
        exact ⟨h, hk.symm⟩
      · rw [List.getElem?_eq_none (by simp; omega)] at hk
        simp at hk
    rcases List.mem_append.1 he with he | he
    · obtain ⟨k, hk⟩ := List.getElem?_of_mem he
      have hkl := (List.getElem?_eq_some_iff.1 hk).1
      rw [List.length_take] at hkl
      rw [List.getElem?_take_of_lt (by omega)] at hk
      obtain ⟨h1, h2⟩ := key k e hk
      exact ⟨k, h1, by omega, h2⟩
    · obtain ⟨k, hk⟩ := List.getElem?_of_mem he
      rw [List.getElem?_drop] at hk
      obtain ⟨h1, h2⟩ := key _ e hk
      exact ⟨_, h1, by omega, h2⟩
  rw [e, amongL_toI (fun e he => by
    obtain ⟨i, _, _, rfl⟩ := hsub e he
    have h1 := Nat.mod_lt (i * s) (show 0 < n by omega)
    have h2 := Nat.mod_lt ((i + 1) * s) (show 0 < n by omega)
    simp only
    omega)]
  exact cut_least hg hc hsub x
theorem gcd_swap {x y : Nat} : Nat.gcd y (x % y) = Nat.gcd x y := by
  rw [Nat.gcd_comm x y, Nat.gcd_rec y x, Nat.gcd_comm]
set_option maxHeartbeats 1000000 in
theorem gcd_any (a b : Nat) (w : World) (ha : a ≤ 1000000) (hb : b ≤ 1000000) :
    Calls Try.prog 11 #[.int .i64 (a : Nat), .int .i64 (b : Nat)] w fun e w' => e = .returned (.int .i64 ((Nat.gcd a b : Nat) : Int)) ∧ Below w.heap.size w w' := by
  obtain ⟨g, hg⟩ : ∃ g, g = Nat.gcd a b := ⟨_, rfl⟩
  rw [← hg]
  have HG := Lib.hid hg
  clear hg
  go_enter Try.func11, Try.ntmps11
  go_wp2_with fail
  go_loopw [0, 1] (fun av bv wr => ∃ x y : Nat, av = .int .i64 (x : Nat) ∧ bv = .int .i64 (y : Nat) ∧ x ≤ 1000000 ∧ y ≤ 1000000 ∧ Hid (g = Nat.gcd x y) ∧ Hid (Below w.heap.size w wr)) (fun _ bv _ => (intOf bv).toNat)
  case atStart => exact ⟨a, b, rfl, rfl, ha, hb, HG, Lib.hid (Below.refl _ _)⟩
  case round =>
    obtain ⟨x, y, rfl, rfl, hx, hy, HX, HB⟩ := hrel
    by_cases hlt : 0 < y
    · have hltI : (0 : Int) < (y : Int) := by omega
      have hne : ¬ (y : Int) = 0 := by omega
      have hrem : Int.tmod (x : Int) (y : Int) = ((x % y : Nat) : Int) := (Int.ofNat_tmod x y).symm
      have hml : x % y < y := Nat.mod_lt _ hlt
      have HX2 : Hid (g = Nat.gcd y (x % y)) := Lib.hid (by rw [gcd_swap]; exact HX.out)
      obtain ⟨r, hr⟩ : ∃ r, r = x % y := ⟨_, rfl⟩
      rw [← hr] at hrem hml HX2
      clear hr
      go_wp2_with fail
      go_region
      go_wp2_with fail
      exact ⟨⟨y, r, rfl, by go_num, by omega, by omega, HX2, Lib.hid HB.out.drew⟩, by simp [intOf]; omega⟩
    · have h0 : y = 0 := by omega
      subst h0
      have hgx : g = x := by rw [HX.out, Nat.gcd_zero_right]
      subst hgx
      go_wp2_with fail
      go_ret
      exact ⟨rfl, HB.out⟩
end Go.Proofs.Yteaencgbgfnokaa
