/- Of package poset: a board's size, thing and line. -/
import Derived.Deep.RegionHeld3
import Derived.Test.YtfpepoebammeoaaGreatV22
import Derived.Test.YtfpepoebammeoaaGreatV31
import Derived.Test.YtfpepoebammeoaaGreatV37
set_option linter.unusedVariables false
set_option linter.unusedSimpArgs false
namespace Go.Proofs.YtfpepoebammeoaaGreat
open Go.ChangeShapes Go.WideShapes Go.ChangeAt Go.RowKit

theorem toN_toI (E : EdN) : toN (toI E) = E := by
  unfold toN toI
  rw [List.map_map]
  exact (List.map_congr_left (fun e _ => rfl)).trans (List.map_id E)
theorem among_toI {n : Nat} {E : EdN} (h : ∀ e ∈ E, e.1 < n ∧ e.2 < n) : amongL (n : Int) (toI E) = toI E := by
  unfold amongL
  rw [List.filter_eq_self]
  intro e he
  obtain ⟨e0, h0, rfl⟩ := List.mem_map.1 he
  have := h e0 h0
  rw [rightP_iff]
  simp only
  omega
theorem size_any (ta : Option Addr) (m tc D : Nat) (ev : Value) (w : World) (hm : m ≤ 1000000) (hD : D ≤ 1000000) :
    Calls Tryz.prog 66 #[.agg #[.slice ta m tc, .int .i64 (D : Int), ev]] w fun e w' => e = .returned (.int .i64 ((D + m : Nat) : Int)) ∧ w' = w.alloc (.cells #[.slice ta m tc, .int .i64 (D : Int), ev] 59) := by
  go_enter Tryz.func66, Tryz.ntmps66
  go_wp2_with fail
  go_ret
  exact ⟨by go_num, rfl⟩
theorem line1_any (q D : Nat) (x : Int) (W : World) (hq : W.cell? ⟨q, 1, none⟩ = some (.int .i64 (D : Int))) :
    Calls Tryz.prog 89 #[.int .i64 x, .pointer (some ⟨q, 0, none⟩)] W fun e w' => e = .returned (.bool (decide (x < (D : Int)))) ∧ w' = W := by
  go_enter Tryz.func89, Tryz.ntmps89
  go_wp2_with fail
  go_ret
  exact ⟨rfl, rfl⟩
theorem thing_any (ta : Option Addr) (tc D i : Nat) (A : List Nat) (ev : Value) (x : Nat) (w : World) (hr : RI w (.slice ta A.length tc) (nl A)) (hx : A[i]? = some x) (hD : D ≤ 1000000) (hl : A.length ≤ 1000000) :
    Calls Tryz.prog 63 #[.agg #[.slice ta A.length tc, .int .i64 (D : Int), ev], .int .i64 ((D + i : Nat) : Int)] w fun e w' => e = .returned (.int .i64 (x : Int)) ∧ Below w.heap.size w w' := by
  obtain ⟨b, o, rfl, hb, hc1, hc2, cx⟩ := hr.at (nl_at hx)
  have hi := (List.getElem?_eq_some_iff.1 hx).1
  obtain ⟨m, hm⟩ : ∃ m, m = A.length := ⟨_, rfl⟩
  rw [← hm] at hc1 hi hl ⊢
  obtain ⟨g, hg⟩ : ∃ g, g = D + i := ⟨_, rfl⟩
  have hgI : (g : Int) - (D : Int) = (i : Int) := by omega
  rw [← hg]
  unfold maxLen at hc2
  clear hr hx hm hg
  go_enter Tryz.func63, Tryz.ntmps63
  go_wp2_with fail
  go_ret
  exact ⟨rfl, (Below.refl _ _).alloc (Nat.le_refl _) _⟩
abbrev BxS (w1 : World) (q : Nat) (tv dv ev : Value) (W : World) : Prop := (W.cell? ⟨q, 0, none⟩ = some tv ∧ W.cell? ⟨q, 1, none⟩ = some dv ∧ W.cell? ⟨q, 2, none⟩ = some ev) ∧ q < w1.heap.size ∧ Below w1.heap.size w1 W
theorem bxs_call {w1 W W' : World} {q : Nat} {tv dv ev : Value} (hb : Below W.heap.size W W') (h : BxS w1 q tv dv ev W) : BxS w1 q tv dv ev W' := by
  obtain ⟨⟨a0, a1, a2⟩, hq, hB⟩ := h
  have hqW := Nat.lt_of_lt_of_le hq hB.size
  exact ⟨⟨(hb.cell (p := ⟨q, 0, none⟩) hqW).trans a0, (hb.cell (p := ⟨q, 1, none⟩) hqW).trans a1, (hb.cell (p := ⟨q, 2, none⟩) hqW).trans a2⟩, hq, hB.trans (hb.mono hB.size)⟩
section
variable {R : Nat → Nat → Prop} {D : Nat} {rk : Nat → Nat} {E : EdN} {A : List Nat}
set_option maxHeartbeats 2000000 in
set_option maxRecDepth 100000 in
theorem line_any (bv : Value) (w : World) (hM : BoardM w bv A D E) (hB : BoardS R A.length D rk E) (hD : D ≤ 200000) (hA : A.length ≤ 100000) (hE : E.length ≤ 100000) :
    Calls Tryz.prog 61 #[bv] w fun e w' => ∃ ov L, e = .returned ov ∧ RI w' ov (L.map fun x => (D : Int) + x) ∧ ReachK (needE (pairA R A.length)) A.length L ∧ L.length = A.length ∧ Below w.heap.size w w' := by
  obtain ⟨tv, ev, rfl, hrt, hre⟩ := hM
  obtain ⟨ta, tc, rfl⟩ := hrt.form
  rw [nl_len]
  obtain ⟨m, hm⟩ : ∃ m, m = A.length := ⟨_, rfl⟩
  rw [← hm] at hB hA ⊢
  obtain ⟨w1, hw1⟩ : ∃ w1, w1 = w.alloc (.cells #[.slice ta m tc, .int .i64 (D : Int), ev] 59) := ⟨_, rfl⟩
  have hb1 : Below w.heap.size w w1 := by rw [hw1]; exact (Below.refl _ _).alloc (Nat.le_refl _) _
  obtain ⟨q, hq⟩ : ∃ q, q = w.heap.size := ⟨_, rfl⟩
  have hS1 : BxS w1 q (.slice ta m tc) (.int .i64 (D : Int)) ev w1.drew := by
    rw [hw1, hq]
    exact ⟨⟨World.cell?_alloc_at _ _ _ _ rfl, World.cell?_alloc_at _ _ _ _ rfl, World.cell?_alloc_at _ _ _ _ rfl⟩, by simp, (Below.refl _ _).drew⟩
  obtain ⟨sz, hsz⟩ : ∃ sz, sz = D + m := ⟨_, rfl⟩
  have HSZ := Lib.hid (fun W => (size_any ta m tc D ev W (by omega) (by omega)).mono (R' := fun e w' => e = .returned (.int .i64 (sz : Int)) ∧ Below W.heap.size W w') (fun e w' h => ⟨by rw [h.1, hsz], by rw [h.2]; exact (Below.refl _ _).alloc (Nat.le_refl _) _⟩))
  have hEl : ∀ e ∈ E, e.1 < sz ∧ e.2 < sz := by rw [hsz]; exact hB.lt
  have HSO := Lib.hid (fun W (h : BxS w1 q (.slice ta m tc) (.int .i64 (D : Int)) ev W) => sortF_row (sz : Int) (toI E) ev W (hre.below (hb1.trans (h.2.2.mono hb1.size))) (by simp [toI]; omega) (by omega) (by omega))
  rw [Int.toNat_natCast, among_toI hEl, toN_toI] at HSO
  have HLN : Hid (∀ out ok, SortR sz E out ok → ok = true ∧ out.length = sz ∧ ∃ L : List Int, out.filter (fun x => decide ((D : Int) ≤ x)) = L.map (fun x => (D : Int) + x) ∧ ReachK (needE (pairA R m)) m L ∧ L.length = m) := Lib.hid (fun out ok h => by
    rw [hsz] at h
    obtain ⟨h1, h2, h3⟩ := hB.line h
    exact ⟨h1, by rw [hsz]; exact h2, h3⟩)
  have HS1 := Lib.hid hS1
  have HW1 := Lib.hid hw1
  have HB1 := Lib.hid hb1
  have HQ := Lib.hid hq
  have hsz9 : sz ≤ 300000 := by omega
  clear hrt hre hb1 hw1 hS1 hEl hB hm hsz hq
  go_enter Tryz.func61, Tryz.ntmps61
  go_wp2_with fail
  rw [← HW1.out, ← HQ.out]
  go_region_held3 (fun W => (W.cell? ⟨q, 0, none⟩ = some (.slice ta m tc) ∧ W.cell? ⟨q, 1, none⟩ = some (.int .i64 (D : Int)) ∧ W.cell? ⟨q, 2, none⟩ = some ev) ∧ q < w1.heap.size ∧ Below w1.heap.size w1 W)
    (first | with_reducible exact hq3 | with_reducible exact hq2 | with_reducible exact HS1.out)
    (first
      | (go_at_call 66; have hq : BxS w1 q (.slice ta m tc) (.int .i64 (D : Int)) ev _ := (by assumption); (with_reducible refine (HSZ.out _).mono ?_); rintro e w2 ⟨rfl, hb2⟩; have hq2 := bxs_call hb2 hq; clear hq)
      | (go_at_call 22; have hq : BxS w1 q (.slice ta m tc) (.int .i64 (D : Int)) ev _ := (by assumption); (with_reducible refine (HSO.out _ hq).mono ?_); rintro e w3 ⟨sv, out, ok, rfl, hsr, hrow0, hb3⟩; have hq3 := bxs_call hb3 hq; have hrow := Row.mono hrow0 hq.2.2.size; clear hq hrow0))
  rename_i hHeld
  clear hHeld hq2 hb2 hb3
  obtain ⟨hok, hol, L, hL1, hL2, hL3⟩ := HLN.out out ok hsr
  subst hok
  have hqB : q < w3.heap.size := Nat.lt_of_lt_of_le hq3.2.1 hq3.2.2.size
  have hown : ∀ i, sv.ownBlock = some i → w1.heap.size ≤ i := fun i hi => (hrow.lt i hi).1
  have HDL := Lib.hid (deleteL_any out sz q w1.heap.size (fun x => decide (x < (D : Int))) sv w3 (by rw [← hol]; exact hrow) hol (by omega) (fun W ho x hx => line1_any q D x W ((ho.cell (p := ⟨q, 1, none⟩) hqB (fun e => by have := hown q e; have := hq3.2.1; omega)).trans hq3.1.2.1)))
  have HKP : Hid (keepI out (fun x => decide (x < (D : Int))) sz = L.map fun x => (D : Int) + x) := Lib.hid (by
    rw [← hL1]
    unfold keepI
    rw [List.take_of_length_le (by omega)]
    congr 1
    funext x
    rw [Bool.eq_iff_iff]
    simp)
  have HL2 := Lib.hid hL2
  have HL3 := Lib.hid hL3
  have HB3 := Lib.hid (HB1.out.trans (hq3.2.2.mono HB1.out.size))
  have HOWN := Lib.hid hown
  have HS13 := Lib.hid (show w.heap.size ≤ w3.heap.size from HB3.out.size)
  obtain ⟨sa, sc, hsv⟩ := hrow.form
  clear hsr hrow hq3 hol hL1 hL2 hL3 hown
  subst hsv
  go_wp2_with fail
  refine HDL.out.mono ?_
  rintro e w4 ⟨ov, rfl, hrow4, hof4⟩
  have HROW4 := Lib.hid hrow4
  have HOF4 := Lib.hid hof4
  obtain ⟨oa, oc, hov⟩ := hrow4.form
  clear hrow4 hof4
  subst hov
  go_wp2_with fail
  go_ret
  refine ⟨_, L, rfl, ?_, HL2.out, HL3.out, ?_⟩
  · have h := RI.ofRow HROW4.out
    rw [HKP.out] at h
    rw [HKP.out]
    exact h
  · exact HB3.out.trans (off_below HOF4.out (fun i hi => Nat.le_trans HB1.out.size (HOWN.out i hi)) HB3.out.size)
end
end Go.Proofs.YtfpepoebammeoaaGreat
