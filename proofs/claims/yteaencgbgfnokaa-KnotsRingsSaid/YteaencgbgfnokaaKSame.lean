/- The contracts of the document's Same, and of awake. -/
import Derived.Test.YteaencgbgfnokaaKSort
import Derived.Test.YteaencgbgfnokaaKLawM
set_option linter.unusedVariables false
namespace Go.Proofs.Yteaencgbgfnokaa
open Go.ChangeShapes Go.WideShapes Go.ChangeAt Go.RowKit

theorem RI.ofBk {B n : Nat} {w : World} {v : Value} {ks : Nat → Nat} (h : Row 1 B w v n (bkv ks n)) : RI w v (nl (ansL ks n)) := by
  have e : bkv ks n = iv (nl (ansL ks n)) := by
    unfold bkv iv nl ansL
    rw [List.map_map, List.map_map]
    rfl
  have hl : (nl (ansL ks n)).length = n := by simp [ansL]
  refine RI.ofRow (B := B) ?_
  rw [hl, ← e]
  exact h
theorem belowD (w : World) (d : Nat) : Below w.heap.size w (w.drewN d) := Below.drewN (Below.refl _ _)
set_option maxHeartbeats 1000000 in
theorem sameI_any (a b : List Int) (va vb : Value) (w : World) (ha : RI w va a) (hb : RI w vb b) (hl : a.length ≤ 1000000) (hl2 : b.length ≤ 1000000) :
    Calls Try.prog 8 #[va, vb] w fun e w' => e = .returned (.bool (decide (a = b))) ∧ Below w.heap.size w w' := by
  obtain ⟨aa, ac, rfl⟩ := ha.form
  obtain ⟨ba, bc, rfl⟩ := hb.form
  obtain ⟨n, hn⟩ : ∃ n, n = a.length := ⟨_, rfl⟩
  obtain ⟨k, hk⟩ : ∃ k, k = b.length := ⟨_, rfl⟩
  rw [← hn] at ha hl ⊢
  rw [← hk] at hb hl2 ⊢
  have HA := Lib.hid ha
  have HB := Lib.hid hb
  have HN := Lib.hid hn
  have HK := Lib.hid hk
  clear ha hb hn hk
  by_cases hnk : n = k
  · subst hnk
    go_enter Try.func8, Try.ntmps8
    go_wp2_with fail
    go_loopw [5] (fun jv wr => ∃ j : Nat, jv = .int .i64 (j : Nat) ∧ j ≤ n ∧ Hid (a.take j = b.take j) ∧ ∃ d, wr = w.drewN d) (fun jv _ => n - (intOf jv).toNat)
    case atStart => exact ⟨0, rfl, Nat.zero_le _, Lib.hid (by simp), 0, rfl⟩
    case round =>
      obtain ⟨j, rfl, hjn, HT, d, rfl⟩ := hrel
      by_cases hlt : j < n
      · obtain ⟨x, hx⟩ : ∃ x, a[j]? = some x := ⟨a[j]'(by rw [← HN.out]; exact hlt), by simp⟩
        obtain ⟨y, hy⟩ : ∃ y, b[j]? = some y := ⟨b[j]'(by rw [← HK.out]; exact hlt), by simp⟩
        obtain ⟨xb, xo, rfl, _, hxc1, hxc2, cx⟩ := HA.out.at hx
        obtain ⟨yb, yo, rfl, _, hyc1, hyc2, cy⟩ := HB.out.at hy
        have cx' : (w.drewN d).cell? ⟨xb, xo + j, none⟩ = some (.int .i64 x) := cx
        have cy' : (w.drewN d).cell? ⟨yb, yo + j, none⟩ = some (.int .i64 y) := cy
        unfold maxLen at hxc2 hyc2
        have HX := Lib.hid hx
        have HY := Lib.hid hy
        clear hx hy
        by_cases he : x = y
        · subst he
          have HT2 : Hid (a.take (j + 1) = b.take (j + 1)) := Lib.hid (by rw [List.take_add_one, List.take_add_one, HX.out, HY.out, HT.out])
          go_wp2_with fail
          go_quiet (fail)
          go_wp2_with fail
          exact ⟨⟨j + 1, by go_num, by omega, HT2, _, rfl⟩, by simp [intOf]; omega⟩
        · have hne : (x == y) = false := by rw [beq_eq_false_iff_ne]; exact he
          have HF : Hid (decide (a = b) = false) := Lib.hid (decide_eq_false (fun e => he (by
            have := HX.out
            rw [e, HY.out] at this
            exact (Option.some.inj this).symm)))
          go_wp2_with fail
          go_quiet (fail)
          go_wp2_with fail
          go_ret
          exact ⟨by rw [HF.out]; rfl, Below.drewN (belowD w _)⟩
      · have hje : n = j := by omega
        have HF : Hid (decide (a = b) = true) := Lib.hid (decide_eq_true (by
          have h := HT.out
          rw [List.take_of_length_le (by rw [← HN.out]; omega), List.take_of_length_le (by rw [← HK.out]; omega)] at h
          exact h))
        subst hje
        go_wp2_with fail
        go_ret
        exact ⟨by rw [HF.out]; rfl, belowD w _⟩
  · have hne : ((n : Int) == (k : Int)) = false := by rw [beq_eq_false_iff_ne]; omega
    have HF : Hid (decide (a = b) = false) := Lib.hid (decide_eq_false (fun e => hnk (by rw [HN.out, HK.out, e])))
    have hnk2 : ¬ (n : Int) = (k : Int) := by omega
    go_enter Try.func8, Try.ntmps8
    go_wp2_with fail
    go_ret
    exact ⟨by rw [HF.out]; rfl, Below.refl _ _⟩

/-- Literals that are read. -/
theorem re_lit {w : World} {t : TypeId} (es : Ed) (c : Nat) (hc : c = es.length) (h0 : es ≠ []) (hm : c ≤ maxLen) : RE (w.alloc (.cells (evs es).toArray t)) (.slice (some ⟨w.heap.size, 0, none⟩) c c) es := by
  subst hc
  refine .inr ⟨h0, w.heap.size, 0, es.length, rfl, Nat.le_refl _, hm, by simp, fun j e he => ?_⟩
  obtain ⟨h1, h2⟩ := evs_at he
  rw [Nat.zero_add]
  constructor
  · rw [World.cell?_alloc_at _ _ _ _ rfl]
    simpa using h1
  · rw [World.cell?_alloc_at _ _ _ _ rfl]
    simpa using h2
theorem ri_lit {w : World} {t : TypeId} (l : List Int) (c : Nat) (hc : c = l.length) (h0 : l ≠ []) (hm : c ≤ maxLen) : RI (w.alloc (.cells (iv l).toArray t)) (.slice (some ⟨w.heap.size, 0, none⟩) c c) l := by
  subst hc
  refine .inr ⟨h0, w.heap.size, 0, l.length, rfl, Nat.le_refl _, hm, by simp, fun j x hx => ?_⟩
  rw [Nat.zero_add, World.cell?_alloc_at _ _ _ _ rfl]
  simp [iv, hx]

theorem aw_sort {out : List Int} {ok : Bool} (h : SortR 3 [(2, 0)] out ok) : out = [1, 2, 0] ∧ ok = true := by
  refine h.unique (b := [1, 2, 0]) (y := true) (.inl ⟨rfl, ?_, rfl⟩)
  have r0 : ReachK (needE [(2, 0)]) 3 [] := .nil
  have r1 : ReachK (needE [(2, 0)]) 3 [1] := ReachK.step (u := 1) r0 (by decide +kernel)
  have r2 : ReachK (needE [(2, 0)]) 3 [1, 2] := ReachK.step (u := 2) r1 (by decide +kernel)
  exact ReachK.step (u := 0) r2 (by decide +kernel)
theorem aw_knots {ks : Nat → Nat} (h : ∀ x, x < 4 → LeastK (EdR [(0, 1), (1, 2), (2, 1), (2, 3)]) x (ks x)) : nl (ansL ks 4) = [0, 1, 1, 3] := by
  have hR : ∀ a b, EdR [(0, 1), (1, 2), (2, 1), (2, 3)] a b → b < 4 := by
    intro a b h
    simp [EdR] at h
    omega
  have key : ∀ x k, knotB (edB [(0, 1), (1, 2), (2, 1), (2, 3)]) 4 x k = true → (∀ b, b < k → knotB (edB [(0, 1), (1, 2), (2, 1), (2, 3)]) 4 x b = false) → LeastK (EdR [(0, 1), (1, 2), (2, 1), (2, 3)]) x k := fun x k h1 h2 => least_of (edB_iff _) hR h1 h2
  have e0 : ks 0 = 0 := (h 0 (by omega)).unique (key 0 0 (by decide +kernel) (by decide +kernel))
  have e1 : ks 1 = 1 := (h 1 (by omega)).unique (key 1 1 (by decide +kernel) (by decide +kernel))
  have e2 : ks 2 = 1 := (h 2 (by omega)).unique (key 2 1 (by decide +kernel) (by decide +kernel))
  have e3 : ks 3 = 3 := (h 3 (by omega)).unique (key 3 3 (by decide +kernel) (by decide +kernel))
  have : ansL ks 4 = [ks 0, ks 1, ks 2, ks 3] := rfl
  rw [this, e0, e1, e2, e3]
  rfl

set_option maxHeartbeats 2000000 in
set_option maxRecDepth 100000 in
theorem kawake_any (w : World) : Calls Try.prog 5 #[] w fun e w' => e = .returned (.bool true) ∧ Below w.heap.size w w' := by
  obtain ⟨w1, hw1⟩ : ∃ w1, w1 = w.alloc (.cells #[.int .i64 2, .int .i64 0] 31) := ⟨_, rfl⟩
  have hb1 : Below w.heap.size w w1 := by rw [hw1]; exact (Below.refl _ _).alloc (Nat.le_refl _) _
  have S1 := sortF_any 3 [((2 : Int), (0 : Int))] (.slice (some ⟨w.heap.size, 0, none⟩) 1 1) w1 (by rw [hw1]; exact re_lit [((2 : Int), (0 : Int))] 1 rfl (by simp) (by decide)) (by simp) (by omega) (by omega)
  have e1 : toN (amongL 3 [((2 : Int), (0 : Int))]) = [(2, 0)] := by decide +kernel
  rw [e1] at S1
  have HS1 := Lib.hid S1
  have HB1 := Lib.hid hb1
  have HW1 := Lib.hid hw1
  have e2 : toN (amongL 4 [((0 : Int), (1 : Int)), (1, 2), (2, 1), (2, 3)]) = [(0, 1), (1, 2), (2, 1), (2, 3)] := by decide +kernel
  have K1 : ∀ W : World, Calls Try.prog 9 #[.int .i64 4, .slice (some ⟨W.heap.size, 0, none⟩) 4 4] (W.alloc (.cells #[.int .i64 0, .int .i64 1, .int .i64 1, .int .i64 2, .int .i64 2, .int .i64 1, .int .i64 2, .int .i64 3] 31)) fun e W' => ∃ ov, e = .returned ov ∧ RI W' ov [0, 1, 1, 3] ∧ Below W.heap.size W W' := fun W => by
    have h := knotsF_any 4 [((0 : Int), (1 : Int)), (1, 2), (2, 1), (2, 3)] (.slice (some ⟨W.heap.size, 0, none⟩) 4 4) (W.alloc (.cells #[.int .i64 0, .int .i64 1, .int .i64 1, .int .i64 2, .int .i64 2, .int .i64 1, .int .i64 2, .int .i64 3] 31)) (re_lit [((0 : Int), (1 : Int)), (1, 2), (2, 1), (2, 3)] 4 rfl (by simp) (by decide)) (by simp) (by omega) (by omega)
    rw [e2] at h
    refine h.mono ?_
    rintro e W' ⟨ov, ks, rfl, h1, h2, h3⟩
    have hr := RI.ofBk h1
    have h4 : (4 : Int).toNat = 4 := rfl
    rw [h4] at hr h2
    rw [aw_knots h2] at hr
    exact ⟨_, rfl, hr, (Below.alloc (Below.refl _ W) (Nat.le_refl _) _).trans (h3.mono (by simp))⟩
  have HK1 := Lib.hid K1
  clear S1 hb1 hw1 e1 e2 K1
  go_enter Try.func5, Try.ntmps5
  go_wp2_with fail
  rw [← HW1.out]
  refine HS1.out.mono ?_
  rintro e w2 ⟨ov, out, ok, rfl, hs, ho, hb2⟩
  obtain ⟨rfl, rfl⟩ := aw_sort hs
  have HO2 := Lib.hid ho
  have HB2 := Lib.hid (HB1.out.trans (hb2.mono HB1.out.size))
  clear hs ho hb2
  go_wp2_with fail
  refine (HK1.out w2).mono ?_
  rintro e w3 ⟨kv, rfl, hk, hb3⟩
  obtain ⟨w4, hw4⟩ : ∃ w4, w4 = w3.alloc (.cells #[.int .i64 0, .int .i64 1, .int .i64 1, .int .i64 3] 3) := ⟨_, rfl⟩
  have hb34 : Below w3.heap.size w3 w4 := by rw [hw4]; exact (Below.refl _ _).alloc (Nat.le_refl _) _
  have SM := sameI_any [0, 1, 1, 3] [0, 1, 1, 3] kv (.slice (some ⟨w3.heap.size, 0, none⟩) 4 4) w4 (hk.below hb34) (by rw [hw4]; exact ri_lit [0, 1, 1, 3] 4 rfl (by simp) (by decide)) (by simp) (by simp)
  have HSM := Lib.hid SM
  have HW4 := Lib.hid hw4
  have HB4 := Lib.hid (HB2.out.trans ((hb3.trans (hb34.mono hb3.size)).mono HB2.out.size))
  have HO4 := Lib.hid (HO2.out.below (hb3.trans (hb34.mono hb3.size)))
  clear hk hb3 hw4 hb34 SM
  go_wp2_with fail
  rw [← HW4.out]
  refine HSM.out.mono ?_
  rintro e w5 ⟨rfl, hb5⟩
  have HB5 := Lib.hid (HB4.out.trans (hb5.mono HB4.out.size))
  obtain ⟨w6, hw6⟩ : ∃ w6, w6 = w5.alloc (.cells #[.int .i64 1, .int .i64 2, .int .i64 0] 3) := ⟨_, rfl⟩
  have hb56 : Below w5.heap.size w5 w6 := by rw [hw6]; exact (Below.refl _ _).alloc (Nat.le_refl _) _
  have SM := sameI_any [1, 2, 0] [1, 2, 0] ov (.slice (some ⟨w5.heap.size, 0, none⟩) 3 3) w6 ((HO4.out.below hb5).below hb56) (by rw [hw6]; exact ri_lit [1, 2, 0] 3 rfl (by simp) (by decide)) (by simp) (by simp)
  have HSM2 := Lib.hid SM
  have HW6 := Lib.hid hw6
  have HB6 := Lib.hid (HB5.out.trans (hb56.mono HB5.out.size))
  clear hb5 hw6 hb56 SM
  go_wp2_with fail
  rw [← HW6.out]
  refine HSM2.out.mono ?_
  rintro e w7 ⟨rfl, hb7⟩
  have HB7 := Lib.hid (HB6.out.trans (hb7.mono HB6.out.size))
  clear hb7
  go_wp2_with fail
  go_ret
  exact ⟨rfl, HB7.out⟩
end Go.Proofs.Yteaencgbgfnokaa
