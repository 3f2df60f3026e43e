/- The document's Order: New, there, Ahead, Comparable. -/
import Derived.Test.YtfpepoebammeoaaGreatU11
import Derived.Test.YtfpepoebammeoaaGreatU41
set_option linter.unusedVariables false
set_option linter.unusedSimpArgs false
namespace Go.Proofs.YtfpepoebammeoaaGreat
open Go.ChangeShapes Go.WideShapes Go.ChangeAt Go.RowKit

structure ROrd (w : World) (p N : Nat) (C : Nat → Nat → Bool) : Prop where
  lt : p < w.heap.size
  tab : ∃ B ov rb, w.cell? ⟨p, 0, none⟩ = some ov ∧ Tab B w ov N N rb C
theorem ROrd.below {w w' : World} {p N : Nat} {C : Nat → Nat → Bool} (h : ROrd w p N C) (hb : Below w.heap.size w w') : ROrd w' p N C := by
  obtain ⟨B, ov, rb, h1, h2⟩ := h.tab
  exact ⟨Nat.lt_of_lt_of_le h.lt hb.size, B, ov, rb, (hb.cell (p := ⟨p, 0, none⟩) h.lt).trans h1, h2.below hb⟩
theorem Tab.len {B n m : Nat} {w : World} {v : Value} {rb : Nat → Nat} {T : Nat → Nat → Bool} (h : Tab B w v n m rb T) : ∃ a c, v = .slice a n c := h.r.form
set_option maxHeartbeats 1000000 in
theorem rnew_any (n : Int) (es : Ed) (v : Value) (w : World) (hr : RE w v es) (hl : es.length ≤ 400000) (hn1 : -9223372036854775808 ≤ n) (hn : n ≤ 2000) :
    Calls Tryz.prog 9 #[.int .i64 n, v] w fun e w' => ∃ p, e = .returned (.pointer (some ⟨p, 0, none⟩)) ∧ ROrd w' p n.toNat (viaB (edB (edN n es)) n.toNat) ∧ Below w.heap.size w w' := by
  have HC := Lib.hid (comes_any n es v w hr hl hn1 hn)
  go_enter Tryz.func9, Tryz.ntmps9
  go_wp2_with fail
  refine HC.out.mono ?_
  rintro e w2 ⟨ov, rb, rfl, ht, hb2⟩
  have HT := Lib.hid ht
  have HB2 := Lib.hid hb2
  obtain ⟨oa, oc, hov⟩ := ht.len
  subst hov
  clear ht hb2
  go_wp2_with fail
  go_ret
  have hb : Below w2.heap.size w2 (w2.alloc (.cells #[.slice oa n.toNat oc] 52)) := (Below.refl _ _).alloc (Nat.le_refl _) _
  exact ⟨_, rfl, ⟨by simp, _, _, rb, World.cell?_alloc_at _ _ _ _ rfl, HT.out.below hb⟩, HB2.out.trans (hb.mono HB2.out.size)⟩
set_option maxHeartbeats 1000000 in
theorem rthere_any (p N : Nat) (C : Nat → Nat → Bool) (a : Int) (w : World) (h : ROrd w p N C) (hN : N ≤ 2000) (ha1 : -9223372036854775808 ≤ a) (ha2 : a ≤ 9223372036854775807) :
    Calls Tryz.prog 33 #[.pointer (some ⟨p, 0, none⟩), .int .i64 a] w fun e w' => e = .returned (.bool (hasB (N : Int) a)) ∧ w' = w := by
  obtain ⟨B, ov, rb, h1, h2⟩ := h.tab
  obtain ⟨oa, oc, hov⟩ := h2.len
  subst hov
  clear h h2
  by_cases h0 : 0 ≤ a
  · have e : hasB (N : Int) a = decide (a < (N : Int)) := by unfold hasB; rw [decide_eq_true h0, Bool.true_and]
    rw [e]
    have h0d : decide (0 ≤ a) = true := decide_eq_true h0
    clear e
    go_enter Tryz.func33, Tryz.ntmps33
    go_wp2_with fail
    go_ret
    exact ⟨rfl, rfl⟩
  · have e : hasB (N : Int) a = false := by unfold hasB; rw [decide_eq_false h0, Bool.false_and]
    rw [e]
    have h0d : decide (0 ≤ a) = false := decide_eq_false h0
    clear e
    go_enter Tryz.func33, Tryz.ntmps33
    go_wp2_with fail
    go_ret
    exact ⟨rfl, rfl⟩
theorem via_edW {N : Nat} {F : EdN} (hF : ∀ e ∈ F, e.1 < N ∧ e.2 < N) (i j : Nat) : viaB (edB F) N i j = true ↔ Walk (EdR F) i j := by
  rw [viaB_iff (R := EdR F) (fun a b => by simp [edB])]
  exact via_iff (fun a b h => (hF _ h).2) i j
theorem edN_lt (n : Int) (es : Ed) : ∀ e ∈ edN n es, e.1 < n.toNat ∧ e.2 < n.toNat := by
  intro e he
  obtain ⟨e0, h0, rfl⟩ := List.mem_map.1 he
  obtain ⟨_, h1⟩ := List.mem_filter.1 h0
  have := rightP_iff.1 h1
  constructor
  · show e0.1.toNat < _
    omega
  · show e0.2.toNat < _
    omega
theorem ahB_tab {N : Nat} {F : EdN} (hF : ∀ e ∈ F, e.1 < N ∧ e.2 < N) {x y : Nat} (hx : x < N) (hy : y < N) : ahB (N : Int) F x y = (viaB (edB F) N x y && !viaB (edB F) N y x) := by
  have h1 := via_edW hF x y
  have h2 := via_edW hF y x
  rw [Bool.eq_iff_iff, ahB_iff, Bool.and_eq_true, h1, Int.toNat_natCast, Int.toNat_natCast]
  unfold AheadK
  rw [← h2]
  constructor
  · rintro ⟨_, _, _, _, a, b⟩
    exact ⟨a, by simpa using b⟩
  · rintro ⟨a, b⟩
    exact ⟨by omega, by omega, by omega, by omega, a, by simpa using b⟩
set_option maxHeartbeats 2000000 in
theorem rahead_any (p N : Nat) (F : EdN) (hF : ∀ e ∈ F, e.1 < N ∧ e.2 < N) (a b : Int) (w : World) (h : ROrd w p N (viaB (edB F) N)) (hN : N ≤ 2000) (ha1 : -9223372036854775808 ≤ a) (ha2 : a ≤ 9223372036854775807) (hb1 : -9223372036854775808 ≤ b) (hb2 : b ≤ 9223372036854775807) :
    Calls Tryz.prog 11 #[.pointer (some ⟨p, 0, none⟩), .int .i64 a, .int .i64 b] w fun e w' => e = .returned (.bool (ahB (N : Int) F a b)) ∧ w' = w := by
  have HTA := Lib.hid (rthere_any p N _ a w h hN ha1 ha2)
  have HTB := Lib.hid (rthere_any p N _ b w h hN hb1 hb2)
  cases ha : hasB (N : Int) a with
  | false =>
    rw [ah_out (.inl ha)]
    rw [ha] at HTA
    clear ha h
    go_enter Tryz.func11, Tryz.ntmps11
    go_wp2_with fail
    refine HTA.out.mono ?_
    rintro e w2 ⟨rfl, hw2⟩
    obtain rfl := hw2.symm
    go_wp2_with fail
    go_ret
    exact ⟨rfl, rfl⟩
  | true =>
    cases hb : hasB (N : Int) b with
    | false =>
      rw [ah_out (.inr hb)]
      rw [ha] at HTA
      rw [hb] at HTB
      clear ha hb h
      go_enter Tryz.func11, Tryz.ntmps11
      go_wp2_with fail
      refine HTA.out.mono ?_
      rintro e w2 ⟨rfl, hw2⟩
      obtain rfl := hw2.symm
      go_wp2_with fail
      refine HTB.out.mono ?_
      rintro e w3 ⟨rfl, hw3⟩
      obtain rfl := hw3.symm
      go_wp2_with fail
      go_ret
      exact ⟨rfl, rfl⟩
    | true =>
      rw [ha] at HTA
      rw [hb] at HTB
      obtain ⟨a3, a4⟩ := hasB_iff.1 ha
      obtain ⟨b3, b4⟩ := hasB_iff.1 hb
      obtain ⟨x, rfl⟩ : ∃ x : Nat, a = (x : Int) := ⟨a.toNat, by omega⟩
      obtain ⟨y, rfl⟩ : ∃ y : Nat, b = (y : Int) := ⟨b.toNat, by omega⟩
      have hx : x < N := by omega
      have hy : y < N := by omega
      obtain ⟨B, ov, rb, h1, h2⟩ := h.tab
      obtain ⟨ob, oc, hov, hoc1, hoc2⟩ := h2.form (by omega)
      subst hov
      have rx := h2.row hx
      have ry := h2.row hy
      have cxy := (h2.cell hx hy).1
      have cyx := (h2.cell hy hx).1
      have HE := Lib.hid (ahB_tab hF hx hy)
      obtain ⟨c, hc⟩ : ∃ c, c = viaB (edB F) N x y := ⟨_, rfl⟩
      obtain ⟨d, hd⟩ : ∃ d, d = viaB (edB F) N y x := ⟨_, rfl⟩
      rw [← hc] at cxy HE
      rw [← hd] at cyx HE
      rw [HE.out]
      unfold maxLen at hoc2
      clear ha hb h h2 hc hd a3 a4 b3 b4 ha1 ha2 hb1 hb2 HE hF
      cases c with
      | false =>
        go_enter Tryz.func11, Tryz.ntmps11
        go_wp2_with fail
        refine HTA.out.mono ?_
        rintro e w2 ⟨rfl, hw2⟩
        obtain rfl := hw2.symm
        go_wp2_with fail
        refine HTB.out.mono ?_
        rintro e w3 ⟨rfl, hw3⟩
        obtain rfl := hw3.symm
        go_wp2_with fail
        go_ret
        exact ⟨rfl, rfl⟩
      | true =>
        go_enter Tryz.func11, Tryz.ntmps11
        go_wp2_with fail
        refine HTA.out.mono ?_
        rintro e w2 ⟨rfl, hw2⟩
        obtain rfl := hw2.symm
        go_wp2_with fail
        refine HTB.out.mono ?_
        rintro e w3 ⟨rfl, hw3⟩
        obtain rfl := hw3.symm
        go_wp2_with fail
        go_ret
        exact ⟨by simp [Act.eval], rfl⟩
theorem cpB_tab {N : Nat} {F : EdN} (hF : ∀ e ∈ F, e.1 < N ∧ e.2 < N) {x y : Nat} (hx : x < N) (hy : y < N) : cpB (N : Int) F x y = (decide (x = y) || (viaB (edB F) N x y || viaB (edB F) N y x)) := by
  have h1 := via_edW hF x y
  have h2 := via_edW hF y x
  rw [Bool.eq_iff_iff, cpB_iff, Bool.or_eq_true, Bool.or_eq_true, h1, h2, decide_eq_true_iff, Int.toNat_natCast, Int.toNat_natCast]
  constructor
  · rintro ⟨_, _, _, _, ⟨a | a, _⟩ | a | a⟩
    · exact .inl a
    · exact .inr (.inl a)
    · exact .inr (.inl a.1)
    · exact .inr (.inr a.1)
  · intro h
    refine ⟨by omega, by omega, by omega, by omega, ?_⟩
    by_cases w1 : Walk (EdR F) x y <;> by_cases w2 : Walk (EdR F) y x
    · exact .inl ⟨.inr w1, .inr w2⟩
    · exact .inr (.inl ⟨w1, w2⟩)
    · exact .inr (.inr ⟨w2, w1⟩)
    · rcases h with h | h | h
      · subst h; exact .inl (Knot.refl _)
      · exact absurd h w1
      · exact absurd h w2
set_option maxHeartbeats 2000000 in
theorem rcomp_any (p N : Nat) (F : EdN) (hF : ∀ e ∈ F, e.1 < N ∧ e.2 < N) (a b : Int) (w : World) (h : ROrd w p N (viaB (edB F) N)) (hN : N ≤ 2000) (ha1 : -9223372036854775808 ≤ a) (ha2 : a ≤ 9223372036854775807) (hb1 : -9223372036854775808 ≤ b) (hb2 : b ≤ 9223372036854775807) :
    Calls Tryz.prog 13 #[.pointer (some ⟨p, 0, none⟩), .int .i64 a, .int .i64 b] w fun e w' => e = .returned (.bool (cpB (N : Int) F a b)) ∧ w' = w := by
  have HTA := Lib.hid (rthere_any p N _ a w h hN ha1 ha2)
  have HTB := Lib.hid (rthere_any p N _ b w h hN hb1 hb2)
  cases ha : hasB (N : Int) a with
  | false =>
    rw [cp_out (.inl ha)]
    rw [ha] at HTA
    clear ha h
    go_enter Tryz.func13, Tryz.ntmps13
    go_wp2_with fail
    refine HTA.out.mono ?_
    rintro e w2 ⟨rfl, hw2⟩
    obtain rfl := hw2.symm
    go_wp2_with fail
    go_ret
    exact ⟨rfl, rfl⟩
  | true =>
    cases hb : hasB (N : Int) b with
    | false =>
      rw [cp_out (.inr hb)]
      rw [ha] at HTA
      rw [hb] at HTB
      clear ha hb h
      go_enter Tryz.func13, Tryz.ntmps13
      go_wp2_with fail
      refine HTA.out.mono ?_
      rintro e w2 ⟨rfl, hw2⟩
      obtain rfl := hw2.symm
      go_wp2_with fail
      refine HTB.out.mono ?_
      rintro e w3 ⟨rfl, hw3⟩
      obtain rfl := hw3.symm
      go_wp2_with fail
      go_ret
      exact ⟨rfl, rfl⟩
    | true =>
      rw [ha] at HTA
      rw [hb] at HTB
      obtain ⟨a3, a4⟩ := hasB_iff.1 ha
      obtain ⟨b3, b4⟩ := hasB_iff.1 hb
      obtain ⟨x, rfl⟩ : ∃ x : Nat, a = (x : Int) := ⟨a.toNat, by omega⟩
      obtain ⟨y, rfl⟩ : ∃ y : Nat, b = (y : Int) := ⟨b.toNat, by omega⟩
      have hx : x < N := by omega
      have hy : y < N := by omega
      obtain ⟨B, ov, rb, h1, h2⟩ := h.tab
      obtain ⟨ob, oc, hov, hoc1, hoc2⟩ := h2.form (by omega)
      subst hov
      have rx := h2.row hx
      have ry := h2.row hy
      have cxy := (h2.cell hx hy).1
      have cyx := (h2.cell hy hx).1
      have HE := Lib.hid (cpB_tab hF hx hy)
      obtain ⟨c, hc⟩ : ∃ c, c = viaB (edB F) N x y := ⟨_, rfl⟩
      obtain ⟨d, hd⟩ : ∃ d, d = viaB (edB F) N y x := ⟨_, rfl⟩
      rw [← hc] at cxy HE
      rw [← hd] at cyx HE
      rw [HE.out]
      unfold maxLen at hoc2
      clear ha hb h h2 hc hd a3 a4 b3 b4 ha1 ha2 hb1 hb2 HE hF
      by_cases hxy : x = y
      · rw [decide_eq_true hxy, Bool.true_or]
        subst hxy
        go_enter Tryz.func13, Tryz.ntmps13
        go_wp2_with fail
        refine HTA.out.mono ?_
        rintro e w2 ⟨rfl, hw2⟩
        obtain rfl := hw2.symm
        go_wp2_with fail
        refine HTB.out.mono ?_
        rintro e w3 ⟨rfl, hw3⟩
        obtain rfl := hw3.symm
        go_wp2_with fail
        go_ret
        exact ⟨by simp [Act.eval], rfl⟩
      · rw [decide_eq_false hxy, Bool.false_or]
        have hxb : ((x : Int) == (y : Int)) = false := beq_eq_false_iff_ne.2 (by omega)
        have hxI : ¬ (x : Int) = (y : Int) := by omega
        clear hxy
        cases c with
        | true =>
          go_enter Tryz.func13, Tryz.ntmps13
          go_wp2_with fail
          refine HTA.out.mono ?_
          rintro e w2 ⟨rfl, hw2⟩
          obtain rfl := hw2.symm
          go_wp2_with fail
          refine HTB.out.mono ?_
          rintro e w3 ⟨rfl, hw3⟩
          obtain rfl := hw3.symm
          go_wp2_with fail
          go_ret
          exact ⟨by simp [Act.eval], rfl⟩
        | false =>
          go_enter Tryz.func13, Tryz.ntmps13
          go_wp2_with fail
          refine HTA.out.mono ?_
          rintro e w2 ⟨rfl, hw2⟩
          obtain rfl := hw2.symm
          go_wp2_with fail
          refine HTB.out.mono ?_
          rintro e w3 ⟨rfl, hw3⟩
          obtain rfl := hw3.symm
          go_wp2_with fail
          go_ret
          exact ⟨by simp [Act.eval], rfl⟩
end Go.Proofs.YtfpepoebammeoaaGreat
