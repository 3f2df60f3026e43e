/- Of package poset: Comparable; of a nil order nothing is there. Of package poset: New makes an order that all walks take; Runs of an order. -/
import Derived.Test.YtfpepoebammeoaaGreatU23
import Derived.Test.YtfpepoebammeoaaGreatU27
import Derived.Test.YtfpepoebammeoaaGreatU32
import Derived.Test.YtfpepoebammeoaaGreatU40
set_option linter.unusedVariables false
set_option linter.unusedSimpArgs false
namespace Go.Proofs.YtfpepoebammeoaaGreat
open Go.ChangeShapes Go.WideShapes Go.ChangeAt Go.RowKit

theorem ahead_nil (a b : Int) (w : World) : Calls Tryz.prog 10 #[.pointer none, .int .i64 a, .int .i64 b] w fun e w' => e = .returned (.bool false) ∧ w' = w := by
  have H := Lib.hid (has_nil a w)
  go_enter Tryz.func10, Tryz.ntmps10
  go_wp2_with fail
  refine H.out.mono ?_
  rintro e w2 ⟨rfl, rfl⟩
  go_wp2_with fail
  go_ret
  exact ⟨rfl, rfl⟩
theorem comp_nil (a b : Int) (w : World) : Calls Tryz.prog 12 #[.pointer none, .int .i64 a, .int .i64 b] w fun e w' => e = .returned (.bool false) ∧ w' = w := by
  have H := Lib.hid (has_nil a w)
  go_enter Tryz.func12, Tryz.ntmps12
  go_wp2_with fail
  refine H.out.mono ?_
  rintro e w2 ⟨rfl, rfl⟩
  go_wp2_with fail
  go_ret
  exact ⟨rfl, rfl⟩
section
variable {p : Nat} {n : Int} {es : EdN} {T : List Nat} {pl : Nat → Nat} {W : EdN}
theorem cpB_place {w : World} (h : OrdX w p n es T pl W) {a b : Int} (ha : hasB n a = true) (hb : hasB n b = true) : cpB n es a b = (decide (plI T pl a = plI T pl b) || (ahB n es a b || ahB n es b a)) := by
  obtain ⟨a1, a2⟩ := hasB_iff.1 ha
  obtain ⟨b1, b2⟩ := hasB_iff.1 hb
  rw [Bool.eq_iff_iff, cpB_iff, Bool.or_eq_true, Bool.or_eq_true, ahB_iff, ahB_iff, decide_eq_true_iff]
  obtain ⟨x, rfl⟩ : ∃ x : Nat, a = (x : Int) := ⟨a.toNat, by omega⟩
  obtain ⟨y, rfl⟩ : ∃ y : Nat, b = (y : Int) := ⟨b.toNat, by omega⟩
  rw [plI_same h.ok, Int.toNat_natCast, Int.toNat_natCast]
  constructor
  · rintro ⟨_, _, _, _, h | h | h⟩
    · exact .inl h
    · exact .inr (.inl ⟨a1, a2, b1, b2, h⟩)
    · exact .inr (.inr ⟨b1, b2, a1, a2, h⟩)
  · rintro (h | ⟨_, _, _, _, h⟩ | ⟨_, _, _, _, h⟩)
    · exact ⟨a1, a2, b1, b2, .inl h⟩
    · exact ⟨a1, a2, b1, b2, .inr (.inl h)⟩
    · exact ⟨a1, a2, b1, b2, .inr (.inr h)⟩
set_option maxHeartbeats 2000000 in
set_option maxRecDepth 100000 in
theorem comp_any (a b : Int) (w : World) (h : OrdX w p n es T pl W) :
    Calls Tryz.prog 12 #[.pointer (some ⟨p, 0, none⟩), .int .i64 a, .int .i64 b] w fun e w' => e = .returned (.bool (cpB n es a b)) ∧ Below w.heap.size w w' := by
  have HAS := Lib.hid (fun t => hasX_any t w h)
  cases ha : hasB n a with
  | false =>
    rw [cp_out (.inl ha)]
    have HA := HAS.out a
    rw [ha] at HA
    have HA := Lib.hid HA
    go_enter Tryz.func12, Tryz.ntmps12
    go_wp2_with fail
    refine HA.out.mono ?_
    rintro e w2 ⟨rfl, hw2⟩
    obtain rfl := hw2.symm
    go_wp2_with fail
    go_ret
    exact ⟨rfl, Below.refl _ _⟩
  | true =>
  have HA := HAS.out a
  rw [ha] at HA
  have HA := Lib.hid HA
  cases hb : hasB n b with
  | false =>
    rw [cp_out (.inr hb)]
    have HB := HAS.out b
    rw [hb] at HB
    have HB := Lib.hid HB
    go_enter Tryz.func12, Tryz.ntmps12
    go_wp2_with fail
    refine HA.out.mono ?_
    rintro e w2 ⟨rfl, hw2⟩
    obtain rfl := hw2.symm
    go_wp2_with fail
    refine HB.out.mono ?_
    rintro e w2 ⟨rfl, hw2⟩
    obtain rfl := hw2.symm
    go_wp2_with fail
    go_ret
    exact ⟨rfl, Below.refl _ _⟩
  | true =>
  have HB := HAS.out b
  rw [hb] at HB
  have HB := Lib.hid HB
  have HP1 := Lib.hid (placeX_any a w h ha)
  have HP2 := Lib.hid (fun q => placeX_any b (w.drewN q) (h.below (below_drewN (Below.refl _ _))) hb)
  rw [cpB_place h ha hb]
  obtain ⟨P, hP⟩ : ∃ P, P = plI T pl a := ⟨_, rfl⟩
  obtain ⟨Q, hQ⟩ : ∃ Q, Q = plI T pl b := ⟨_, rfl⟩
  rw [← hP] at HP1
  rw [← hQ] at HP2
  have HAB := Lib.hid (fun q => ahead_any a b (w.drewN q) (h.below (below_drewN (Below.refl _ _))))
  have HBA := Lib.hid (fun wz (hz : Below w.heap.size w wz) => ahead_any b a wz (h.below hz))
  rw [← hP, ← hQ]
  clear hP hQ ha hb h HAS
  by_cases hpq : P = Q
  · have hd : decide (P = Q) = true := decide_eq_true hpq
    rw [hd, Bool.true_or]
    have hbe : (P == Q) = true := by rw [beq_iff_eq]; exact hpq
    subst hpq
    clear hd
    go_enter Tryz.func12, Tryz.ntmps12
    go_wp2_with fail
    refine HA.out.mono ?_
    rintro e w2 ⟨rfl, hw2⟩
    obtain rfl := hw2.symm
    go_wp2_with fail
    refine HB.out.mono ?_
    rintro e w2 ⟨rfl, hw2⟩
    obtain rfl := hw2.symm
    go_wp2_with fail
    refine HP1.out.mono ?_
    rintro e w2 ⟨rfl, q1, rfl⟩
    go_wp2_with fail
    refine (HP2.out q1).mono ?_
    rintro e w2 ⟨rfl, q2, rfl⟩
    go_wp2_with fail
    go_ret
    refine ⟨rfl, ?_⟩
    first | exact Below.refl _ _ | exact below_drewN (Below.refl _ _) | exact below_drewN (below_drewN (Below.refl _ _))
  · have hd : decide (P = Q) = false := decide_eq_false hpq
    rw [hd, Bool.false_or]
    have hbe : (P == Q) = false := by rw [beq_eq_false_iff_ne]; exact hpq
    clear hd
    cases h1 : ahB n es a b with
    | true =>
      rw [Bool.true_or]
      rw [h1] at HAB
      clear h1
      go_enter Tryz.func12, Tryz.ntmps12
      go_wp2_with fail
      refine HA.out.mono ?_
      rintro e w2 ⟨rfl, hw2⟩
      obtain rfl := hw2.symm
      go_wp2_with fail
      refine HB.out.mono ?_
      rintro e w2 ⟨rfl, hw2⟩
      obtain rfl := hw2.symm
      go_wp2_with fail
      refine HP1.out.mono ?_
      rintro e w2 ⟨rfl, q1, rfl⟩
      go_wp2_with fail
      refine (HP2.out q1).mono ?_
      rintro e w2 ⟨rfl, q2, rfl⟩
      go_wp2_with fail
      refine (HAB.out _).mono ?_
      rintro e w2 ⟨rfl, hb3⟩
      have HB3 := Lib.hid (Below.trans (b := w.drewN (q1 + q2)) (below_drewN (Below.refl w.heap.size w)) hb3)
      clear hb3
      go_wp2_with fail
      go_ret
      exact ⟨rfl, HB3.out⟩
    | false =>
      rw [Bool.false_or]
      rw [h1] at HAB
      clear h1
      obtain ⟨A, hA⟩ : ∃ A, A = ahB n es b a := ⟨_, rfl⟩
      rw [← hA] at HBA ⊢
      clear hA
      go_enter Tryz.func12, Tryz.ntmps12
      go_wp2_with fail
      refine HA.out.mono ?_
      rintro e w2 ⟨rfl, hw2⟩
      obtain rfl := hw2.symm
      go_wp2_with fail
      refine HB.out.mono ?_
      rintro e w2 ⟨rfl, hw2⟩
      obtain rfl := hw2.symm
      go_wp2_with fail
      refine HP1.out.mono ?_
      rintro e w2 ⟨rfl, q1, rfl⟩
      go_wp2_with fail
      refine (HP2.out q1).mono ?_
      rintro e w2 ⟨rfl, q2, rfl⟩
      go_wp2_with fail
      refine (HAB.out _).mono ?_
      rintro e w2 ⟨rfl, hb3⟩
      have HB3 := Lib.hid (Below.trans (b := w.drewN (q1 + q2)) (below_drewN (Below.refl w.heap.size w)) hb3)
      clear hb3
      go_wp2_with fail
      refine (HBA.out _ HB3.out).mono ?_
      rintro e w2 ⟨rfl, hb4⟩
      have HB4 := Lib.hid (HB3.out.trans (hb4.mono HB3.out.size))
      clear hb4
      go_wp2_with fail
      go_ret
      exact ⟨rfl, HB4.out⟩
end
end Go.Proofs.YtfpepoebammeoaaGreat
set_option linter.unusedVariables false
set_option linter.unusedSimpArgs false
namespace Go.Proofs.YtfpepoebammeoaaGreat
open Go.ChangeShapes Go.WideShapes Go.ChangeAt Go.RowKit

def plT (T : List Nat) (pl : Nat → Nat) (i : Nat) : Nat := if i < T.length then pl i else 0
theorem plT_in {T : List Nat} {pl : Nat → Nat} {i : Nat} (h : i < T.length) : plT T pl i = pl i := if_pos h
theorem plL_T (T : List Nat) (pl : Nat → Nat) : plL T (plT T pl) = plL T pl := List.map_congr_left fun i hi => plT_in (List.mem_range.1 hi)
theorem ord_tame {n : Nat} {es : EdN} {T : List Nat} {pl : Nat → Nat} {W : EdN} (h : OrdS n es T pl W) : OrdS n es T (plT T pl) W where
  tied := h.tied
  same := fun i j x y hx hy => by
    rw [plT_in (List.getElem?_eq_some_iff.1 hx).1, plT_in (List.getElem?_eq_some_iff.1 hy).1]
    exact h.same i j x y hx hy
  lt := fun i hi => by rw [plT_in hi]; exact h.lt i hi
  sorted := h.sorted
  up := h.up
  way := fun p q => by
    rw [h.way p q]
    have key : ∀ e ∈ es, plT T pl (T.idxOf e.1) = pl (T.idxOf e.1) ∧ plT T pl (T.idxOf e.2) = pl (T.idxOf e.2) := fun e he => ⟨plT_in (List.idxOf_lt_length_of_mem (h.tied.fst e he)), plT_in (List.idxOf_lt_length_of_mem (h.tied.snd e he))⟩
    constructor
    · rintro ⟨h0, e, he, h1, h2⟩
      exact ⟨h0, e, he, by rw [(key e he).1]; exact h1, by rw [(key e he).2]; exact h2⟩
    · rintro ⟨h0, e, he, h1, h2⟩
      exact ⟨h0, e, he, by rw [← (key e he).1]; exact h1, by rw [← (key e he).2]; exact h2⟩
def edN (n : Int) (es : Ed) : EdN := toN (amongL n es)
theorem newX_any (n : Int) (es : Ed) (v : Value) (w : World) (hr : RE w v es) (hl : es.length ≤ 100000) (hn1 : -9223372036854775808 ≤ n) (hn : n ≤ 200000) :
    Calls Tryz.prog 8 #[.int .i64 n, v] w fun e w' => ∃ p T pl W, e = .returned (.pointer (some ⟨p, 0, none⟩)) ∧ OrdX w' p n (edN n es) T pl W ∧ Below w.heap.size w w' := by
  refine (new_any n es v w hr hl hn1 (by omega)).mono ?_
  rintro e w' ⟨p, pl, W, rfl, h1, h2, h3⟩
  have hT := tiedL_len (toN (amongL n es)) n.toNat
  obtain ⟨T, hTe⟩ : ∃ T, T = tiedL (toN (amongL n es)) n.toNat := ⟨_, rfl⟩
  rw [← hTe] at h1 h2 hT
  refine ⟨p, T, plT T pl, W, rfl, ⟨⟨h1.lt, h1.c0, h1.c1, by rw [plL_T]; exact h1.c2, h1.c3⟩, ord_tame h2, by omega, ?_, by omega, ?_⟩, h3⟩
  · have h4 : (amongL n es).length ≤ es.length := List.length_filter_le _ _
    unfold edN toN
    rw [List.length_map]
    omega
  · intro i
    unfold plT
    split
    · rename_i hi
      have := h2.lt i hi
      omega
    · omega
structure RunsK (n : Int) (es : EdN) (A : List Nat) (L : List Int) (s : Nat → Bool) : Prop where
  line : ReachK (needE (pairA (fun i j => AheadK (EdR es) (A.getD i 0) (A.getD j 0)) A.length)) A.length L
  len : L.length = A.length
  single : ∀ k i : Nat, L[k]? = some (i : Int) → (s k = true ↔ ∀ q j : Nat, L[q]? = some (j : Int) → (k < q → AheadK (EdR es) (A.getD i 0) (A.getD j 0)) ∧ (q < k → AheadK (EdR es) (A.getD j 0) (A.getD i 0)))
section
variable {p : Nat} {n : Int} {es : EdN} {T : List Nat} {pl : Nat → Nat} {W : EdN}
set_option maxHeartbeats 2000000 in
theorem runsO_any (l : List Int) (v : Value) (w : World) (h : OrdX w p n es T pl W) (hr : RI w v l) (hl : l.length ≤ 100000) :
    Calls Tryz.prog 15 #[.pointer (some ⟨p, 0, none⟩), v] w fun e w' => ∃ ov L s, e = .returned ov ∧ RunsK n es (askN (hasB n) (plI T pl) l) L s ∧ RG w' ov (runL s (xOf (askN (hasB n) (plI T pl) l) L) (askN (hasB n) (plI T pl) l).length) ∧ Below w.heap.size w w' := by
  have HL := Lib.hid (lay_any l v w h hr hl)
  have hAL : (askN (hasB n) (plI T pl) l).length ≤ 100000 := by
    unfold askN
    rw [List.length_map, (sortI_perm _).length_eq]
    have := ask_len (hasB n) (plI T pl) l l.length
    rw [List.take_length] at this
    omega
  obtain ⟨A, hA⟩ : ∃ A, A = askN (hasB n) (plI T pl) l := ⟨_, rfl⟩
  rw [← hA] at HL hAL ⊢
  clear hA h hr
  go_enter Tryz.func15, Tryz.ntmps15
  go_wp2_with fail
  refine HL.out.mono ?_
  rintro e w2 ⟨bv, D, rk, E, rfl, hM, hB, hD, hE, hb2⟩
  have HR := Lib.hid (runs_any bv w2 hM hB hD hAL hE)
  have HB := Lib.hid hB
  have HB2 := Lib.hid hb2
  clear hM hB hb2
  go_wp2_with fail
  refine HR.out.mono ?_
  rintro e w3 ⟨ov, L, rfl, hK, hLm, hG, hb3⟩
  go_wp2_with fail
  go_ret
  exact ⟨_, L, _, rfl, ⟨hK, hLm, fun k i hk => single_iff hK HB.out hLm (fun a b c h1 h2 => ahead_trans h1 h2) hk⟩, hG, HB2.out.trans (hb3.mono HB2.out.size)⟩
end
end Go.Proofs.YtfpepoebammeoaaGreat
