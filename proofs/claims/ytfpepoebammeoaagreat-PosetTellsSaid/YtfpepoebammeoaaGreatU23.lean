/- The ways that begin between two places. Of package poset: Ahead and Comparable. -/
import Derived.Test.YtfpepoebammeoaaGreatU10
import Derived.Test.YtfpepoebammeoaaGreatU22
import Derived.Test.YtfpepoebammeoaaGreatU4
import Derived.Test.YtfpepoebammeoaaGreatU5
set_option linter.unusedVariables false
set_option linter.unusedSimpArgs false
namespace Go.Proofs.YtfpepoebammeoaaGreat
open Go.ChangeShapes Go.WideShapes Go.ChangeAt Go.RowKit

theorem betw_cut {W : EdN} {lo hi i j : Nat} (hij : i ≤ j) (hj : j ≤ W.length) (h1 : ∀ t e, t < i → W[t]? = some e → e.1 < lo) (h2 : ∀ t e, i ≤ t → W[t]? = some e → lo ≤ e.1) (h3 : ∀ t e, t < j → W[t]? = some e → e.1 < hi) (h4 : ∀ t e, j ≤ t → W[t]? = some e → hi ≤ e.1) : betw W lo hi = (W.drop i).take (j - i) := by
  have e0 : W = W.take i ++ ((W.drop i).take (j - i) ++ W.drop j) := by
    have : W.drop j = (W.drop i).drop (j - i) := by rw [List.drop_drop]; congr 1; omega
    rw [this, List.take_append_drop, List.take_append_drop]
  have f1 : (W.take i).filter (fun e => decide (lo ≤ e.1) && decide (e.1 < hi)) = [] := by
    rw [List.filter_eq_nil_iff]
    intro e he
    obtain ⟨t, ht, rfl⟩ := List.mem_take_iff_getElem.1 he
    have htW : t < W.length := by omega
    have := h1 t W[t] (by omega) (List.getElem?_eq_getElem htW)
    simp
    omega
  have f3 : (W.drop j).filter (fun e => decide (lo ≤ e.1) && decide (e.1 < hi)) = [] := by
    rw [List.filter_eq_nil_iff]
    intro e he
    obtain ⟨t, ht⟩ := List.mem_iff_getElem?.1 he
    rw [List.getElem?_drop] at ht
    have := h4 (j + t) e (by omega) ht
    simp
    omega
  have f2 : ((W.drop i).take (j - i)).filter (fun e => decide (lo ≤ e.1) && decide (e.1 < hi)) = (W.drop i).take (j - i) := by
    rw [List.filter_eq_self]
    intro e he
    obtain ⟨t, ht⟩ := List.mem_iff_getElem?.1 he
    have htl := (List.getElem?_eq_some_iff.1 ht).1
    rw [List.length_take] at htl
    rw [List.getElem?_take_of_lt (by omega), List.getElem?_drop] at ht
    have a := h2 (i + t) e (by omega) ht
    have b := h3 (i + t) e (by omega) ht
    simp
    omega
  unfold betw
  conv => lhs; rw [e0]
  rw [List.filter_append, List.filter_append, f1, f2, f3, List.nil_append, List.append_nil]
theorem RE.cap {w : World} {va : Option Addr} {n c : Nat} {L : Ed} (h : RE w (.slice va n c) L) : n ≤ c := by
  rcases h with ⟨_, a, c', e⟩ | ⟨_, b, o, c', e, h1, _⟩
  · injection e with _ e1 _; omega
  · injection e with _ e1 e2; omega
theorem RE.cut {w : World} {va : Option Addr} {n c i j : Nat} {L : Ed} (h : RE w (.slice va n c) L) (hij : i ≤ j) (hj : j ≤ L.length) (hic : ¬ c = i) : RE w (.slice (va.map fun x => x.add (i * 2)) (j - i) (c - i)) ((L.drop i).take (j - i)) := by
  have hll : ((L.drop i).take (j - i)).length = j - i := by rw [List.length_take, List.length_drop]; omega
  rcases Nat.eq_or_lt_of_le hij with e | hlt
  · subst e
    exact .inl ⟨by simp, _, _, by rw [Nat.sub_self]⟩
  · rcases h with ⟨h0, _⟩ | ⟨_, b, o, c', e, h1, h2, h3, h4⟩
    · rw [h0] at hj; simp at hj; omega
    · injection e with e1 e2 e3
      subst e1; subst e3
      refine .inr ⟨fun e => by rw [e] at hll; simp at hll; omega, b, o + i * 2, c - i, by rw [hll]; simp [Addr.add], by rw [hll]; omega, by unfold maxLen at *; omega, h3, fun t x hx => ?_⟩
      have ht := (List.getElem?_eq_some_iff.1 hx).1
      rw [hll] at ht
      rw [List.getElem?_take_of_lt ht, List.getElem?_drop] at hx
      obtain ⟨a0, a1⟩ := h4 (i + t) x hx
      rw [show o + i * 2 + t * 2 = o + (i + t) * 2 by omega]
      exact ⟨a0, a1⟩

set_option maxHeartbeats 2000000 in
set_option maxRecDepth 100000 in
theorem between_any (p : Nat) (n : Int) (T : List Nat) (pl : Nat → Nat) (W : EdN) (lo hi : Nat) (w0 w : World) (h0 : OrdO w0 p n T pl W) (hb0 : Below w0.heap.size w0 w) (hs : W.Pairwise lexL) (hl : W.length ≤ 1000000) (hlh : lo ≤ hi) :
    Calls Tryz.prog 32 #[.pointer (some ⟨p, 0, none⟩), .int .i64 (lo : Int), .int .i64 (hi : Int)] w fun e w' => ∃ v, e = .returned v ∧ RE w0 v (toI (betw W lo hi)) ∧ Below w.heap.size w w' := by
  have h := h0.below hb0
  obtain ⟨v, c30, hr0⟩ := h0.c3
  have c3 := (hb0.cell (p := ⟨p, 3, none⟩) h0.lt).trans c30
  have hr := hr0.below hb0
  obtain ⟨n3, hn3⟩ : ∃ n3, n3 = W.length := ⟨_, rfl⟩
  have hWl : (toI W).length = n3 := by rw [hn3]; simp [toI]
  have hrise : (toI W).Pairwise (fun a b => a.1 ≤ b.1) := by
    unfold toI
    rw [List.pairwise_map]
    exact hs.imp fun hab => by unfold lexL at hab; simp only; omega
  obtain ⟨va, vc, rfl⟩ := hr.form
  rw [hWl] at c3 hr hr0
  have HR0 := Lib.hid hr0
  have hat : ∀ (t : Nat) (e : Nat × Nat), W[t]? = some e → (toI W)[t]? = some ((e.1 : Int), (e.2 : Int)) := fun t e he => by simp [toI, he]
  have BS := Lib.hid (fun (x : Int) (wz : World) (hz : RE wz (.slice va n3 vc) (toI W)) => bsf_any (toI W) (.slice va n3 vc) x wz hz hrise (by rw [hWl, hn3]; exact hl))
  have HR := Lib.hid hr
  have HAT := Lib.hid hat
  have HWL := Lib.hid hWl
  have HN := Lib.hid hn3
  have hp := h.lt
  have HC3 := Lib.hid c3
  clear h h0 hb0 hs hr hr0 c30 hrise hat hWl hn3
  go_enter Tryz.func32, Tryz.ntmps32
  go_wp2_with fail
  refine (BS.out (lo : Int) w HR.out).mono ?_
  rintro e w2 ⟨⟨i, bi, rfl, hi1, hi2, hi3⟩, hb2⟩
  have c32 := (hb2.cell (p := ⟨p, 3, none⟩) hp).trans HC3.out
  have HB2 := Lib.hid hb2
  have HI := Lib.hid (And.intro hi1 (And.intro hi2 hi3))
  have hp2 : p < w2.heap.size := Nat.lt_of_lt_of_le hp hb2.size
  clear hi1 hi2 hi3 hb2 c3
  go_wp2_with fail
  refine (BS.out (hi : Int) w2 (HR.out.below HB2.out)).mono ?_
  rintro e w3 ⟨⟨j, bj, rfl, hj1, hj2, hj3⟩, hb3⟩
  have c33 := (hb3.cell (p := ⟨p, 3, none⟩) hp2).trans c32
  have hij : i ≤ j := by
    obtain ⟨a1, a2, a3⟩ := HI.out
    rcases Nat.lt_or_ge j i with c | c
    · have h9 : j < (toI W).length := by omega
      have b1 := a2 j _ c (List.getElem?_eq_getElem h9)
      have b2 := hj3 j _ (Nat.le_refl _) (List.getElem?_eq_getElem h9)
      omega
    · exact c
  have hjn : j ≤ n3 := by rw [← HWL.out]; exact hj1
  have HCUT := Lib.hid (betw_cut hij (by rw [← HN.out]; exact hjn) (fun t e ht he => Int.ofNat_lt.1 (HI.out.2.1 t _ ht (HAT.out t e he))) (fun t e ht he => Int.ofNat_le.1 (HI.out.2.2 t _ ht (HAT.out t e he))) (fun t e ht he => Int.ofNat_lt.1 (hj2 t _ ht (HAT.out t e he))) (fun t e ht he => Int.ofNat_le.1 (hj3 t _ ht (HAT.out t e he))))
  have HR3 := Lib.hid ((HR.out.below HB2.out).below hb3)
  have HB3 := Lib.hid (HB2.out.trans (hb3.mono HB2.out.size))
  have hjc : j ≤ vc := Nat.le_trans hjn (HR.out.cap)
  have HE9 : Hid (toI (betw W lo hi) = ((toI W).drop i).take (j - i)) := Lib.hid (by
    rw [HCUT.out]
    unfold toI
    rw [List.map_take, List.map_drop])
  clear hj1 hj2 hj3 hb3 c32
  by_cases hvi : vc = i
  · have hji : j = i := by omega
    subst hji
    subst hvi
    have HE0 : Hid (toI (betw W lo hi) = []) := Lib.hid (by rw [HE9.out, Nat.sub_self, List.take_zero])
    go_wp2_with fail
    go_ret
    exact ⟨_, rfl, .inl ⟨HE0.out, _, _, rfl⟩, HB3.out⟩
  · have HCC := Lib.hid (HR0.out.cut hij (by rw [HWL.out]; exact hjn) hvi)
    rw [← HE9.out] at HCC
    go_wp2_with fail
    go_ret
    exact ⟨_, rfl, HCC.out, HB3.out⟩
end Go.Proofs.YtfpepoebammeoaaGreat
set_option linter.unusedVariables false
set_option linter.unusedSimpArgs false
namespace Go.Proofs.YtfpepoebammeoaaGreat
open Go.ChangeShapes Go.WideShapes Go.ChangeAt Go.RowKit

theorem infoBo : (Tryz.prog.info? 4).map (fun i => (i.zero, i.size, i.bytes)) = some (some (.bool false), 1, 1) := by kernel_rfl
structure OrdX (w : World) (p : Nat) (n : Int) (es : EdN) (T : List Nat) (pl : Nat → Nat) (W : EdN) : Prop where
  mem : OrdO w p n T pl W
  ok : OrdS n.toNat es T pl W
  tl : T.length ≤ 200000
  el : es.length ≤ 100000
  nb : n ≤ 400000
  plb : ∀ i, pl i ≤ 1000000
theorem OrdX.below {w w' : World} {p : Nat} {n : Int} {es : EdN} {T : List Nat} {pl : Nat → Nat} {W : EdN} (h : OrdX w p n es T pl W) (hb : Below w.heap.size w w') : OrdX w' p n es T pl W := ⟨h.mem.below hb, h.ok, h.tl, h.el, h.nb, h.plb⟩
theorem OrdX.asc {w : World} {p : Nat} {n : Int} {es : EdN} {T : List Nat} {pl : Nat → Nat} {W : EdN} (h : OrdX w p n es T pl W) : T.Pairwise (· < ·) := h.ok.tied.asc
theorem below_drewN {B q : Nat} {a w : World} (h : Below B a w) : Below B a (w.drewN q) := ⟨h.os, h.tape, h.output, h.size, h.block⟩
section
variable {p : Nat} {n : Int} {es : EdN} {T : List Nat} {pl : Nat → Nat} {W : EdN}
theorem placeX_any (t : Int) (w : World) (h : OrdX w p n es T pl W) (ht : hasB n t = true) :
    Calls Tryz.prog 31 #[.pointer (some ⟨p, 0, none⟩), .int .i64 t] w fun e w' => e = .returned (.int .i64 (plI T pl t)) ∧ ∃ q, w' = w.drewN q := by
  obtain ⟨h1, h2⟩ := hasB_iff.1 ht
  have := h.nb
  exact place_any p n T pl W t w h.mem h.asc (by have := h.tl; omega) h.plb (by omega) (by omega)
theorem betweenX_any (lo hi : Nat) (w0 w : World) (h : OrdX w0 p n es T pl W) (hb : Below w0.heap.size w0 w) (hlh : lo ≤ hi) :
    Calls Tryz.prog 32 #[.pointer (some ⟨p, 0, none⟩), .int .i64 (lo : Int), .int .i64 (hi : Int)] w fun e w' => ∃ v, e = .returned v ∧ RE w0 v (toI (betw W lo hi)) ∧ Below w.heap.size w w' :=
  between_any p n T pl W lo hi w0 w h.mem hb h.ok.sorted (by have := h.ok.wlen; have := h.el; omega) hlh
theorem hasX_any (t : Int) (w : World) (h : OrdX w p n es T pl W) : Calls Tryz.prog 30 #[.pointer (some ⟨p, 0, none⟩), .int .i64 t] w fun e w' => e = .returned (.bool (hasB n t)) ∧ w' = w := has_any p n t w h.mem.c0
theorem plX_lt {w : World} (h : OrdX w p n es T pl W) {x : Nat} (hx : x ∈ T) : pl (T.idxOf x) < T.length := h.ok.lt _ (List.idxOf_lt_length_of_mem hx)
theorem plI_le {w : World} (h : OrdX w p n es T pl W) {t : Int} (ht : 0 ≤ t) : plI T pl t < 200000 := by
  obtain ⟨x, rfl⟩ : ∃ x : Nat, t = (x : Int) := ⟨t.toNat, by omega⟩
  by_cases hx : x ∈ T
  · rw [plI_in hx]
    have := plX_lt h hx
    have := h.tl
    omega
  · rw [plI_out hx]; omega
theorem ahB_place {w : World} (h : OrdX w p n es T pl W) {a b : Int} (ha : hasB n a = true) (hb : hasB n b = true) : ahB n es a b = true ↔ 0 ≤ plI T pl a ∧ 0 ≤ plI T pl b ∧ Walk (EdR W) (plI T pl a).toNat (plI T pl b).toNat := by
  obtain ⟨a1, a2⟩ := hasB_iff.1 ha
  obtain ⟨b1, b2⟩ := hasB_iff.1 hb
  obtain ⟨x, rfl⟩ : ∃ x : Nat, a = (x : Int) := ⟨a.toNat, by omega⟩
  obtain ⟨y, rfl⟩ : ∃ y : Nat, b = (y : Int) := ⟨b.toNat, by omega⟩
  rw [ahB_iff, plI_tied, plI_tied, Int.toNat_natCast, Int.toNat_natCast, h.ok.ahead]
  constructor
  · rintro ⟨_, _, _, _, h1, h2, h3⟩
    refine ⟨h1, h2, ?_⟩
    rw [plI_in h1, plI_in h2, Int.toNat_natCast, Int.toNat_natCast]; exact h3
  · rintro ⟨h1, h2, h3⟩
    rw [plI_in h1, plI_in h2, Int.toNat_natCast, Int.toNat_natCast] at h3
    exact ⟨a1, a2, b1, b2, h1, h2, h3⟩
theorem betw_at {lo hi : Nat} {e : Nat × Nat} (h : e ∈ betw W lo hi) : e ∈ W ∧ lo ≤ e.1 ∧ e.1 < hi := by
  unfold betw at h
  obtain ⟨h1, h2⟩ := List.mem_filter.1 h
  rw [Bool.and_eq_true, decide_eq_true_iff, decide_eq_true_iff] at h2
  exact ⟨h1, h2.1, h2.2⟩
set_option maxHeartbeats 2000000 in
set_option maxRecDepth 100000 in
theorem ahead_any (a b : Int) (w : World) (h : OrdX w p n es T pl W) :
    Calls Tryz.prog 10 #[.pointer (some ⟨p, 0, none⟩), .int .i64 a, .int .i64 b] w fun e w' => e = .returned (.bool (ahB n es a b)) ∧ Below w.heap.size w w' := by
  have HAS := Lib.hid (fun t => hasX_any t w h)
  cases ha : hasB n a with
  | false =>
    rw [ah_out (.inl ha)]
    have HA := HAS.out a
    rw [ha] at HA
    have HA := Lib.hid HA
    go_enter Tryz.func10, Tryz.ntmps10
    go_wp2_with fail
    refine HA.out.mono ?_
    rintro e w2 ⟨rfl, hw2⟩
    obtain rfl := hw2.symm
    go_wp2_with fail
    go_ret
    exact ⟨rfl, Below.refl _ _⟩
  | true =>
  have HA := HAS.out a
  rw [ha] at HA
  have HA := Lib.hid HA
  cases hb : hasB n b with
  | false =>
    rw [ah_out (.inr hb)]
    have HB := HAS.out b
    rw [hb] at HB
    have HB := Lib.hid HB
    go_enter Tryz.func10, Tryz.ntmps10
    go_wp2_with fail
    refine HA.out.mono ?_
    rintro e w2 ⟨rfl, hw2⟩
    obtain rfl := hw2.symm
    go_wp2_with fail
    refine HB.out.mono ?_
    rintro e w2 ⟨rfl, hw2⟩
    obtain rfl := hw2.symm
    go_wp2_with fail
    go_ret
    exact ⟨rfl, Below.refl _ _⟩
  | true =>
  have HB := HAS.out b
  rw [hb] at HB
  have HB := Lib.hid HB
  have HP1 := Lib.hid (placeX_any a w h ha)
  have HP2 := Lib.hid (fun q => placeX_any b (w.drewN q) (h.below (below_drewN (Below.refl _ _))) hb)
  have HIFF := Lib.hid (ahB_place h ha hb)
  have hx1 := plI_le h (hasB_iff.1 ha).1
  have hx2 := plI_le h (hasB_iff.1 hb).1
  have hn4 := h.nb
  have hy1 : -400000 ≤ plI T pl a := by
    obtain ⟨x, rfl⟩ : ∃ x : Nat, a = (x : Int) := ⟨a.toNat, by have := (hasB_iff.1 ha).1; omega⟩
    have := (hasB_iff.1 ha).2
    by_cases hx : x ∈ T
    · rw [plI_in hx]; omega
    · rw [plI_out hx]; omega
  have hy2 : -400000 ≤ plI T pl b := by
    obtain ⟨x, rfl⟩ : ∃ x : Nat, b = (x : Int) := ⟨b.toNat, by have := (hasB_iff.1 hb).1; omega⟩
    have := (hasB_iff.1 hb).2
    by_cases hx : x ∈ T
    · rw [plI_in hx]; omega
    · rw [plI_out hx]; omega
  obtain ⟨P, hP⟩ : ∃ P, P = plI T pl a := ⟨_, rfl⟩
  obtain ⟨Q, hQ⟩ : ∃ Q, Q = plI T pl b := ⟨_, rfl⟩
  rw [← hP] at HP1 HIFF hx1 hy1
  rw [← hQ] at HP2 HIFF hx2 hy2
  obtain ⟨A, hAB⟩ : ∃ A, A = ahB n es a b := ⟨_, rfl⟩
  rw [← hAB] at HIFF ⊢
  have HX := Lib.hid h
  clear hP hQ hAB ha hb h HAS hn4
  by_cases hlo : P < 0
  · have hA : A = false := by
      cases A with
      | false => rfl
      | true => have := (HIFF.out.1 rfl).1; omega
    subst hA
    clear HIFF
    go_enter Tryz.func10, Tryz.ntmps10
    go_wp2_with fail
    refine HA.out.mono ?_
    rintro e w2 ⟨rfl, hw2⟩
    obtain rfl := hw2.symm
    go_wp2_with fail
    refine HB.out.mono ?_
    rintro e w2 ⟨rfl, hw2⟩
    obtain rfl := hw2.symm
    go_wp2_with fail
    refine HP1.out.mono ?_
    rintro e w2 ⟨rfl, q1, rfl⟩
    go_wp2_with fail
    refine (HP2.out q1).mono ?_
    rintro e w2 ⟨rfl, q2, rfl⟩
    go_wp2_with fail
    go_ret
    refine ⟨rfl, ?_⟩
    first | exact Below.refl _ _ | exact below_drewN (Below.refl _ _) | exact below_drewN (below_drewN (Below.refl _ _))
  by_cases hhi : P < Q
  · obtain ⟨lo, rfl⟩ : ∃ lo : Nat, P = (lo : Int) := ⟨P.toNat, by omega⟩
    obtain ⟨hi, rfl⟩ : ∃ hi : Nat, Q = (hi : Int) := ⟨Q.toNat, by omega⟩
    obtain ⟨d, hd⟩ : ∃ d, d = hi - lo := ⟨_, rfl⟩
    obtain ⟨m, hm⟩ : ∃ m, m = d + 1 := ⟨_, rfl⟩
    have hdI : (hi : Int) - (lo : Int) = (d : Int) := by omega
    have hmI : (d : Int) + 1 = (m : Int) := by omega
    have hA : A = metF (betw W lo hi) lo (betw W lo hi).length d := by
      rw [Bool.eq_iff_iff, HIFF.out, metF_iff, List.take_length, show lo + d = hi by omega, walk_betw HX.out.ok.up (Nat.le_refl _) (Nat.le_refl _), Int.toNat_natCast, Int.toNat_natCast]
      constructor
      · rintro ⟨_, _, h⟩; exact .inr h
      · rintro (h | h)
        · omega
        · exact ⟨by omega, by omega, h⟩
    have hsB : (betw W lo hi).Pairwise lexL := HX.out.ok.sorted.sublist List.filter_sublist
    have huB : ∀ e ∈ betw W lo hi, e.1 < e.2 ∧ lo ≤ e.1 ∧ e.1 < hi := fun e he => ⟨HX.out.ok.up e (betw_at he).1, (betw_at he).2⟩
    have HBT := Lib.hid (fun wz (hz : Below w.heap.size w wz) => betweenX_any lo hi w wz HX.out hz (by omega))
    have hbl : (betw W lo hi).length ≤ 100000 := by
      refine Nat.le_trans (List.length_filter_le _ _) ?_
      have := HX.out.ok.wlen; have := HX.out.el; omega
    obtain ⟨B, hB⟩ : ∃ B, B = betw W lo hi := ⟨_, rfl⟩
    rw [← hB] at hA hsB huB HBT hbl
    obtain ⟨K, hK⟩ : ∃ K, K = B.length := ⟨_, rfl⟩
    rw [← hK] at hA hbl
    have HMS := Lib.hid (fun (j : Nat) (e : Nat × Nat) (he : B[j]? = some e) (x : Nat) => metF_step hsB (fun e he => (huB e he).1) he (huB e (List.mem_of_getElem? he)).2.1 x)
    have HUB := Lib.hid huB
    have HKL := Lib.hid hK
    have HAM := Lib.hid hA
    have HI : Hid (∀ (j : Nat) e, B[j]? = some e → (toI B)[j]? = some ((e.1 : Int), (e.2 : Int))) := Lib.hid (fun j e he => by simp [toI, he])
    have HIL : Hid ((toI B).length = K) := Lib.hid (by rw [hK]; simp [toI])
    clear hA hsB huB hK hB HIFF
    have mk1 := run_make_row' (P := Tryz.prog) 55 4 (.bool false) 1 Tryz.underlying55 infoBo rfl .i64 .i64 m (by omega) (by omega)
    have hm0 : 0 < m := by omega
    obtain ⟨wm, hwm⟩ : ∃ wm : Nat → World, wm = fun q => (w.drewN q).alloc (.cells (madeCells #[.bool false] m) 4) := ⟨_, rfl⟩
    have mk2 : ∀ q, (Instr.makeSlice 55 (.int .i64 (m : Int)) (.int .i64 (m : Int))).run Tryz.prog (w.drewN q) = .ok (.slice (some ⟨w.heap.size, 0, none⟩) m m) (wm q) := fun q => by rw [hwm]; exact mk1 (w.drewN q)
    have hwrow : ∀ q, Row 1 w.heap.size (wm q) (.slice (some ⟨w.heap.size, 0, none⟩) m m) m (tbv (fun _ => false) m) := fun q => by rw [hwm]; exact made_boolk (by omega) (Nat.le_refl _) _
    have hwbel : ∀ q, Below w.heap.size w (wm q) := fun q => by rw [hwm]; exact (below_drewN (Below.refl _ _)).alloc (Nat.le_refl _) _
    have hc0 : ∀ q, (wm q).cell? ⟨w.heap.size, 0, none⟩ = some (.bool false) := fun q => ((hwrow q).cellF (tbv_at _ hm0)).1
    have hf0 : ∀ q, (wm q).frozen? ⟨w.heap.size, 0, none⟩ = false := fun q => ((hwrow q).cellF (tbv_at _ hm0)).2.1
    have hbl0 : decide ((lo : Int) < 0) = false := decide_eq_false (by omega)
    have HWR := Lib.hid hwrow
    have HWB := Lib.hid hwbel
    clear hwm mk1 hwrow hwbel
    have hlo9 : lo < 400000 := by omega
    have hhi9 : hi < 400000 := by omega
    clear hlo hy1 hy2 hx1 hx2
    have HD := Lib.hid hd
    have HM := Lib.hid hm
    clear hd hm
    go_enter Tryz.func10, Tryz.ntmps10
    go_wp2_with fail
    refine HA.out.mono ?_
    rintro e w2 ⟨rfl, hw2⟩
    obtain rfl := hw2.symm
    go_wp2_with fail
    refine HB.out.mono ?_
    rintro e w2 ⟨rfl, hw2⟩
    obtain rfl := hw2.symm
    go_wp2_with fail
    refine HP1.out.mono ?_
    rintro e w2 ⟨rfl, q1, rfl⟩
    go_wp2_with fail
    refine (HP2.out q1).mono ?_
    rintro e w2 ⟨rfl, q2, rfl⟩
    go_wp2_with fail
    refine (HBT.out _ ((HWB.out _).setCell (Nat.le_refl _) _)).mono ?_
    rintro e w5 ⟨v, rfl, hre, hb5⟩
    obtain ⟨va, vc, hv9⟩ := hre.form
    rw [HIL.out] at hv9
    subst hv9
    have hrow0 := ((HWR.out (q1 + q2)).put (j := 0) (by rw [tbv_len]; exact hm0) (.bool true)).below hb5
    rw [tbv_set _ (metF B lo 0) hm0 true (fun i _ => by
      rw [metF_first]
      by_cases e : i = 0
      · subst e; rfl
      · rw [if_neg e, beq_eq_false_iff_ne]; exact e)] at hrow0
    have HRE := Lib.hid hre
    have HR0 := Lib.hid hrow0
    have HB0 := Lib.hid ((((HWB.out (q1 + q2)).setCell (p := ⟨w.heap.size, 0, none⟩) (Nat.le_refl _) (.bool true))).trans (hb5.mono (by have := (HWB.out (q1 + q2)).size; simpa [World.setCell] using this)))
    clear hre hrow0 hb5 hc0 hf0 mk2
    go_wp2_with fail
    go_loopw [47] (fun jv wr => ∃ j : Nat, jv = .int .i64 (j : Nat) ∧ j ≤ K ∧ Hid (Row 1 w.heap.size wr (.slice (some ⟨w.heap.size, 0, none⟩) m m) m (tbv (metF B lo j) m)) ∧ Hid (Below w.heap.size w wr)) (fun jv _ => K - (intOf jv).toNat)
    case atStart => exact ⟨0, rfl, Nat.zero_le _, HR0, HB0⟩
    case round =>
      obtain ⟨j, rfl, hj, HO, HB⟩ := hrel
      by_cases hlj : j < K
      · obtain ⟨e, he⟩ : ∃ e, B[j]? = some e := ⟨B[j]'(by rw [← HKL.out]; exact hlj), by simp⟩
        obtain ⟨he1, he2, he3⟩ := HUB.out e (List.mem_of_getElem? he)
        have HST := Lib.hid (HMS.out j e he)
        obtain ⟨x, y⟩ := e
        obtain ⟨vb, vo, rfl, hvb, hvc1, hvc2, d0, d1⟩ := HRE.out.at (HI.out j _ he)
        have d0 := (HB.out.cell (p := ⟨vb, _, none⟩) hvb).trans d0
        have d1 := (HB.out.cell (p := ⟨vb, _, none⟩) hvb).trans d1
        simp only at d0 d1 he1 he2 he3 HST
        obtain ⟨xi, hxi⟩ : ∃ xi, xi = x - lo := ⟨_, rfl⟩
        have hxI : (x : Int) - (lo : Int) = (xi : Int) := by omega
        have hxm : xi < m := by have := HD.out; have := HM.out; omega
        obtain ⟨ca, fa, _, hsz, _⟩ := HO.out.cellF (tbv_at (metF B lo j) hxm)
        unfold maxLen at hvc2
        have HHE := Lib.hid he
        clear he
        by_cases hyh : y ≤ hi
        · have hyb : decide ((y : Int) ≤ (hi : Int)) = true := decide_eq_true (by omega)
          cases hmt : metF B lo j xi with
          | true =>
            rw [hmt] at ca
            obtain ⟨yi, hyi⟩ : ∃ yi, yi = y - lo := ⟨_, rfl⟩
            have hyI : (y : Int) - (lo : Int) = (yi : Int) := by omega
            have hym : yi < m := by have := HD.out; have := HM.out; omega
            obtain ⟨cy, fy, _⟩ := HO.out.cellF (tbv_at (metF B lo j) hym)
            have hp := HO.out.put (j := yi) (by rw [tbv_len]; exact hym) (.bool true)
            rw [tbv_set _ (metF B lo (j + 1)) hym true (fun i hi2 => by
              rw [HST.out i, ← hxi, hmt]
              by_cases e : i = yi
              · rw [if_pos e, if_pos ⟨by omega, rfl⟩]
              · rw [if_neg e, if_neg (fun c => e (by omega))])] at hp
            have HP := Lib.hid hp
            have HB9 := Lib.hid (HB.out.setCell (p := ⟨w.heap.size, yi, none⟩) (Nat.le_refl _) (.bool true))
            clear hp hyi hxi hmt
            go_wp2_with fail
            exact ⟨⟨j + 1, by go_num, by omega, Lib.hid (HP.out.alloc _), Lib.hid (HB9.out.alloc HB9.out.size _)⟩, by simp [intOf]; omega⟩
          | false =>
            rw [hmt] at ca
            have HP := Lib.hid (show Row 1 w.heap.size wr (.slice (some ⟨w.heap.size, 0, none⟩) m m) m (tbv (metF B lo (j + 1)) m) by
              rw [tbv_congr (g := metF B lo j) (fun i hi2 => by
                rw [HST.out i, ← hxi, hmt, if_neg (fun c => by cases c.2)])]
              exact HO.out)
            clear hxi hmt
            go_wp2_with fail
            exact ⟨⟨j + 1, by go_num, by omega, Lib.hid (HP.out.alloc _), Lib.hid (HB.out.alloc HB.out.size _)⟩, by simp [intOf]; omega⟩
        · have hyb : decide ((y : Int) ≤ (hi : Int)) = false := decide_eq_false (by omega)
          have HP := Lib.hid (show Row 1 w.heap.size wr (.slice (some ⟨w.heap.size, 0, none⟩) m m) m (tbv (metF B lo (j + 1)) m) by
            rw [tbv_congr (g := metF B lo j) (fun i hi2 => by
              rw [HST.out i, if_neg (fun c => by have := HD.out; have := HM.out; omega)])]
            exact HO.out)
          clear hxi
          go_wp2_with fail
          exact ⟨⟨j + 1, by go_num, by omega, Lib.hid (HP.out.alloc _), Lib.hid (HB.out.alloc HB.out.size _)⟩, by simp [intOf]; omega⟩
      · have hje : K = j := by omega
        subst hje
        have hdm : d < m := by have := HM.out; omega
        obtain ⟨cd, fd, _⟩ := HO.out.cellF (tbv_at (metF B lo K) hdm)
        rw [← HAM.out] at cd
        go_wp2_with fail
        go_ret
        exact ⟨rfl, HB.out⟩
  · have hA : A = false := by
      cases A with
      | false => rfl
      | true =>
        obtain ⟨h1, h2, h3⟩ := HIFF.out.1 rfl
        have := walk_up HX.out.ok.up h3
        omega
    subst hA
    clear HIFF
    have hlo2 : 0 ≤ P := by omega
    have hhi2 : Q ≤ P := by omega
    go_enter Tryz.func10, Tryz.ntmps10
    go_wp2_with fail
    refine HA.out.mono ?_
    rintro e w2 ⟨rfl, hw2⟩
    obtain rfl := hw2.symm
    go_wp2_with fail
    refine HB.out.mono ?_
    rintro e w2 ⟨rfl, hw2⟩
    obtain rfl := hw2.symm
    go_wp2_with fail
    refine HP1.out.mono ?_
    rintro e w2 ⟨rfl, q1, rfl⟩
    go_wp2_with fail
    refine (HP2.out q1).mono ?_
    rintro e w2 ⟨rfl, q2, rfl⟩
    go_wp2_with fail
    go_ret
    refine ⟨rfl, ?_⟩
    first | exact Below.refl _ _ | exact below_drewN (Below.refl _ _) | exact below_drewN (below_drewN (Below.refl _ _))
end
end Go.Proofs.YtfpepoebammeoaaGreat
