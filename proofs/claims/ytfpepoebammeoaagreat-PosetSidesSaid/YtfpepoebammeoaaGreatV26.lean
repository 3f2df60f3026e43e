/- The ways that begin between two places. -/
import Derived.Test.YtfpepoebammeoaaGreatV23
import Derived.Test.YtfpepoebammeoaaGreatV25
set_option linter.unusedVariables false
set_option linter.unusedSimpArgs false
namespace Go.Proofs.YtfpepoebammeoaaGreat
open Go.ChangeShapes Go.WideShapes Go.ChangeAt Go.RowKit

theorem betw_cut {W : EdN} {lo hi i j : Nat} (hij : i ≤ j) (hj : j ≤ W.length) (h1 : ∀ t e, t < i → W[t]? = some e → e.1 < lo) (h2 : ∀ t e, i ≤ t → W[t]? = some e → lo ≤ e.1) (h3 : ∀ t e, t < j → W[t]? = some e → e.1 < hi) (h4 : ∀ t e, j ≤ t → W[t]? = some e → hi ≤ e.1) : betw W lo hi = (W.drop i).take (j - i) := by
  have e0 : W = W.take i ++ ((W.drop i).take (j - i) ++ W.drop j) := by
    have : W.drop j = (W.drop i).drop (j - i) := by rw [List.drop_drop]; congr 1; omega
    rw [this, List.take_append_drop, List.take_append_drop]
  have f1 : (W.take i).filter (fun e => decide (lo ≤ e.1) && decide (e.1 < hi)) = [] := by
    rw [List.filter_eq_nil_iff]
    intro e he
    obtain ⟨t, ht, rfl⟩ := List.mem_take_iff_getElem.1 he
    have htW : t < W.length := by omega
    have := h1 t W[t] (by omega) (List.getElem?_eq_getElem htW)
    simp
    omega
  have f3 : (W.drop j).filter (fun e => decide (lo ≤ e.1) && decide (e.1 < hi)) = [] := by
    rw [List.filter_eq_nil_iff]
    intro e he
    obtain ⟨t, ht⟩ := List.mem_iff_getElem?.1 he
    rw [List.getElem?_drop] at ht
    have := h4 (j + t) e (by omega) ht
    simp
    omega
  have f2 : ((W.drop i).take (j - i)).filter (fun e => decide (lo ≤ e.1) && decide (e.1 < hi)) = (W.drop i).take (j - i) := by
    rw [List.filter_eq_self]
    intro e he
    obtain ⟨t, ht⟩ := List.mem_iff_getElem?.1 he
    have htl := (List.getElem?_eq_some_iff.1 ht).1
    rw [List.length_take] at htl
    rw [List.getElem?_take_of_lt (by omega), List.getElem?_drop] at ht
    have a := h2 (i + t) e (by omega) ht
    have b := h3 (i + t) e (by omega) ht
    simp
    omega
  unfold betw
  conv => lhs; rw [e0]
  rw [List.filter_append, List.filter_append, f1, f2, f3, List.nil_append, List.append_nil]
theorem RE.cap {w : World} {va : Option Addr} {n c : Nat} {L : Ed} (h : RE w (.slice va n c) L) : n ≤ c := by
  rcases h with ⟨_, a, c', e⟩ | ⟨_, b, o, c', e, h1, _⟩
  · injection e with _ e1 _; omega
  · injection e with _ e1 e2; omega
theorem RE.cut {w : World} {va : Option Addr} {n c i j : Nat} {L : Ed} (h : RE w (.slice va n c) L) (hij : i ≤ j) (hj : j ≤ L.length) (hic : ¬ c = i) : RE w (.slice (va.map fun x => x.add (i * 2)) (j - i) (c - i)) ((L.drop i).take (j - i)) := by
  have hll : ((L.drop i).take (j - i)).length = j - i := by rw [List.length_take, List.length_drop]; omega
  rcases Nat.eq_or_lt_of_le hij with e | hlt
  · subst e
    exact .inl ⟨by simp, _, _, by rw [Nat.sub_self]⟩
  · rcases h with ⟨h0, _⟩ | ⟨_, b, o, c', e, h1, h2, h3, h4⟩
    · rw [h0] at hj; simp at hj; omega
    · injection e with e1 e2 e3
      subst e1; subst e3
      refine .inr ⟨fun e => by rw [e] at hll; simp at hll; omega, b, o + i * 2, c - i, by rw [hll]; simp [Addr.add], by rw [hll]; omega, by unfold maxLen at *; omega, h3, fun t x hx => ?_⟩
      have ht := (List.getElem?_eq_some_iff.1 hx).1
      rw [hll] at ht
      rw [List.getElem?_take_of_lt ht, List.getElem?_drop] at hx
      obtain ⟨a0, a1⟩ := h4 (i + t) x hx
      rw [show o + i * 2 + t * 2 = o + (i + t) * 2 by omega]
      exact ⟨a0, a1⟩

set_option maxHeartbeats 2000000 in
set_option maxRecDepth 100000 in
theorem between_any (p : Nat) (n : Int) (T : List Nat) (pl : Nat → Nat) (W : EdN) (lo hi : Nat) (w0 w : World) (h0 : OrdO w0 p n T pl W) (hb0 : Below w0.heap.size w0 w) (hs : W.Pairwise lexL) (hl : W.length ≤ 1000000) (hlh : lo ≤ hi) :
    Calls Tryz.prog 32 #[.pointer (some ⟨p, 0, none⟩), .int .i64 (lo : Int), .int .i64 (hi : Int)] w fun e w' => ∃ v, e = .returned v ∧ RE w0 v (toI (betw W lo hi)) ∧ Below w.heap.size w w' := by
  have h := h0.below hb0
  obtain ⟨v, c30, hr0⟩ := h0.c3
  have c3 := (hb0.cell (p := ⟨p, 3, none⟩) h0.lt).trans c30
  have hr := hr0.below hb0
  obtain ⟨n3, hn3⟩ : ∃ n3, n3 = W.length := ⟨_, rfl⟩
  have hWl : (toI W).length = n3 := by rw [hn3]; simp [toI]
  have hrise : (toI W).Pairwise (fun a b => a.1 ≤ b.1) := by
    unfold toI
    rw [List.pairwise_map]
    exact hs.imp fun hab => by unfold lexL at hab; simp only; omega
  obtain ⟨va, vc, rfl⟩ := hr.form
  rw [hWl] at c3 hr hr0
  have HR0 := Lib.hid hr0
  have hat : ∀ (t : Nat) (e : Nat × Nat), W[t]? = some e → (toI W)[t]? = some ((e.1 : Int), (e.2 : Int)) := fun t e he => by simp [toI, he]
  have BS := Lib.hid (fun (x : Int) (wz : World) (hz : RE wz (.slice va n3 vc) (toI W)) => bsf_any (toI W) (.slice va n3 vc) x wz hz hrise (by rw [hWl, hn3]; exact hl))
  have HR := Lib.hid hr
  have HAT := Lib.hid hat
  have HWL := Lib.hid hWl
  have HN := Lib.hid hn3
  have hp := h.lt
  have HC3 := Lib.hid c3
  clear h h0 hb0 hs hr hr0 c30 hrise hat hWl hn3
  go_enter Tryz.func32, Tryz.ntmps32
  go_wp2_with fail
  refine (BS.out (lo : Int) w HR.out).mono ?_
  rintro e w2 ⟨⟨i, bi, rfl, hi1, hi2, hi3⟩, hb2⟩
  have c32 := (hb2.cell (p := ⟨p, 3, none⟩) hp).trans HC3.out
  have HB2 := Lib.hid hb2
  have HI := Lib.hid (And.intro hi1 (And.intro hi2 hi3))
  have hp2 : p < w2.heap.size := Nat.lt_of_lt_of_le hp hb2.size
  clear hi1 hi2 hi3 hb2 c3
  go_wp2_with fail
  refine (BS.out (hi : Int) w2 (HR.out.below HB2.out)).mono ?_
  rintro e w3 ⟨⟨j, bj, rfl, hj1, hj2, hj3⟩, hb3⟩
  have c33 := (hb3.cell (p := ⟨p, 3, none⟩) hp2).trans c32
  have hij : i ≤ j := by
    obtain ⟨a1, a2, a3⟩ := HI.out
    rcases Nat.lt_or_ge j i with c | c
    · have h9 : j < (toI W).length := by omega
      have b1 := a2 j _ c (List.getElem?_eq_getElem h9)
      have b2 := hj3 j _ (Nat.le_refl _) (List.getElem?_eq_getElem h9)
      omega
    · exact c
  have hjn : j ≤ n3 := by rw [← HWL.out]; exact hj1
  have HCUT := Lib.hid (betw_cut hij (by rw [← HN.out]; exact hjn) (fun t e ht he => Int.ofNat_lt.1 (HI.out.2.1 t _ ht (HAT.out t e he))) (fun t e ht he => Int.ofNat_le.1 (HI.out.2.2 t _ ht (HAT.out t e he))) (fun t e ht he => Int.ofNat_lt.1 (hj2 t _ ht (HAT.out t e he))) (fun t e ht he => Int.ofNat_le.1 (hj3 t _ ht (HAT.out t e he))))
  have HR3 := Lib.hid ((HR.out.below HB2.out).below hb3)
  have HB3 := Lib.hid (HB2.out.trans (hb3.mono HB2.out.size))
  have hjc : j ≤ vc := Nat.le_trans hjn (HR.out.cap)
  have HE9 : Hid (toI (betw W lo hi) = ((toI W).drop i).take (j - i)) := Lib.hid (by
    rw [HCUT.out]
    unfold toI
    rw [List.map_take, List.map_drop])
  clear hj1 hj2 hj3 hb3 c32
  by_cases hvi : vc = i
  · have hji : j = i := by omega
    subst hji
    subst hvi
    have HE0 : Hid (toI (betw W lo hi) = []) := Lib.hid (by rw [HE9.out, Nat.sub_self, List.take_zero])
    go_wp2_with fail
    go_ret
    exact ⟨_, rfl, .inl ⟨HE0.out, _, _, rfl⟩, HB3.out⟩
  · have HCC := Lib.hid (HR0.out.cut hij (by rw [HWL.out]; exact hjn) hvi)
    rw [← HE9.out] at HCC
    go_wp2_with fail
    go_ret
    exact ⟨_, rfl, HCC.out, HB3.out⟩
end Go.Proofs.YtfpepoebammeoaaGreat
