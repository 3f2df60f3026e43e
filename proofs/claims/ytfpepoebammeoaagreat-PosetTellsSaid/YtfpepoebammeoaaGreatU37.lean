/- The contract of the document's Same over ints; literals that are read. Rows of rows of ints that a call makes, and rows of rows that are read. No function of the program is named here. Same of lists of ints. -/
import Derived.Test.YtfpepoebammeoaaGreatU2
import Derived.Test.YtfpepoebammeoaaGreatU20
import Derived.Test.YtfpepoebammeoaaGreatU4
import Derived.Test.YtfpepoebammeoaaGreatU6
set_option linter.unusedVariables false
namespace Go.Proofs.YtfpepoebammeoaaGreat
open Go.ChangeShapes Go.WideShapes Go.ChangeAt Go.RowKit

theorem belowD (w : World) (d : Nat) : Below w.heap.size w (w.drewN d) := Below.drewN (Below.refl _ _)
set_option maxHeartbeats 1000000 in
theorem sameI_any (a b : List Int) (va vb : Value) (w : World) (ha : RI w va a) (hb : RI w vb b) (hl : a.length ≤ 1000000) (hl2 : b.length ≤ 1000000) :
    Calls Tryz.prog 34 #[va, vb] w fun e w' => e = .returned (.bool (decide (a = b))) ∧ Below w.heap.size w w' := by
  obtain ⟨aa, ac, rfl⟩ := ha.form
  obtain ⟨ba, bc, rfl⟩ := hb.form
  obtain ⟨n, hn⟩ : ∃ n, n = a.length := ⟨_, rfl⟩
  obtain ⟨k, hk⟩ : ∃ k, k = b.length := ⟨_, rfl⟩
  rw [← hn] at ha hl ⊢
  rw [← hk] at hb hl2 ⊢
  have HA := Lib.hid ha
  have HB := Lib.hid hb
  have HN := Lib.hid hn
  have HK := Lib.hid hk
  clear ha hb hn hk
  by_cases hnk : n = k
  · subst hnk
    go_enter Tryz.func34, Tryz.ntmps34
    go_wp2_with fail
    go_loopw [5] (fun jv wr => ∃ j : Nat, jv = .int .i64 (j : Nat) ∧ j ≤ n ∧ Hid (a.take j = b.take j) ∧ ∃ d, wr = w.drewN d) (fun jv _ => n - (intOf jv).toNat)
    case atStart => exact ⟨0, rfl, Nat.zero_le _, Lib.hid (by simp), 0, rfl⟩
    case round =>
      obtain ⟨j, rfl, hjn, HT, d, rfl⟩ := hrel
      by_cases hlt : j < n
      · obtain ⟨x, hx⟩ : ∃ x, a[j]? = some x := ⟨a[j]'(by rw [← HN.out]; exact hlt), by simp⟩
        obtain ⟨y, hy⟩ : ∃ y, b[j]? = some y := ⟨b[j]'(by rw [← HK.out]; exact hlt), by simp⟩
        obtain ⟨xb, xo, rfl, _, hxc1, hxc2, cx⟩ := HA.out.at hx
        obtain ⟨yb, yo, rfl, _, hyc1, hyc2, cy⟩ := HB.out.at hy
        have cx' : (w.drewN d).cell? ⟨xb, xo + j, none⟩ = some (.int .i64 x) := cx
        have cy' : (w.drewN d).cell? ⟨yb, yo + j, none⟩ = some (.int .i64 y) := cy
        unfold maxLen at hxc2 hyc2
        have HX := Lib.hid hx
        have HY := Lib.hid hy
        clear hx hy
        by_cases he : x = y
        · subst he
          have HT2 : Hid (a.take (j + 1) = b.take (j + 1)) := Lib.hid (by rw [List.take_add_one, List.take_add_one, HX.out, HY.out, HT.out])
          go_wp2_with fail
          go_quiet (fail)
          go_wp2_with fail
          exact ⟨⟨j + 1, by go_num, by omega, HT2, _, rfl⟩, by simp [intOf]; omega⟩
        · have hne : (x == y) = false := by rw [beq_eq_false_iff_ne]; exact he
          have HF : Hid (decide (a = b) = false) := Lib.hid (decide_eq_false (fun e => he (by
            have := HX.out
            rw [e, HY.out] at this
            exact (Option.some.inj this).symm)))
          go_wp2_with fail
          go_quiet (fail)
          go_wp2_with fail
          go_ret
          exact ⟨by rw [HF.out]; rfl, Below.drewN (belowD w _)⟩
      · have hje : n = j := by omega
        have HF : Hid (decide (a = b) = true) := Lib.hid (decide_eq_true (by
          have h := HT.out
          rw [List.take_of_length_le (by rw [← HN.out]; omega), List.take_of_length_le (by rw [← HK.out]; omega)] at h
          exact h))
        subst hje
        go_wp2_with fail
        go_ret
        exact ⟨by rw [HF.out]; rfl, belowD w _⟩
  · have hne : ((n : Int) == (k : Int)) = false := by rw [beq_eq_false_iff_ne]; omega
    have HF : Hid (decide (a = b) = false) := Lib.hid (decide_eq_false (fun e => hnk (by rw [HN.out, HK.out, e])))
    have hnk2 : ¬ (n : Int) = (k : Int) := by omega
    go_enter Tryz.func34, Tryz.ntmps34
    go_wp2_with fail
    go_ret
    exact ⟨by rw [HF.out]; rfl, Below.refl _ _⟩

theorem re_lit {w : World} {t : TypeId} (es : Ed) (c : Nat) (hc : c = es.length) (h0 : es ≠ []) (hm : c ≤ maxLen) : RE (w.alloc (.cells (evs es).toArray t)) (.slice (some ⟨w.heap.size, 0, none⟩) c c) es := by
  subst hc
  refine .inr ⟨h0, w.heap.size, 0, es.length, rfl, Nat.le_refl _, hm, by simp, fun j e he => ?_⟩
  obtain ⟨h1, h2⟩ := evs_at he
  rw [Nat.zero_add]
  constructor
  · rw [World.cell?_alloc_at _ _ _ _ rfl]
    simpa using h1
  · rw [World.cell?_alloc_at _ _ _ _ rfl]
    simpa using h2
theorem ri_lit {w : World} {t : TypeId} (l : List Int) (c : Nat) (hc : c = l.length) (h0 : l ≠ []) (hm : c ≤ maxLen) : RI (w.alloc (.cells (iv l).toArray t)) (.slice (some ⟨w.heap.size, 0, none⟩) c c) l := by
  subst hc
  refine .inr ⟨h0, w.heap.size, 0, l.length, rfl, Nat.le_refl _, hm, by simp, fun j x hx => ?_⟩
  rw [Nat.zero_add, World.cell?_alloc_at _ _ _ _ rfl]
  simp [iv, hx]

end Go.Proofs.YtfpepoebammeoaaGreat
set_option linter.unusedVariables false
namespace Go.Proofs.YtfpepoebammeoaaGreat
open Go.ChangeShapes Go.WideShapes Go.ChangeAt Go.RowKit

structure Gr (B : Nat) (w : World) (v : Value) (gv : List Value) (G : List (List Int)) : Prop where
  row : Row 1 B w v gv.length gv
  len : gv.length = G.length
  each : ∀ (j : Nat) u g, gv[j]? = some u → G[j]? = some g → Row 1 B w u g.length (iv g)
  out : ∀ (j : Nat) u b, gv[j]? = some u → u.ownBlock = some b → v.ownBlock ≠ some b
  apart : ∀ (i j : Nat) u u' b, i ≠ j → gv[i]? = some u → gv[j]? = some u' → u.ownBlock = some b → u'.ownBlock ≠ some b
theorem Gr.nil (B : Nat) (w : World) : Gr B w (.slice none 0 0) [] [] := ⟨Row.nil _ _ _, rfl, fun j u g h => by simp at h, fun j u b h => by simp at h, fun i j u u' b _ h => by simp at h⟩
theorem Gr.off {B : Nat} {Z : Nat → Prop} {w w' : World} {v : Value} {gv : List Value} {G : List (List Int)} (h : Gr B w v gv G) (ho : Off Z w w') (hz : ∀ i, B ≤ i → i < w.heap.size → ¬ Z i) : Gr B w' v gv G :=
  ⟨h.row.off ho fun b hb => hz b (h.row.lt b hb).1 (h.row.lt b hb).2, h.len, fun j u g hu hg => (h.each j u g hu hg).off ho fun b hb => hz b ((h.each j u g hu hg).lt b hb).1 ((h.each j u g hu hg).lt b hb).2, h.out, h.apart⟩
theorem Gr.below {B : Nat} {w w' : World} {v : Value} {gv : List Value} {G : List (List Int)} (h : Gr B w v gv G) (hb : Below w.heap.size w w') : Gr B w' v gv G := h.off (Z := fun _ => False) (Off.of_below hb) (fun _ _ _ h => h)
theorem Gr.mono {B B' : Nat} {w : World} {v : Value} {gv : List Value} {G : List (List Int)} (h : Gr B w v gv G) (hB : B' ≤ B) : Gr B' w v gv G :=
  ⟨h.row.mono hB, h.len, fun j u g hu hg => (h.each j u g hu hg).mono hB, h.out, h.apart⟩
theorem Gr.more {B : Nat} {w w6 : World} {v v6 u0 : Value} {gv : List Value} {G : List (List Int)} {g0 : List Int} (h : Gr B w v gv G) (h0 : Row 1 B w u0 g0.length (iv g0)) (h01 : ∀ b, u0.ownBlock = some b → v.ownBlock ≠ some b ∧ ∀ (j : Nat) u, gv[j]? = some u → u.ownBlock ≠ some b) (hr : Row 1 B w6 v6 (gv.length + 1) (gv ++ [u0])) (ho : Off (fun i => v.ownBlock = some i) w w6) (hw : v6.ownBlock = v.ownBlock ∨ ∃ k, v6.ownBlock = some k ∧ w.heap.size ≤ k) : Gr B w6 v6 (gv ++ [u0]) (G ++ [g0]) := by
  have hnew : ∀ b, u0.ownBlock = some b → v6.ownBlock ≠ some b := fun b hb e => by
    rcases hw with hw | ⟨k, hk, hk2⟩
    · exact (h01 b hb).1 (by rw [← hw]; exact e)
    · rw [hk] at e
      injection e with e
      have := (h0.lt b hb).2
      omega
  have hold : ∀ (j : Nat) u b, gv[j]? = some u → u.ownBlock = some b → v6.ownBlock ≠ some b := fun j u b hu hb e => by
    rcases hw with hw | ⟨k, hk, hk2⟩
    · exact h.out j u b hu hb (by rw [← hw]; exact e)
    · rw [hk] at e
      injection e with e
      have hj := (List.getElem?_eq_some_iff.1 hu).1
      have hg : G[j]? = some (G[j]'(by rw [← h.len]; exact hj)) := List.getElem?_eq_getElem _
      have := ((h.each j u _ hu hg).lt b hb).2
      omega
  have at_ : ∀ (j : Nat) u, (gv ++ [u0])[j]? = some u → (gv[j]? = some u ∧ j < gv.length) ∨ (j = gv.length ∧ u = u0) := fun j u hu => by
    rcases Nat.lt_or_ge j gv.length with c | c
    · rw [List.getElem?_append_left c] at hu; exact .inl ⟨hu, c⟩
    · have hj := (List.getElem?_eq_some_iff.1 hu).1
      rw [List.length_append, List.length_singleton] at hj
      obtain rfl : j = gv.length := by omega
      rw [List.getElem?_append_right (Nat.le_refl _), Nat.sub_self] at hu
      exact .inr ⟨rfl, (Option.some.inj hu).symm⟩
  refine ⟨by rw [List.length_append]; exact hr, by rw [List.length_append, List.length_append, h.len]; rfl, fun j u g hu hg => ?_, fun j u b hu hb => ?_, fun i j u u' b hij hu hu' hb => ?_⟩
  · rcases at_ j u hu with ⟨h1, h2⟩ | ⟨rfl, rfl⟩
    · rw [List.getElem?_append_left (by rw [← h.len]; exact h2)] at hg
      exact (h.each j u g h1 hg).off ho fun b hb e => h.out j u b h1 hb e
    · rw [h.len, List.getElem?_append_right (Nat.le_refl _), Nat.sub_self] at hg
      obtain rfl := Option.some.inj hg
      exact h0.off ho fun b hb e => (h01 b hb).1 e
  · rcases at_ j u hu with ⟨h1, h2⟩ | ⟨rfl, rfl⟩
    · exact hold j u b h1 hb
    · exact hnew b hb
  · rcases at_ i u hu with ⟨h1, h2⟩ | ⟨rfl, rfl⟩
    · rcases at_ j u' hu' with ⟨k1, k2⟩ | ⟨rfl, rfl⟩
      · exact h.apart i j u u' b hij h1 k1 hb
      · exact fun e => (h01 b e).2 i u h1 hb
    · rcases at_ j u' hu' with ⟨k1, k2⟩ | ⟨rfl, rfl⟩
      · exact (h01 b hb).2 j u' k1
      · omega
theorem Gr.push {B b n c j : Nat} {w w1 : World} {gv : List Value} {G : List (List Int)} {g : List Int} {x : Int} {u u' : Value} (h : Gr B w (.slice (some ⟨b, 0, none⟩) n c) gv G) (hu : gv[j]? = some u) (hg : G[j]? = some g)
    (ho : Off (fun i => u.ownBlock = some i) w w1) (hr : Row 1 B w1 u' (g.length + 1) (iv g ++ [.int .i64 x])) (hw : u'.ownBlock = u.ownBlock ∨ ∃ k, u'.ownBlock = some k ∧ w.heap.size ≤ k) : Gr B (w1.setCell ⟨b, j, none⟩ u') (.slice (some ⟨b, 0, none⟩) n c) (gv.set j u') (G.set j (g ++ [x])) := by
  have hj := (List.getElem?_eq_some_iff.1 hu).1
  have hn : n = gv.length := by
    obtain ⟨_, ⟨e, _⟩ | ⟨b', c', e, _⟩⟩ := h.row
    · cases e
    · injection e
  have hbw : b < w.heap.size := (h.row.lt b rfl).2
  have hub : ¬ u.ownBlock = some b := fun e => h.out j u b hu e rfl
  have hub' : u'.ownBlock ≠ some b := fun e => by
    rcases hw with hw | ⟨k, hk, hk2⟩
    · exact hub (by rw [← hw]; exact e)
    · rw [hk] at e; injection e with e; omega
  have hrow := (h.row.off ho (fun i hi e => by have : b = i := by simpa [Value.ownBlock] using hi
                                               subst this; exact hub e))
  subst hn
  have hput := hrow.put (j := j) hj u'
  have oth : ∀ (i : Nat) y, i ≠ j → gv[i]? = some y → ∀ q, y.ownBlock = some q → q ≠ b ∧ u'.ownBlock ≠ some q := fun i y hij hy q hq => by
    refine ⟨fun e => h.out i y q hy hq (by rw [e]; rfl), fun e => ?_⟩
    rcases hw with hw | ⟨k, hk, hk2⟩
    · exact h.apart i j y u q hij hy hu hq (by rw [← hw]; exact e)
    · rw [hk] at e
      injection e with e
      have hi := (List.getElem?_eq_some_iff.1 hy).1
      have := ((h.each i y _ hy (List.getElem?_eq_getElem (by rw [← h.len]; exact hi))).lt q hq).2
      omega
  refine ⟨by rw [List.length_set]; exact hput, by rw [List.length_set, List.length_set]; exact h.len, fun i y gg hy hgg => ?_, fun i y q hy hq => ?_, fun i k y y' q hik hy hy' hq => ?_⟩
  · by_cases e : i = j
    · subst e
      rw [List.getElem?_set_self hj] at hy
      rw [List.getElem?_set_self (by rw [← h.len]; exact hj)] at hgg
      cases hy; cases hgg
      have := hr.setOther (p := ⟨b, i, none⟩) hub' u'
      simpa [iv] using this
    · rw [List.getElem?_set_ne (fun h => e h.symm)] at hy hgg
      have h3 := h.each i y gg hy hgg
      refine (h3.off ho fun q hq hq2 => h.apart i j y u q e hy hu hq hq2).setOther (p := ⟨b, j, none⟩) (fun e2 => h.out i y b hy e2 rfl) _
  · by_cases e : i = j
    · subst e
      rw [List.getElem?_set_self hj] at hy
      cases hy
      exact fun e2 => hub' (by have : b = q := by simpa [Value.ownBlock] using e2
                               rw [this]; exact hq)
    · rw [List.getElem?_set_ne (fun h => e h.symm)] at hy
      exact h.out i y q hy hq
  · by_cases e : i = j
    · subst e
      rw [List.getElem?_set_self hj] at hy
      cases hy
      rw [List.getElem?_set_ne hik] at hy'
      exact fun e2 => (oth k y' (fun e => hik e.symm) hy' q e2).2 hq
    · rw [List.getElem?_set_ne (fun h => e h.symm)] at hy
      by_cases e2 : k = j
      · subst e2
        rw [List.getElem?_set_self hj] at hy'
        cases hy'
        exact (oth i y e hy q hq).2
      · rw [List.getElem?_set_ne (fun h => e2 h.symm)] at hy'
        exact h.apart i k y y' q hik hy hy' hq
def RG (w : World) (v : Value) (G : List (List Int)) : Prop :=
  (G = [] ∧ ∃ a c, v = .slice a 0 c) ∨ (G ≠ [] ∧ ∃ b o c, v = .slice (some ⟨b, o, none⟩) G.length c ∧ G.length ≤ c ∧ c ≤ maxLen ∧ b < w.heap.size ∧ ∀ (j : Nat) g, G[j]? = some g → ∃ u, w.cell? ⟨b, o + j, none⟩ = some u ∧ RI w u g)
theorem RG.below {w w' : World} {v : Value} {G : List (List Int)} (h : RG w v G) (hb : Below w.heap.size w w') : RG w' v G := by
  rcases h with h | ⟨hn, b, o, c, e, h1, h2, h3, h4⟩
  · exact .inl h
  · exact .inr ⟨hn, b, o, c, e, h1, h2, Nat.lt_of_lt_of_le h3 hb.size, fun j g hg => by
      obtain ⟨u, hu, hr⟩ := h4 j g hg
      exact ⟨u, (hb.cell (p := ⟨b, o + j, none⟩) h3).trans hu, hr.below hb⟩⟩
theorem RG.form {w : World} {v : Value} {G : List (List Int)} (h : RG w v G) : ∃ a c, v = .slice a G.length c := by
  rcases h with ⟨rfl, a, c, rfl⟩ | ⟨_, b, o, c, rfl, _⟩
  · exact ⟨a, c, rfl⟩
  · exact ⟨_, c, rfl⟩
theorem RG.at {w : World} {a : Option Addr} {n c : Nat} {G : List (List Int)} (h : RG w (.slice a n c) G) {j : Nat} {g : List Int} (hg : G[j]? = some g) : ∃ b o u, a = some ⟨b, o, none⟩ ∧ b < w.heap.size ∧ n ≤ c ∧ c ≤ maxLen ∧ w.cell? ⟨b, o + j, none⟩ = some u ∧ RI w u g := by
  rcases h with ⟨rfl, _⟩ | ⟨_, b, o, c', e, h1, h2, h3, h4⟩
  · simp at hg
  · injection e with e1 e2 e3
    subst e1; subst e3
    obtain ⟨u, hu, hr⟩ := h4 j g hg
    exact ⟨b, o, u, rfl, h3, by omega, h2, hu, hr⟩
theorem Gr.reads {B : Nat} {w : World} {v : Value} {gv : List Value} {G : List (List Int)} (h : Gr B w v gv G) : RG w v G := by
  obtain ⟨h0, ⟨e, h1⟩ | ⟨b, cap, e, h2, h3, h4, h5, h6, h7⟩⟩ := h.row
  · have : G = [] := List.length_eq_zero_iff.1 (by rw [← h.len]; exact h1)
    exact .inl ⟨this, none, 0, e⟩
  · by_cases hG : G = []
    · subst hG
      have hl := h.len
      simp only [List.length_nil] at hl
      rw [hl] at e
      exact .inl ⟨rfl, _, _, e⟩
    · refine .inr ⟨hG, b, 0, cap, by rw [e, h.len], by rw [← h.len]; exact h4, h5, h3, fun j g hg => ?_⟩
      have hj := (List.getElem?_eq_some_iff.1 hg).1
      have hu : gv[j]? = some (gv[j]'(by rw [h.len]; exact hj)) := List.getElem?_eq_getElem _
      exact ⟨_, by rw [Nat.zero_add]; exact h7 j _ hu, RI.ofRow (h.each j _ g hu hg)⟩
end Go.Proofs.YtfpepoebammeoaaGreat
set_option linter.unusedVariables false
set_option linter.unusedSimpArgs false
namespace Go.Proofs.YtfpepoebammeoaaGreat
open Go.ChangeShapes Go.WideShapes Go.ChangeAt Go.RowKit

@[reducible] def SmS (w : World) (xb xo yb yo j : Nat) (ux uy : Value) (W : World) : Prop := W.cell? ⟨xb, xo + j, none⟩ = some ux ∧ W.cell? ⟨yb, yo + j, none⟩ = some uy ∧ Below w.heap.size w W
set_option maxHeartbeats 4000000 in
set_option maxRecDepth 100000 in
theorem sameG_any (a b : List (List Int)) (va vb : Value) (w : World) (ha : RG w va a) (hb : RG w vb b) (hl : a.length ≤ 1000000) (hl2 : b.length ≤ 1000000) (hg : ∀ g ∈ a, g.length ≤ 1000000) (hg2 : ∀ g ∈ b, g.length ≤ 1000000) :
    Calls Tryz.prog 14 #[va, vb] w fun e w' => e = .returned (.bool (decide (a = b))) ∧ Below w.heap.size w w' := by
  obtain ⟨aa, ac, rfl⟩ := ha.form
  obtain ⟨ba, bc, rfl⟩ := hb.form
  obtain ⟨n, hn⟩ : ∃ n, n = a.length := ⟨_, rfl⟩
  obtain ⟨k, hk⟩ : ∃ k, k = b.length := ⟨_, rfl⟩
  rw [← hn] at ha hl ⊢
  rw [← hk] at hb hl2 ⊢
  have HA := Lib.hid ha
  have HB := Lib.hid hb
  have HN := Lib.hid hn
  have HK := Lib.hid hk
  have HGA := Lib.hid hg
  have HGB := Lib.hid hg2
  clear ha hb hn hk hg hg2
  by_cases hnk : n = k
  · subst hnk
    go_enter Tryz.func14, Tryz.ntmps14
    go_wp2_with fail
    go_loopw [5] (fun jv wr => ∃ j : Nat, jv = .int .i64 (j : Nat) ∧ j ≤ n ∧ Hid (a.take j = b.take j) ∧ Hid (Below w.heap.size w wr)) (fun jv _ => n - (intOf jv).toNat)
    case atStart => exact ⟨0, rfl, Nat.zero_le _, Lib.hid (by simp), Lib.hid (Below.refl _ _)⟩
    case round =>
      obtain ⟨j, rfl, hjn, HT, HBR⟩ := hrel
      by_cases hlt : j < n
      · obtain ⟨x, hx⟩ : ∃ x, a[j]? = some x := ⟨a[j]'(by rw [← HN.out]; exact hlt), by simp⟩
        obtain ⟨y, hy⟩ : ∃ y, b[j]? = some y := ⟨b[j]'(by rw [← HK.out]; exact hlt), by simp⟩
        obtain ⟨xb, xo, ux, rfl, hxb, hxc1, hxc2, cx, hux⟩ := HA.out.at hx
        obtain ⟨yb, yo, uy, rfl, hyb, hyc1, hyc2, cy, huy⟩ := HB.out.at hy
        have HSS : Hid (∀ W, Below w.heap.size w W → W.cell? ⟨xb, xo + j, none⟩ = some ux ∧ W.cell? ⟨yb, yo + j, none⟩ = some uy ∧ Below w.heap.size w W) := Lib.hid (fun W hW => ⟨(hW.cell (p := ⟨xb, _, none⟩) hxb).trans cx, (hW.cell (p := ⟨yb, _, none⟩) hyb).trans cy, hW⟩)
        have HSI : Hid (∀ W, Below w.heap.size w W → Calls Tryz.prog 34 #[ux, uy] W fun e w' => e = .returned (.bool (decide (x = y))) ∧ Below W.heap.size W w') := Lib.hid (fun W hW => sameI_any x y ux uy W (hux.below hW) (huy.below hW) (HGA.out x (List.mem_of_getElem? hx)) (HGB.out y (List.mem_of_getElem? hy)))
        have HS0 := Lib.hid (HSS.out wr.drew HBR.out.drew)
        unfold maxLen at hxc2 hyc2
        have HX := Lib.hid hx
        have HY := Lib.hid hy
        clear hx hy cx cy hux huy
        obtain ⟨t, ht⟩ : ∃ t, t = decide (x = y) := ⟨_, rfl⟩
        rw [← ht] at HSI
        have HTT := Lib.hid ht
        clear ht
        go_wp2_with fail
        go_region_held3 (fun W => W.cell? ⟨xb, xo + j, none⟩ = some ux ∧ W.cell? ⟨yb, yo + j, none⟩ = some uy ∧ Below w.heap.size w W) (first | with_reducible exact HS3.out | with_reducible exact HS0.out) (first | (go_at_call 34; have hq : SmS w xb xo yb yo j ux uy _ := (by assumption); (with_reducible refine (HSI.out _ hq.2.2).mono ?_); rintro e w3 ⟨rfl, hb3⟩; have HS3 := Lib.hid (HSS.out w3 (hq.2.2.trans (hb3.mono hq.2.2.size))); clear hq))
        rename_i hHeld
        clear hHeld
        cases t with
        | true =>
          have he : x = y := of_decide_eq_true HTT.out.symm
          have HT2 : Hid (a.take (j + 1) = b.take (j + 1)) := Lib.hid (by rw [List.take_add_one, List.take_add_one, HX.out, HY.out, HT.out, he])
          go_wp2_with fail
          exact ⟨⟨j + 1, by go_num, by omega, HT2, Lib.hid HS3.out.2.2⟩, by simp [intOf]; omega⟩
        | false =>
          have he : ¬ x = y := of_decide_eq_false HTT.out.symm
          have HF : Hid (decide (a = b) = false) := Lib.hid (decide_eq_false (fun e => he (by
            have := HX.out
            rw [e, HY.out] at this
            exact (Option.some.inj this).symm)))
          go_wp2_with fail
          go_ret
          exact ⟨by rw [HF.out]; rfl, HS3.out.2.2⟩
      · have hje : n = j := by omega
        have HF : Hid (decide (a = b) = true) := Lib.hid (decide_eq_true (by
          have h := HT.out
          rw [List.take_of_length_le (by rw [← HN.out]; omega), List.take_of_length_le (by rw [← HK.out]; omega)] at h
          exact h))
        subst hje
        go_wp2_with fail
        go_ret
        exact ⟨by rw [HF.out]; rfl, HBR.out⟩
  · have hne : ((n : Int) == (k : Int)) = false := by rw [beq_eq_false_iff_ne]; omega
    have HF : Hid (decide (a = b) = false) := Lib.hid (decide_eq_false (fun e => hnk (by rw [HN.out, HK.out, e])))
    have hnk2 : ¬ (n : Int) = (k : Int) := by omega
    go_enter Tryz.func14, Tryz.ntmps14
    go_wp2_with fail
    go_ret
    exact ⟨by rw [HF.out]; rfl, Below.refl _ _⟩
end Go.Proofs.YtfpepoebammeoaaGreat
