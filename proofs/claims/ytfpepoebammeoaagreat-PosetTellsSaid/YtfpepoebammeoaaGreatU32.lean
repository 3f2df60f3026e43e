/- New, walked. -/
import Derived.Test.YtfpepoebammeoaaGreatU20
import Derived.Test.YtfpepoebammeoaaGreatU21
import Derived.Test.YtfpepoebammeoaaGreatU30
import Derived.Test.YtfpepoebammeoaaGreatU31
set_option linter.unusedVariables false
set_option linter.unusedSimpArgs false
namespace Go.Proofs.YtfpepoebammeoaaGreat
open Go.ChangeShapes Go.WideShapes Go.ChangeAt Go.RowKit

structure NewB (S : Nat) (n : Int) (tv pv wv : Value) (W : World) : Prop where
  lt : S < W.heap.size
  c0 : W.cell? ⟨S, 0, none⟩ = some (.int .i64 n)
  c1 : W.cell? ⟨S, 1, none⟩ = some tv
  c2 : W.cell? ⟨S, 2, none⟩ = some pv
  c3 : W.cell? ⟨S, 3, none⟩ = some wv
  f : ∀ j, W.frozen? ⟨S, j, none⟩ = false
theorem NewB.off {S : Nat} {n : Int} {tv pv wv : Value} {W W' : World} {Z : Nat → Prop} (h : NewB S n tv pv wv W) (ho : Off Z W W') (hz : ¬ Z S) : NewB S n tv pv wv W' :=
  ⟨Nat.lt_of_lt_of_le h.lt ho.size, (ho.cell (p := ⟨S, 0, none⟩) h.lt hz).trans h.c0, (ho.cell (p := ⟨S, 1, none⟩) h.lt hz).trans h.c1, (ho.cell (p := ⟨S, 2, none⟩) h.lt hz).trans h.c2, (ho.cell (p := ⟨S, 3, none⟩) h.lt hz).trans h.c3, fun j => (ho.frozen (p := ⟨S, j, none⟩) h.lt hz).trans (h.f j)⟩
theorem NewB.below {S : Nat} {n : Int} {tv pv wv : Value} {W W' : World} (h : NewB S n tv pv wv W) (hb : Below W.heap.size W W') : NewB S n tv pv wv W' :=
  h.off (Z := fun _ => False) (Off.of_below hb) id
theorem NewB.set2 {S : Nat} {n : Int} {tv pv wv : Value} {W : World} (h : NewB S n tv pv wv W) (x : Value) : NewB S n tv x wv (W.setCell ⟨S, 2, none⟩ x) := by
  refine ⟨by have := h.lt; simpa [World.setCell] using this, ?_, ?_, ?_, ?_, fun j => by rw [World.frozen?_setCell]; exact h.f j⟩
  · rw [World.cell?_setCell_other _ _ _ _ (fun e => by injection e with _ e; omega)]; exact h.c0
  · rw [World.cell?_setCell_other _ _ _ _ (fun e => by injection e with _ e; omega)]; exact h.c1
  · exact World.cell?_setCell_same _ _ _ h.c2
  · rw [World.cell?_setCell_other _ _ _ _ (fun e => by injection e with _ e; omega)]; exact h.c3
theorem NewB.set3 {S : Nat} {n : Int} {tv pv wv : Value} {W : World} (h : NewB S n tv pv wv W) (x : Value) : NewB S n tv pv x (W.setCell ⟨S, 3, none⟩ x) := by
  refine ⟨by have := h.lt; simpa [World.setCell] using this, ?_, ?_, ?_, ?_, fun j => by rw [World.frozen?_setCell]; exact h.f j⟩
  · rw [World.cell?_setCell_other _ _ _ _ (fun e => by injection e with _ e; omega)]; exact h.c0
  · rw [World.cell?_setCell_other _ _ _ _ (fun e => by injection e with _ e; omega)]; exact h.c1
  · rw [World.cell?_setCell_other _ _ _ _ (fun e => by injection e with _ e; omega)]; exact h.c2
  · exact World.cell?_setCell_same _ _ _ h.c3

theorem among_edn {n : Int} {es : List (Nat × Nat)} (h : ∀ e ∈ es, (e.1 : Int) < n ∧ (e.2 : Int) < n) : toN (amongL n (toI es)) = es := by
  have h1 : amongL n (toI es) = toI es := by
    unfold amongL
    refine List.filter_eq_self.2 fun e he => ?_
    unfold toI at he
    obtain ⟨e0, h0, rfl⟩ := List.mem_map.1 he
    have := h e0 h0
    exact rightP_iff.2 ⟨by simp, by simp, this.1, this.2⟩
  rw [h1]
  unfold toN toI
  rw [List.map_map]
  exact (List.map_congr_left (fun e _ => by simp)).trans (List.map_id _)
theorem knots_tied {m : Nat} {RN : EdN} (hlt : ∀ e ∈ RN, e.1 < m ∧ e.2 < m) (hl : RN.length ≤ 400000) (hm : m ≤ 400000) (v : Value) (w : World) (hr : RE w v (toI RN)) :
    Calls Tryz.prog 20 #[.int .i64 (m : Int), v] w fun e w' => ∃ lv, ∃ ks : Nat → Nat, e = .returned lv ∧ Row 1 w.heap.size w' lv m (bkv ks m) ∧ (∀ x, x < m → LeastK (EdR RN) x (ks x)) ∧ (∀ x, x < m → ks x < m) ∧ (∀ x, ks x ≤ m) ∧ Below w.heap.size w w' := by
  have h := knotsF_any (m : Int) (toI RN) v w hr (by simpa [toI] using hl) (by omega) (by omega)
  rw [among_edn (fun e he => by have := hlt e he; omega), Int.toNat_natCast] at h
  refine h.mono ?_
  rintro e w' ⟨lv, ks, rfl, hr, hk, hb⟩
  refine ⟨lv, fun x => if x < m then ks x else 0, rfl, ?_, fun x hx => by simp only [if_pos hx]; exact hk x hx, fun x hx => by simp only [if_pos hx]; exact Nat.lt_of_le_of_lt (hk x hx).le hx, fun x => ?_, hb⟩
  · rw [bkv_congr (g := ks) (fun x hx => by simp only [if_pos hx])]
    exact hr
  · by_cases hx : x < m
    · simp only [if_pos hx]; exact Nat.le_trans (hk x hx).le (Nat.le_of_lt hx)
    · simp only [if_neg hx]; exact Nat.zero_le _
theorem sort_tied {m : Nat} {RN : EdN} (hlt : ∀ e ∈ RN, e.1 < m ∧ e.2 < m) (hl : RN.length ≤ 400000) (hm : m ≤ 400000) (v : Value) (w : World) (hr : RE w v (toI RN)) :
    Calls Tryz.prog 22 #[.int .i64 (m : Int), v] w fun e w' => ∃ ov out ok, e = .returned (.tuple #[ov, .bool ok]) ∧ SortR m RN out ok ∧ RI w' ov out ∧ Below w.heap.size w w' := by
  have h := sortF_any (m : Int) (toI RN) v w hr (by simpa [toI] using hl) (by omega) (by omega)
  rw [among_edn (fun e he => by have := hlt e he; omega), Int.toNat_natCast] at h
  exact h
theorem new_facts {m : Nat} {RN : EdN} {ks : Nat → Nat} {out : List Int} {ok : Bool} (hlt : ∀ e ∈ RN, e.1 < m ∧ e.2 < m) (hls : ∀ x, x < m → LeastK (EdR RN) x (ks x)) (hs : SortR m (thrE ks RN) out ok) : out.length = m ∧ out.Nodup ∧ ∀ x ∈ out, ∃ u : Nat, u < m ∧ x = (u : Int) := by
  have hok := sort_ok (fun e he => by
    obtain ⟨a, b⟩ := e
    obtain ⟨_, e0, h0, e1, _⟩ := mem_thrE.1 he
    have h1 := hlt e0 h0
    have := (hls e0.1 h1.1).le
    omega) (fun u hw => thr_noring hlt hls hw) hs
  subst hok
  rcases hs with ⟨_, hr, hl⟩ | ⟨h, _⟩
  · exact ⟨hl, reach_tame hr⟩
  · cases h
theorem thr_lt {m : Nat} {RN : EdN} {ks : Nat → Nat} (hlt : ∀ e ∈ RN, e.1 < m ∧ e.2 < m) (hk : ∀ x, x < m → ks x < m) : ∀ e ∈ thrE ks RN, e.1 < m ∧ e.2 < m := by
  rintro ⟨a, b⟩ he
  obtain ⟨_, e0, h0, rfl, rfl⟩ := mem_thrE.1 he
  exact ⟨hk _ (hlt e0 h0).1, hk _ (hlt e0 h0).2⟩
theorem thrE_len (f : Nat → Nat) (es : EdN) : (thrE f es).length ≤ es.length := by
  unfold thrE
  exact Nat.le_trans (List.length_filter_le _ _) (by simp)
theorem atR_le (ls : Nat → Nat) (out : List Int) (k x : Nat) : atR ls out k x ≤ out.length := by
  unfold atR
  split
  · exact Nat.le_trans (cntR_le _ _ _) List.idxOf_le_length
  · exact Nat.zero_le _
theorem ri_bkv {B m : Nat} {w : World} {v : Value} {f : Nat → Nat} (h : Row 1 B w v m (bkv f m)) : RI w v (nl (ansL f m)) := by
  have e : bkv f m = iv (nl (ansL f m)) := by simp [bkv, iv, nl, ansL]
  rw [e] at h
  exact RI.ofRow (by rw [ans_len]; exact h)
theorem RE.edn {B : Nat} {w : World} {v : Value} {es : EdN} (h : Row 2 B w v es.length (evs (toI es))) : RE w v (toI es) :=
  RE.ofRow (by have : (toI es).length = es.length := by simp [toI]
               rw [this]; exact h)

theorem ways_made {W0 : EdN} {M : Ed} (hp : M.Perm (toI W0)) (hs : M.Pairwise fun x y => ¬ ltP y x) : ∃ W : EdN, cpT M M.length = toI W ∧ W.Pairwise lexL ∧ ∀ e, e ∈ W ↔ e ∈ W0 := by
  obtain ⟨h1, h2, _⟩ := cpT_says hs M.length (Nat.le_refl _)
  rw [List.take_length] at h2
  have hc : ∀ x ∈ cpT M M.length, ∃ e ∈ W0, x = ((e.1 : Int), (e.2 : Int)) := fun x hx => by
    have h := hp.mem_iff.1 ((h2 x).1 hx)
    unfold toI at h
    obtain ⟨e, he, rfl⟩ := List.mem_map.1 h
    exact ⟨e, he, rfl⟩
  refine ⟨(cpT M M.length).map fun x => (x.1.toNat, x.2.toNat), ?_, ?_, fun e => ?_⟩
  · unfold toI
    rw [List.map_map]
    refine ((List.map_congr_left fun x hx => ?_).trans (List.map_id _)).symm
    obtain ⟨e, _, rfl⟩ := hc x hx
    rfl
  · rw [List.pairwise_map]
    refine h1.imp_of_mem fun {a b} ha hb hab => ?_
    obtain ⟨e, _, rfl⟩ := hc a ha
    obtain ⟨f, _, rfl⟩ := hc b hb
    unfold ltP at hab
    unfold lexL
    simp only [Int.toNat_natCast] at *
    omega
  · constructor
    · intro he
      obtain ⟨x, hx, rfl⟩ := List.mem_map.1 he
      obtain ⟨f, hf, rfl⟩ := hc x hx
      exact hf
    · intro he
      refine List.mem_map.2 ⟨((e.1 : Int), (e.2 : Int)), (h2 _).2 (hp.mem_iff.2 (List.mem_map.2 ⟨e, he, rfl⟩)), rfl⟩
set_option maxRecDepth 100000 in
theorem compactP_none (p : Option Addr) (cap : Nat) (w : World) : Calls Tryz.prog 28 #[.slice p 0 cap] w fun e w' => e = .returned (.slice p 0 cap) ∧ w' = w := by
  go_enter Tryz.func28, Tryz.ntmps28
  go_wp2_with fail
  go_ret
  exact ⟨rfl, rfl⟩
def atK (f ks : Nat → Nat) (j x : Nat) : Nat := if x < j then f (ks x) else 0
theorem atK_zero (f ks : Nat → Nat) (m : Nat) : bkv (atK f ks 0) m = iv (List.replicate m 0) := by
  rw [← bkv_zero]
  exact bkv_congr fun v _ => by simp [atK]
theorem atK_step (f ks : Nat → Nat) {j m : Nat} (h : j < m) : (bkv (atK f ks j) m).set j (.int .i64 (f (ks j) : Int)) = bkv (atK f ks (j + 1)) m := by
  rw [bkv_set _ h]
  refine bkv_congr fun v _ => ?_
  unfold upd atK
  by_cases e : v = j
  · subst e; simp
  · simp only [if_neg e]
    by_cases hv : v < j
    · rw [if_pos hv, if_pos (by omega)]
    · rw [if_neg hv, if_neg (by omega)]
theorem atK_all (f ks : Nat → Nat) (m : Nat) : bkv (atK f ks m) m = bkv (fun i => f (ks i)) m := bkv_congr fun v hv => by simp [atK, hv]

theorem re_set {w : World} {b o q c S k : Nat} {es : Ed} (h : RE w (.slice (some ⟨b, o, none⟩) q c) es) (hb : b ≠ S) (x : Value) : RE (w.setCell ⟨S, k, none⟩ x) (.slice (some ⟨b, o, none⟩) q c) es := by
  rcases h with h | ⟨hn, b', o', c', e, h1, h2, h3, h4⟩
  · exact .inl h
  · have hbb : b = b' := by injection e with e _ _; injection e with e; injection e with e
    subst hbb
    refine .inr ⟨hn, b, o', c', e, h1, h2, by simpa [World.setCell] using h3, fun j e he => ?_⟩
    obtain ⟨a0, a1⟩ := h4 j e he
    exact ⟨by rw [World.cell?_setCell_other _ _ _ _ (fun e => by injection e with e _; exact hb e.symm)]; exact a0, by rw [World.cell?_setCell_other _ _ _ _ (fun e => by injection e with e _; exact hb e.symm)]; exact a1⟩

set_option maxHeartbeats 1500000 in
set_option maxRecDepth 100000 in
theorem new_any (n : Int) (es : Ed) (v : Value) (w : World) (hr : RE w v es) (hl : es.length ≤ 100000) (hn1 : -9223372036854775808 ≤ n) (hn : n ≤ 400000) :
    Calls Tryz.prog 8 #[.int .i64 n, v] w fun e w' => ∃ p pl W, e = .returned (.pointer (some ⟨p, 0, none⟩)) ∧ OrdO w' p n (tiedL (toN (amongL n es)) n.toNat) pl W ∧ OrdS n.toNat (toN (amongL n es)) (tiedL (toN (amongL n es)) n.toNat) pl W ∧ Below w.heap.size w w' := by
  obtain ⟨va, vc, rfl⟩ := hr.form
  obtain ⟨E, hE⟩ : ∃ E, E = es.length := ⟨_, rfl⟩
  obtain ⟨ES, hES⟩ : ∃ ES, ES = toN (amongL n es) := ⟨_, rfl⟩
  obtain ⟨N, hN⟩ : ∃ N, N = n.toNat := ⟨_, rfl⟩
  obtain ⟨T, hTT⟩ : ∃ T, T = tiedL ES N := ⟨_, rfl⟩
  obtain ⟨RN, hRN⟩ : ∃ RN, RN = renE T ES := ⟨_, rfl⟩
  obtain ⟨m, hm⟩ : ∃ m, m = T.length := ⟨_, rfl⟩
  have hlt : ∀ e ∈ ES, e.1 < N ∧ e.2 < N := by rw [hES, hN]; exact among_lt
  have hT : Tied N ES T := by rw [hTT]; exact tied_tiedL hlt
  have hRlt : ∀ e ∈ RN, e.1 < m ∧ e.2 < m := by rw [hRN, hm]; exact ren_lt hT
  have hK : (amongL n es).length = RN.length := by rw [hRN, hES]; simp [renE, toN]
  have hRl : RN.length ≤ 100000 := by rw [← hK]; exact Nat.le_trans (List.length_filter_le _ _) hl
  have hm4 : m ≤ 400000 := by
    rw [hm, hTT]
    refine Nat.le_trans (tiedL_len ES N) ?_
    omega
  obtain ⟨S, hS⟩ : ∃ S, S = w.heap.size := ⟨_, rfl⟩
  obtain ⟨w1, hw1⟩ : ∃ w1, w1 = w.alloc (.cells #[.int .i64 n, .slice none 0 0, .slice none 0 0, .slice none 0 0] 38) := ⟨_, rfl⟩
  have hB1 : Below S w w1 := by rw [hw1, hS]; exact (Below.refl _ _).alloc (Nat.le_refl _) _
  have hN1 : NewB S n (.slice none 0 0) (.slice none 0 0) (.slice none 0 0) w1 := by
    rw [hw1, hS]
    refine ⟨by simp, ?_, ?_, ?_, ?_, fun j => ?_⟩
    · rw [World.cell?_alloc_at _ _ _ _ rfl]; rfl
    · rw [World.cell?_alloc_at _ _ _ _ rfl]; rfl
    · rw [World.cell?_alloc_at _ _ _ _ rfl]; rfl
    · rw [World.cell?_alloc_at _ _ _ _ rfl]; rfl
    · simp
  have hr1 : RE w1 (.slice va E vc) es := by
    rw [hS] at hB1
    rw [hE]
    exact hr.below hB1
  have TI := tie_any S n es (.slice va E vc) w1 hN1.lt hN1.c0 hN1.c1 (hN1.f 1) hr1 (fun hne b o c k e hb => by
    rcases hr with ⟨h, _⟩ | ⟨_, b', o', c', e', _, _, h3, _⟩
    · exact hne h
    · rw [hE, e'] at e
      injection e with e
      injection e with e
      injection e with e
      omega) hl (by omega)
  rw [← hES, ← hN, ← hTT] at TI ⊢
  rw [← hRN, hK] at TI
  obtain ⟨R, hR⟩ : ∃ R, R = RN.length := ⟨_, rfl⟩
  rw [← hR] at hRl
  have HRL := Lib.hid hR
  rw [← hS]
  have HTI := Lib.hid TI
  have HW1 := Lib.hid hw1
  have HN1 := Lib.hid hN1
  have HB1 := Lib.hid hB1
  have HR1 := Lib.hid hRlt
  have HTD := Lib.hid hT
  have HRN := Lib.hid hRN
  have HM := Lib.hid hm
  clear TI hR hw1 hN1 hB1 hr1 hr hRlt hT hK hlt hRN hm hES hN hTT
  rw [← hE]
  rw [← hE] at hl
  have HS := Lib.hid hS
  clear hE
  go_enter Tryz.func8, Tryz.ntmps8
  go_wp2_with fail
  rw [← HS.out, ← HW1.out]
  refine HTI.out.mono ?_
  rintro e w2 ⟨kv, tv, rfl, hkr, hc1, hti, hto, hbx, hof⟩
  have hN2 : NewB S n tv (.slice none 0 0) (.slice none 0 0) w2 := ⟨Nat.lt_of_lt_of_le HN1.out.lt hof.size, (hbx.1 0 (by decide)).trans HN1.out.c0, hc1, (hbx.1 2 (by decide)).trans HN1.out.c2, (hbx.1 3 (by decide)).trans HN1.out.c3, fun j => (hbx.2 j).trans (HN1.out.f j)⟩
  have hB2 : Below S w w2 := HB1.out.trans (hof.below (fun i hi => by omega) (Nat.le_of_lt HN1.out.lt))
  have KN := Lib.hid (knots_tied HR1.out (by rw [← HRL.out]; omega) hm4 kv w2 (RE.edn hkr))
  have HKR := Lib.hid (RE.edn hkr)
  have HTI2 := Lib.hid hti
  have HTO := Lib.hid (fun b (hb : tv.ownBlock = some b) => (show S < b from Nat.lt_of_lt_of_le HN1.out.lt (hto b hb)))
  obtain ⟨ta, tc, htv⟩ := hti.form
  rw [nl_len, ← HM.out] at htv
  subst htv
  obtain ⟨ka, kc, hkv⟩ := hkr.form
  rw [← HRL.out] at hkv
  subst hkv
  obtain ⟨d0, d1, d2, d3⟩ := And.intro hN2.c0 (And.intro hN2.c1 (And.intro hN2.c2 hN2.c3))
  have HN2 := Lib.hid hN2
  have HB2 := Lib.hid hB2
  clear hkr hc1 hti hto hbx hof hN2 hB2 d0 d2 d3 hS
  go_wp2_with fail
  refine KN.out.mono ?_
  rintro e w3 ⟨lv, ks, rfl, hlr, hks, hkm, hkb, hb3⟩
  have HKS := Lib.hid hks
  have HKM := Lib.hid hkm
  have HN3 := Lib.hid (HN2.out.below hb3)
  have HB3 := Lib.hid (HB2.out.trans (hb3.mono (Nat.le_of_lt HN2.out.lt)))
  have HTI3 := Lib.hid (HTI2.out.below hb3)
  have HLR3 := Lib.hid hlr
  obtain ⟨la, lc, hlv⟩ := hlr.form
  subst hlv
  have TH := Lib.hid (through_any RN ks m (.slice ka R kc) (.slice la m lc) w3 (HKR.out.below hb3) (ri_bkv hlr) (by rw [← HRL.out]; omega) HR1.out (fun x => Nat.le_trans (hkb x) (by omega)))
  clear hlr hb3 hks hkm d1
  go_wp2_with fail
  refine TH.out.mono ?_
  rintro e w4 ⟨k2, rfl, hk2, hb4⟩
  have HN4 := Lib.hid (HN3.out.below hb4)
  have HB4 := Lib.hid (HB3.out.trans (hb4.mono (Nat.le_of_lt HN3.out.lt)))
  have HTI4 := Lib.hid (HTI3.out.below hb4)
  have HLR4 := Lib.hid (HLR3.out.below hb4)
  obtain ⟨K2, hK2⟩ : ∃ K2, K2 = (thrE ks RN).length := ⟨_, rfl⟩
  have hK29 : K2 ≤ 100000 := by rw [hK2]; exact Nat.le_trans (thrE_len _ _) (by rw [← HRL.out]; exact hRl)
  have HLT2 := Lib.hid (thr_lt HR1.out HKM.out)
  have SO := Lib.hid (sort_tied HLT2.out (by rw [← hK2]; omega) hm4 k2 w4 (RE.edn hk2))
  have HK24 := Lib.hid hk2
  rw [← hK2] at hk2
  obtain ⟨k2a, k2c, hk2v⟩ := hk2.form
  subst hk2v
  have d1 := HN4.out.c1
  have HK2 := Lib.hid hK2
  clear hk2 hb4 hK2
  go_wp2_with fail
  refine SO.out.mono ?_
  rintro e w5 ⟨ov, out, ok, rfl, hso, hor, hb5⟩
  obtain ⟨hol, hnd, hin⟩ := new_facts HR1.out HKS.out hso
  have HSO := Lib.hid hso
  have HN5 := Lib.hid (HN4.out.below hb5)
  have HB5 := Lib.hid (HB4.out.trans (hb5.mono (Nat.le_of_lt HN4.out.lt)))
  have HTI5 := Lib.hid (HTI4.out.below hb5)
  have HLR5 := Lib.hid (HLR4.out.below hb5)
  have HK25 := Lib.hid (HK24.out.below hb5)
  have PL := Lib.hid (placed_any ks out m ov (.slice la m lc) w5 hor (ri_bkv HLR5.out) hol (by omega) hnd hin)
  obtain ⟨oa, oc, hov⟩ := hor.form
  rw [hol] at hov
  subst hov
  have HOL := Lib.hid hol
  clear hso hor hb5 hnd hin hol d1
  go_wp2_with fail
  refine PL.out.mono ?_
  rintro e w6 ⟨ab, rfl, har, hb6⟩
  have HN6 := Lib.hid (HN5.out.below hb6)
  have HB6 := Lib.hid (HB5.out.trans (hb6.mono (Nat.le_of_lt HN5.out.lt)))
  have HTI6 := Lib.hid (HTI5.out.below hb6)
  have HLR6 := Lib.hid (HLR5.out.below hb6)
  have HK26 := Lib.hid (HK25.out.below hb6)
  have HAR6 := Lib.hid har
  have HSL : Hid (S < w2.heap.size ∧ S < w3.heap.size ∧ S < w5.heap.size ∧ S < w6.heap.size) := Lib.hid ⟨HN2.out.lt, HN3.out.lt, HN5.out.lt, HN6.out.lt⟩
  have mk1 := run_make_row' (P := Tryz.prog) 23 3 (.int .i64 0) 8 Tryz.underlying23 infoIk rfl .i64 .i64 m (by omega) (by omega)
  obtain ⟨y, hy⟩ : ∃ y, y = w6.heap.size := ⟨_, rfl⟩
  obtain ⟨wy, hwy⟩ : ∃ wy, wy = w6.setCell ⟨S, 2, none⟩ (.slice (some ⟨y, 0, none⟩) m m) := ⟨_, rfl⟩
  have hyy : y = wy.heap.size := by rw [hwy, hy]; simp [World.setCell]
  have hNy := HN6.out.set2 (.slice (some ⟨y, 0, none⟩) m m)
  rw [← hwy] at hNy
  have hOy : Off (fun i => i = S) w6 wy := by
    rw [hwy]
    exact (show Off (fun i => i = S) w6 w6 from Off.refl _ w6).setCell (p := ⟨S, 2, none⟩) (.inr rfl) _
  have hSy : S < y := by rw [hy]; exact HSL.out.2.2.2
  obtain ⟨wz, hwz⟩ : ∃ wz, wz = wy.alloc (.cells (madeCells #[.int .i64 0] m) 3) := ⟨_, rfl⟩
  have hbz : Below wy.heap.size wy wz := by rw [hwz]; exact (Below.refl _ _).alloc (Nat.le_refl _) _
  have hrz : Row 1 y wz (.slice (some ⟨y, 0, none⟩) m m) m (bkv (atK (atR ks out m) ks 0) m) := by
    rw [atK_zero, hwz, hyy]
    exact made_intk (by omega) (Nat.le_refl _) _
  have hNz := hNy.below hbz
  have hOz := hOy.trans (Off.of_below (Z := fun i => i = S) hbz)
  have HRZ := Lib.hid hrz
  have HNZ := Lib.hid hNz
  have HOZ := Lib.hid hOz
  have HWZ := Lib.hid hwz
  have HWY := Lib.hid hwy
  have HY := Lib.hid hy
  have d1 := HN6.out.c1
  have e2 := HN6.out.c2
  have e3 := HN6.out.f 2
  have e4 := HSL.out.2.2.2
  clear hbz hNy hOy hyy hrz hNz hOz hwz hwy hy har hb6
  go_wp2_with fail
  rw [← HY.out, ← HWY.out, ← HWZ.out]
  clear mk1 d1 e2 e3 e4
  go_loopw [53] (fun jv wr => ∃ j : Nat, jv = .int .i64 (j : Nat) ∧ j ≤ m ∧ Hid (Row 1 y wr (.slice (some ⟨y, 0, none⟩) m m) m (bkv (atK (atR ks out m) ks j) m)) ∧ Hid (NewB S n (.slice ta m tc) (.slice (some ⟨y, 0, none⟩) m m) (.slice none 0 0) wr) ∧ Hid (Off (fun i => i = S) w6 wr)) (fun jv _ => m - (intOf jv).toNat)
  case atStart => exact ⟨0, rfl, Nat.zero_le _, HRZ, HNZ, HOZ⟩
  case round =>
    obtain ⟨j, rfl, hj, HO, HNB, HOF⟩ := hrel
    by_cases hlj : j < m
    · have hlr := HLR6.out.off HOF.out (fun b hb e => by have := (HLR6.out.lt b hb).1; have := HSL.out.1; omega)
      obtain ⟨nb, no, nc', hnv, _, hnc1, hnc2, hnx⟩ := (ri_bkv hlr).ans (by omega)
      injection hnv with h1 _ h3
      subst h1; subst h3
      have cn := hnx j hlj
      have hkj := HKM.out j hlj
      have har := HAR6.out.off HOF.out (fun b hb e => by have := (HAR6.out.lt b hb).1; have := HSL.out.2.2.1; omega)
      obtain ⟨ca, _⟩ := har.cellF (bkv_at (atR ks out m) hkj)
      obtain ⟨cp, fp, _⟩ := HO.out.cellF (bkv_at (atK (atR ks out m) ks j) hlj)
      have c2 := HNB.out.c2
      have hp := HO.out.put (j := j) (by rw [bkv_len]; exact hlj) (.int .i64 (atR ks out m (ks j) : Int))
      rw [atK_step _ _ hlj] at hp
      have HP := Lib.hid hp
      have HNB9 := Lib.hid (HNB.out.off (Z := fun i => i = y) ((show Off (fun i => i = y) wr wr from Off.refl _ wr).setCell (p := ⟨y, j, none⟩) (.inr rfl) (.int .i64 (atR ks out m (ks j) : Int))).drew (fun e => by omega))
      have HOF9 := Lib.hid (HOF.out.setCell (p := ⟨y, j, none⟩) (.inl (by show w6.heap.size ≤ y; have := HY.out; omega)) (.int .i64 (atR ks out m (ks j) : Int))).drew
      obtain ⟨l, hl9⟩ : ∃ l, l = ks j := ⟨_, rfl⟩
      rw [← hl9] at cn hkj ca HP HNB9 HOF9
      obtain ⟨u, hu9⟩ : ∃ u, u = atR ks out m l := ⟨_, rfl⟩
      rw [← hu9] at ca HP HNB9 HOF9
      have hlI : (l : Int) < (m : Int) := by omega
      unfold maxLen at hnc2
      clear hlr hnx har hp hl9 hu9
      go_wp2_with fail
      go_region_law (fail)
      all_goals
        go_wp2_with fail
        exact ⟨⟨j + 1, by go_num, by omega, HP, HNB9, HOF9⟩, by simp [intOf]; omega⟩
    · have hje : m = j := by omega
      subst hje
      have hPR := HO.out
      rw [atK_all] at hPR
      have HPR := Lib.hid (ri_bkv hPR)
      have hPS : ∀ b, (Value.slice (some ⟨y, 0, none⟩) m m).ownBlock = some b → ¬ b = S := fun b hb e => by have := (hPR.lt b hb).1; omega
      have HPW := Lib.hid hPR
      have hTS : ∀ b, (Value.slice ta m tc).ownBlock = some b → ¬ b = S := fun b hb e => by have := HTO.out b hb; omega
      have HTR := Lib.hid (HTI6.out.off HOF.out hTS (fun b o c k e => hTS b (by rw [e]; rfl)))
      have HTS := Lib.hid hTS
      have HPS := Lib.hid hPS
      have TH2 := Lib.hid (through_any (thrE ks RN) (atR ks out m) m (.slice k2a K2 k2c) (.slice (some ⟨ab, 0, none⟩) m m) wr (RE.edn (HK26.out.off HOF.out (fun b hb e => by have := (HK26.out.lt b hb).1; have := HSL.out.2.1; omega))) (ri_bkv (HAR6.out.off HOF.out (fun b hb e => by have := (HAR6.out.lt b hb).1; have := HSL.out.2.2.1; omega))) (by rw [← HK2.out]; omega) HLT2.out (fun x => Nat.le_trans (atR_le _ _ _ _) (by rw [HOL.out]; omega)))
      have HBR := Lib.hid (HB6.out.trans (HOF.out.below (fun i hi => by show S ≤ i; have : i = S := hi; omega) (Nat.le_of_lt HSL.out.2.2.2)))
      obtain ⟨W0, hW0⟩ : ∃ W0, W0 = thrE (atR ks out m) (thrE ks RN) := ⟨_, rfl⟩
      rw [← hW0] at TH2
      have HW0 := Lib.hid hW0
      clear hPR hPS hTS hW0
      go_wp2_with fail
      refine TH2.out.mono ?_
      rintro e w8 ⟨wv, rfl, hw8, hb8⟩
      obtain ⟨K3, hK3⟩ : ∃ K3, K3 = W0.length := ⟨_, rfl⟩
      have hK39 : K3 ≤ 100000 := by
        rw [hK3, HW0.out]
        exact Nat.le_trans (thrE_len _ _) (by rw [← HK2.out]; exact hK29)
      rw [← hK3] at hw8
      obtain ⟨ba, bc, hwv⟩ := hw8.form
      subst hwv
      have HN8 := Lib.hid (HNB.out.below hb8)
      have HB8 := Lib.hid (HBR.out.trans (hb8.mono (Nat.le_of_lt HNB.out.lt)))
      have HW8 := Lib.hid hw8
      have HK3 := Lib.hid hK3
      have c3 := HN8.out.c3
      have f3 := HN8.out.f 3
      have hSr := HNB.out.lt
      have HO8 := Lib.hid (Off.of_below (Z := fun i => i = S) hb8)
      obtain ⟨w9, hw9⟩ : ∃ w9, w9 = w8.setCell ⟨S, 3, none⟩ (.slice ba K3 bc) := ⟨_, rfl⟩
      have hN9 := HN8.out.set3 (.slice ba K3 bc)
      rw [← hw9] at hN9
      have hO9 : Off (fun i => i = S) wr w9 := by rw [hw9]; exact HO8.out.setCell (p := ⟨S, 3, none⟩) (.inr rfl) _
      have hr9 : Row 2 wr.heap.size w9 (.slice ba K3 bc) K3 (evs (toI W0)) := by
        rw [hw9]
        exact hw8.setOther (p := ⟨S, 3, none⟩) (fun e => by have := (hw8.lt S e).1; omega) _
      have HN9 := Lib.hid hN9
      have HO9 := Lib.hid hO9
      have HR9 := Lib.hid hr9
      have HW9 := Lib.hid hw9
      have FIN : Hid (∀ (W : EdN) (v3 : Value) (wf : World), NewB S n (.slice ta m tc) (.slice (some ⟨y, 0, none⟩) m m) v3 wf → Off (fun i => i = S) wr wf → RE wf v3 (toI W) → W.Pairwise lexL → (∀ e, e ∈ W ↔ e ∈ W0) → ∃ p pl W, Ending.returned (.pointer (some ⟨S, 0, none⟩)) = .returned (.pointer (some ⟨p, 0, none⟩)) ∧ OrdO wf p n T pl W ∧ OrdS N ES T pl W ∧ Below S w wf) := Lib.hid (fun W v3 wf h1 h2 h3 h4 h5 => by
        have ht := HTR.out.off h2 HTS.out (fun b o c k e => HTS.out b (by rw [e]; rfl))
        have hp := HPR.out.off h2 HPS.out (fun b o c k e => HPS.out b (by rw [e]; rfl))
        have hks := HKS.out
        have hso := HSO.out
        have hw0 := HW0.out
        have hp2 : RI wf (.slice (some ⟨y, 0, none⟩) m m) (nl (plL T (fun i => atR ks out T.length (ks i)))) := by
          have e : ansL (fun i => atR ks out m (ks i)) m = plL T (fun i => atR ks out T.length (ks i)) := by unfold ansL plL; rw [HM.out]
          rw [← e]
          exact hp
        rw [HM.out] at hks hso hw0
        rw [HRN.out] at hks hso hw0
        rw [hw0] at h5
        refine ⟨S, _, W, rfl, ⟨h1.lt, h1.c0, ⟨_, h1.c1, ht⟩, ⟨_, h1.c2, hp2⟩, ⟨v3, h1.c3, h3⟩⟩, ord_made HTD.out hks hso h4 h5, HBR.out.trans (h2.below (fun i hi => by show S ≤ i; have : i = S := hi; omega) (Nat.le_of_lt hSr))⟩)
      clear hw8 hb8 hK3 hw9 hN9 hO9 hr9
      by_cases h0 : K3 = 0
      · subst h0
        have SF := Lib.hid (sortP_none ba bc w9)
        have CF := Lib.hid (compactP_none ba bc w9)
        have c3' := HN9.out.c3
        have f3' := HN9.out.f 3
        have hw0 : W0 = [] := List.length_eq_zero_iff.1 HK3.out.symm
        have HE0 := Lib.hid hw0
        clear hw0
        go_wp2_with fail
        rw [← HW9.out]
        refine SF.out.mono ?_
        rintro e w10 ⟨rfl, rfl⟩
        clear c3 f3
        go_wp2_with fail
        refine CF.out.mono ?_
        rintro e w11 ⟨rfl, rfl⟩
        go_wp2_with fail
        go_ret
        refine FIN.out [] (.slice ba 0 bc) _ (HN9.out.set3 _) (HO9.out.setCell (p := ⟨S, 3, none⟩) (.inr rfl) _) (.inl ⟨rfl, _, _, rfl⟩) .nil (fun e => by rw [HE0.out])
      · obtain ⟨b, hba⟩ : ∃ b, ba = some ⟨b, 0, none⟩ := by
          obtain ⟨_, ⟨h, hz⟩ | ⟨b', cap', h1, _⟩⟩ := HR9.out
          · exact absurd (by injection h) h0
          · injection h1 with h1
            exact ⟨b', h1⟩
        subst hba
        obtain ⟨hb1, hb2⟩ := HR9.out.lt b rfl
        have hfb : K3 ≤ bc ∧ bc ≤ maxLen := by
          obtain ⟨_, _, hfe, hf1, hf2⟩ := HR9.out.form'
          injection hfe with _ _ hfc
          rw [hfc]
          exact ⟨hf1, hf2⟩
        obtain ⟨hf1, hf2⟩ := hfb
        have hLl : (toI W0).length = K3 := by rw [HK3.out]; simp [toI]
        have SF := Lib.hid (sortP_any (S := wr.heap.size) (toI W0) w9 HR9.out hLl (by omega))
        have HF2 := Lib.hid hf2
        have HLL := Lib.hid hLl
        clear hf2 hLl
        go_wp2_with fail
        rw [← HW9.out]
        refine SF.out.mono ?_
        rintro e w10 ⟨rfl, M, hMp, hMs, hPA, ho10⟩
        have hN10 := HN9.out.off ho10 (fun e => by have : S = b := e; omega)
        have hO10 := HO9.out.trans' ho10 (fun i hi h => by have : i = b := h; omega)
        have hMl : M.length = K3 := by rw [hMp.length_eq]; exact HLL.out
        have CP := Lib.hid (compactP_any (cap := bc) M w10 hPA hMl (Nat.lt_of_lt_of_le hb2 ho10.size) hf1 HF2.out (by omega))
        have c3' := hN10.c3
        have f3' := hN10.f 3
        have HN10 := Lib.hid hN10
        have HO10 := Lib.hid hO10
        have HMP := Lib.hid hMp
        have HMS := Lib.hid hMs
        have HML := Lib.hid hMl
        clear hN10 hO10 hMp hMs hPA ho10 hMl c3 f3
        go_wp2_with fail
        refine CP.out.mono ?_
        rintro e w11 ⟨q, rfl, hre, ho11⟩
        have hN11 := HN10.out.off ho11 (fun e => by have : S = b := e; omega)
        have hO11 := HO10.out.trans' ho11 (fun i hi h => by have : i = b := h; omega)
        have c3'' := hN11.c3
        have f3'' := hN11.f 3
        have HN11 := Lib.hid hN11
        have HO11 := Lib.hid hO11
        have HRE := Lib.hid hre
        clear hN11 hO11 hre ho11 c3' f3'
        go_wp2_with fail
        go_ret
        obtain ⟨W, hW1, hW2, hW3⟩ := ways_made HMP.out HMS.out
        refine FIN.out W (.slice (some ⟨b, 0, none⟩) q bc) _ (HN11.out.set3 _) (HO11.out.setCell (p := ⟨S, 3, none⟩) (.inr rfl) _) (re_set (by rw [← hW1, HML.out]; exact HRE.out) (by omega) _) hW2 hW3
end Go.Proofs.YtfpepoebammeoaaGreat
