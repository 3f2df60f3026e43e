/- The contract of the reader's ops. -/
import Derived.Test.YtgjcblginkdinaaGreatDoorU28
set_option linter.unusedVariables false
namespace Go.Proofs.YtgjcblginkdinaaGreatDoor
open Go.ChangeShapes Go.WideShapes Go.ChangeAt Go.RowKit
open Go.Lib (itoa)

attribute [local go_sem ↓] Go.wp_at_zero Go.wp_at_succ

theorem xs_parts (T : Tm) : Tm.partss T.xs + 1 = T.parts := by obtain ⟨l, t, xs⟩ := T; rw [Tm.parts]; rfl
theorem xs_len (T : Tm) : T.xs.length ≤ T.parts := by have := xs_parts T; have := Tm.length_le_partss T.xs; omega
theorem parts_small {T : Tm} {m : Nat} (h : T.parts ≤ m) (hm : 1 ≤ m) (k : Nat) : ∀ x ∈ (rdParts T k).1, x.parts ≤ m := by
  unfold rdParts
  by_cases hk : T.xs.length = k
  · rw [if_pos hk]
    intro x hx
    have h1 : x.parts ≤ Tm.partss T.xs := Tm.parts_mem hx
    have h2 := xs_parts T
    omega
  · rw [if_neg hk]
    intro x hx
    rw [List.mem_replicate] at hx
    rw [hx.2]
    exact hm
theorem ok_xs {T : Tm} (h : T.ok = true) : ∀ x ∈ T.xs, x.ok = true := by
  obtain ⟨l, t, xs⟩ := T
  cases l with
  | true =>
    rw [Tm.ok_list] at h
    simp only [Bool.and_eq_true] at h
    exact Tm.oks_iff.1 h.2
  | false =>
    rw [Tm.ok_text] at h
    have : xs = [] := List.length_eq_zero_iff.1 (of_decide_eq_true h)
    subst this
    intro x hx; cases hx
theorem nth_mem {l : List Tm} {j : Nat} (h : j < l.length) : nth l j ∈ l := by
  unfold nth; rw [List.getD_eq_getElem?_getD, List.getElem?_eq_getElem h]; exact List.getElem_mem _

abbrev RoS (w : World) (Y : Nat → Prop) (b o : Nat) (l0 l1 l2 l3 : Bool) (t0 t1 t2 t3 : ByteArray) (s0 s1 s2 s3 : Value) (W : World) : Prop :=
  (C3 W b o (o + 1) (o + 2) l0 t0 s0 ∧ C3 W b (o + 3) (o + 4) (o + 5) l1 t1 s1 ∧ C3 W b (o + 6) (o + 7) (o + 8) l2 t2 s2 ∧ C3 W b (o + 9) (o + 10) (o + 11) l3 t3 s3) ∧ Off Y w W
theorem ro_call {w W W2 : World} {Y Y' : Nat → Prop} {b o : Nat} {l0 l1 l2 l3 : Bool} {t0 t1 t2 t3 : ByteArray} {s0 s1 s2 s3 : Value} (hy : ∀ i, Y' i → Y i) (hb : ¬ Y b) (ho : Off Y' W W2) (h : RoS w Y b o l0 l1 l2 l3 t0 t1 t2 t3 s0 s1 s2 s3 W) : RoS w Y b o l0 l1 l2 l3 t0 t1 t2 t3 s0 s1 s2 s3 W2 := by
  obtain ⟨⟨h0, h1, h2, h3⟩, h4⟩ := h
  have ho' := ho.mono hy
  exact ⟨⟨h0.off ho' hb, h1.off ho' hb, h2.off ho' hb, h3.off ho' hb⟩, h4.trans ho'⟩
theorem ro_alloc {w W : World} {Y : Nat → Prop} {b o : Nat} {l0 l1 l2 l3 : Bool} {t0 t1 t2 t3 : ByteArray} {s0 s1 s2 s3 : Value} (hb : ¬ Y b) (ob : Obj) (h : RoS w Y b o l0 l1 l2 l3 t0 t1 t2 t3 s0 s1 s2 s3 W) : RoS w Y b o l0 l1 l2 l3 t0 t1 t2 t3 s0 s1 s2 s3 (W.alloc ob) :=
  ro_call (fun i hi => hi) hb ((Off.refl Y W).alloc ob) h

def OpsP (R : Nat) (b : Bool) (T : Tm) (w : World) (e : Ending) (w' : World) : Prop :=
  ∃ v es, e = .returned v ∧ es.map (·.1) = (rdOps T).1 ∧ MadeO w.heap.size w' v es ∧ RdO R b (rdOps T).2 w w'

set_option maxHeartbeats 8000000 in
set_option maxRecDepth 100000 in
theorem pops_rd (Z : Nat → Prop) (R : Nat) (b : Bool) (T : Tm) (hok : T.ok = true) (hpar : T.parts ≤ 1000000) (a : Option Addr) (c : Nat) (w : World) (hr : RdI R b w) (hsl : SlL Z w (.slice a T.xs.length c) T.xs) (hzr : ¬ Z R) (hG : GM ≤ R) (he : Env w) :
    Calls Tryz.prog 84 #[.pointer (some ⟨R, 0, none⟩), fv T.l T.t (.slice a T.xs.length c)] w (OpsP R b T w) := by
  have hlt := hr.lt
  have hxok := ok_xs hok
  have hxp : ∀ x ∈ T.xs, x.parts ≤ 1000000 := fun x hx => by have h1 := Tm.parts_mem hx; have h2 := xs_parts T; omega
  have hn1 := Nat.le_trans (xs_len T) hpar
  obtain ⟨l, t, xs⟩ := T
  unfold OpsP rdOps
  simp only [Tm.l, Tm.t, Tm.xs] at hsl hn1 hxok hxp ⊢
  have hb1 : ∀ o, Below w.heap.size w (w.alloc o) := fun o => (Below.refl _ _).alloc (Nat.le_refl _) _
  obtain ⟨n, hn⟩ : ∃ n, n = xs.length := ⟨_, rfl⟩
  rw [← hn] at hsl hn1 ⊢
  have hc : ∀ wz, Below w.heap.size w wz → Calls Tryz.prog 119 #[.pointer (some ⟨R, 0, none⟩), fv l t (.slice a n c)] wz fun e w' => e = .returned (.slice a n c) ∧ RdO R b (!l) wz w' := fun wz hz => plist_any R b l t _ a n c wz rfl (hr.below hz)
  have hsl0 : SlL (fun i => Z i ∧ i < w.heap.size) w (.slice a n c) xs := hsl.mono fun i hi hz => ⟨hz, hi⟩
  have HC := Lib.hid hc
  have HB1 := Lib.hid hb1
  have HS := Lib.hid hsl0
  have HN := Lib.hid hn
  have HR := Lib.hid hr
  have HZR := Lib.hid hzr
  have HXO := Lib.hid hxok
  have HXP := Lib.hid hxp
  have HE := Lib.hid he
  clear hc hb1 hsl hsl0 hn hr hzr hxok hxp he hok hpar
  go_enter Tryz.func84, Tryz.ntmps84
  go_wp2_with fail
  refine (HC.out _ (HB1.out _)).mono ?_
  rintro e w0 ⟨rfl, ho⟩
  have hro : RdO R b (!l) w w0 := ⟨ho.1, (Off.of_below (HB1.out _)).trans ho.2⟩
  have HRO := Lib.hid hro
  clear ho hro
  go_wp2_with fail
  go_loopw [5, 13] (fun v i wr => ∃ (k : Nat) (es : List OE), k ≤ n ∧ i = .int .i64 (k : Nat) ∧ Hid (es.length = k) ∧ Hid (es.map (·.1) = (xs.take k).map fun x => (rdOp x).1) ∧ Hid (MadeO w.heap.size wr v es) ∧ Hid (RdO R b (!l || (xs.take k).any fun x => (rdOp x).2) w wr)) (fun _ i _ => n - (intOf i).toNat)
  case atStart => exact ⟨0, [], Nat.zero_le _, rfl, Lib.hid rfl, Lib.hid (by simp), Lib.hid (MadeO.nil _ _), Lib.hid (by simpa using HRO.out)⟩
  case round =>
    obtain ⟨k, es, hk, rfl, HEL, HMP, HMD, HO⟩ := hrel
    obtain ⟨va, vc, hv, _, _⟩ := HMD.out.row.form'
    rw [HEL.out] at hv
    subst hv
    have hszr : w.heap.size ≤ wr.heap.size := HO.out.2.size
    have hown : ∀ i, (Value.slice va k vc).ownBlock = some i → w.heap.size ≤ i ∧ i < wr.heap.size := fun i hi => HMD.out.row.lt i hi
    have HOWN := Lib.hid hown
    clear hown
    by_cases hlt2 : k < n
    · obtain ⟨x, hx⟩ : ∃ x, xs[k]? = some x := ⟨xs[k]'(by rw [← HN.out]; exact hlt2), by simp⟩
      have hxm := List.mem_of_getElem? hx
      have hsw := HS.out.off HO.out.2 (fun i hz e => HZR.out (e ▸ hz.1))
      have hsw' : SlL (fun i => Z i ∧ i < w.heap.size) wr (.slice a xs.length c) xs := by rw [← HN.out]; exact hsw
      obtain ⟨b0, o0, c0', ha0, _, _, hrow⟩ := hsw'.pos (by intro h; rw [h] at hx; cases hx)
      rw [← HN.out] at ha0
      injection ha0 with ha0 _ hc0
      subst ha0
      subst hc0
      rw [Tm.eta x] at hx
      obtain ⟨ax, cx, d0, d1, d2, d3, d4⟩ := hrow.2.2 k _ _ _ hx
      rw [← Tm.eta x] at hx
      have hri := HO.out.1
      obtain ⟨B0, hB0⟩ : ∃ B0, B0 = (b || (!l || (xs.take k).any fun x => (rdOp x).2)) := ⟨_, rfl⟩
      rw [← hB0] at hri
      have hcp : ∀ o, Calls Tryz.prog 81 #[.pointer (some ⟨R, 0, none⟩), fv x.l x.t (.slice ax x.xs.length cx), .int .i64 4] (wr.alloc o) (PartsP (fun i => (Z i ∧ i < w.heap.size) ∨ wr.heap.size ≤ i) R B0 x 4 (wr.alloc o)) := fun o =>
        pparts_any _ R B0 x 4 (by omega) ax cx (wr.alloc o) (hri.below ((Below.refl _ _).alloc (Nat.le_refl _) _)) ((d4.mono fun i _ hz => .inl hz).alloc o) (fun h => by rcases h with h | h; exact HZR.out h.1; omega) (fun i hi => .inr (by simp at hi; omega))
      have hps := parts_ok (HXO.out x hxm) 4
      have hpp := parts_small (HXP.out x hxm) (by omega) 4
      have hpl := parts_len x 4
      have hop : rdOp x = (⟨(rdNum (nth (rdParts x 4).1 0)).1, (rdRef (nth (rdParts x 4).1 1)).1, (rdRef (nth (rdParts x 4).1 2)).1, (rdTexts (nth (rdParts x 4).1 3)).1⟩, (rdParts x 4).2 || (rdNum (nth (rdParts x 4).1 0)).2 || (rdRef (nth (rdParts x 4).1 1)).2 || (rdRef (nth (rdParts x 4).1 2)).2 || (rdTexts (nth (rdParts x 4).1 3)).2) := rfl
      obtain ⟨ps, hpse⟩ : ∃ ps, ps = (rdParts x 4).1 := ⟨_, rfl⟩
      obtain ⟨pb, hpb⟩ : ∃ pb, pb = (rdParts x 4).2 := ⟨_, rfl⟩
      rw [← hpse, ← hpb] at hop
      rw [← hpse] at hps hpp hpl
      obtain ⟨lx, hlx⟩ : ∃ v, v = x.l := ⟨_, rfl⟩
      obtain ⟨tx', htx⟩ : ∃ v, v = x.t := ⟨_, rfl⟩
      obtain ⟨nx, hnx⟩ : ∃ v, v = x.xs.length := ⟨_, rfl⟩
      rw [← hlx, ← htx, ← hnx] at hcp
      rw [← hlx] at d0
      rw [← htx] at d1
      rw [← hnx] at d2
      have HX := Lib.hid hx
      have HCP := Lib.hid hcp
      have HPS := Lib.hid hps
      have HPP := Lib.hid hpp
      have HPL := Lib.hid hpl
      have HOP := Lib.hid hop
      have HPSE := Lib.hid hpse
      have HPB := Lib.hid hpb
      have HB0 := Lib.hid hB0
      clear hx hsw hsw' hrow d3 d4 hri hB0 hcp hps hpp hpl hop hpse hpb hlx htx hnx hxm
      go_wp2_with fail
      refine (HCP.out _).mono ?_
      rintro e w1 ⟨a1, c1, rfl, -, hs1, hi1, ho1⟩
      rw [← HPSE.out] at hs1
      rw [← HPB.out] at hi1
      obtain ⟨b1, o1, c1', ha1, _, _, hrow⟩ := hs1.pos (by intro h; have := HPL.out; rw [h] at this; cases this)
      rw [HPL.out] at ha1
      injection ha1 with ha1 _ hc1
      subst ha1
      subst hc1
      obtain ⟨e0, f0, q00, q01, q02, q03, q04⟩ := hrow.one (j := 0) (by rw [HPL.out]; omega)
      obtain ⟨e1, f1, q10, q11, q12, q13, q14⟩ := hrow.one (j := 1) (by rw [HPL.out]; omega)
      obtain ⟨e2, f2, q20, q21, q22, q23, q24⟩ := hrow.one (j := 2) (by rw [HPL.out]; omega)
      obtain ⟨e3, f3, q30, q31, q32, q33, q34⟩ := hrow.one (j := 3) (by rw [HPL.out]; omega)
      rw [Nat.zero_mul, Nat.add_zero] at q00 q01 q02
      rw [Nat.add_assoc] at q11 q12 q21 q22 q31 q32
      have hbz := hrow.1
      have hoffw : Off (fun i => i = R) wr w1 := ((Off.refl (fun i => i = R) wr).alloc _).trans ho1
      have hbR : ¬ (b1 = R ∨ (Value.slice va k vc).ownBlock = some b1) := fun h => by
        rcases h with h | h
        · subst h
          rcases hbz with h | h
          · exact HZR.out h.1
          · omega
        · have := HOWN.out b1 h
          rcases hbz with h | h
          · have := h.2; omega
          · omega
      have hzy : ∀ i, (Z i ∧ i < w.heap.size) ∨ wr.heap.size ≤ i → ¬ (i = R ∨ (Value.slice va k vc).ownBlock = some i) := fun i hi h => by
        rcases h with h | h
        · subst h
          rcases hi with h | h
          · exact HZR.out h.1
          · omega
        · have := HOWN.out i h
          rcases hi with h | h
          · have := h.2; omega
          · omega
      have hE1 : Env w1 := (HE.out.off HO.out.2 (fun i hi => by rw [hi]; exact hG)).off hoffw (fun i hi => by rw [hi]; exact hG)
      have hyG : ∀ i, (i = R ∨ (Value.slice va k vc).ownBlock = some i) → GM ≤ i := fun i hi => by
        rcases hi with h | h
        · rw [h]; exact hG
        · have := HOWN.out i h; omega
      have hm : ∀ j, j < 4 → nth ps j ∈ ps := fun j hj => nth_mem (by rw [HPL.out]; exact hj)
      obtain ⟨K, hK⟩ : ∃ v, v = (rdNum (nth ps 0)).1 := ⟨_, rfl⟩
      obtain ⟨k0, hk0⟩ : ∃ v, v = (rdNum (nth ps 0)).2 := ⟨_, rfl⟩
      obtain ⟨x1, hx1⟩ : ∃ v, v = (rdRef (nth ps 1)).1.at_ := ⟨_, rfl⟩
      obtain ⟨y1, hy1⟩ : ∃ v, v = (rdRef (nth ps 1)).1.n := ⟨_, rfl⟩
      obtain ⟨k1, hk1⟩ : ∃ v, v = (rdRef (nth ps 1)).2 := ⟨_, rfl⟩
      obtain ⟨x2, hx2⟩ : ∃ v, v = (rdRef (nth ps 2)).1.at_ := ⟨_, rfl⟩
      obtain ⟨y2, hy2⟩ : ∃ v, v = (rdRef (nth ps 2)).1.n := ⟨_, rfl⟩
      obtain ⟨k2, hk2⟩ : ∃ v, v = (rdRef (nth ps 2)).2 := ⟨_, rfl⟩
      obtain ⟨ls, hls⟩ : ∃ v, v = (rdTexts (nth ps 3)).1 := ⟨_, rfl⟩
      obtain ⟨k3, hk3⟩ : ∃ v, v = (rdTexts (nth ps 3)).2 := ⟨_, rfl⟩
      obtain ⟨n3, hn3⟩ : ∃ v, v = (nth ps 3).xs.length := ⟨_, rfl⟩
      have hopx : rdOp x = (⟨K, ⟨x1, y1⟩, ⟨x2, y2⟩, ls⟩, pb || k0 || k1 || k2 || k3) := by rw [HOP.out, hK, hk0, hx1, hy1, hk1, hx2, hy2, hk2, hls, hk3]
      have hn3l : ls.length = n3 := by rw [hls, hn3]; unfold rdTexts; rw [List.length_map]
      have c0 : ∀ W bb, RdI R bb W → Off (fun i => i = R ∨ (Value.slice va k vc).ownBlock = some i) w1 W → Calls Tryz.prog 120 #[.pointer (some ⟨R, 0, none⟩), fv (nth ps 0).l (nth ps 0).t (.slice e0 (nth ps 0).xs.length f0)] W fun e w' => e = .returned (.int .i64 K) ∧ RdO R bb k0 W w' := fun W bb hW hO => by
        rw [hK, hk0]
        exact pnumber_any R bb (nth ps 0) (HPS.out _ (hm 0 (by omega))) q03 e0 f0 W hW (hE1.off hO hyG).sents (hE1.off hO hyG).tab
      have c1 : ∀ W bb, RdI R bb W → Off (fun i => i = R ∨ (Value.slice va k vc).ownBlock = some i) w1 W → Calls Tryz.prog 121 #[.pointer (some ⟨R, 0, none⟩), fv (nth ps 1).l (nth ps 1).t (.slice e1 (nth ps 1).xs.length f1)] W fun e w' => e = .returned (.agg #[.int .i64 x1, .int .i64 y1]) ∧ RdO R bb k1 W w' := fun W bb hW hO => by
        rw [hx1, hy1, hk1]
        exact pref_rd _ R bb (nth ps 1) (HPS.out _ (hm 1 (by omega))) e1 f1 W hW (q14.off hO hzy) (fun h => hzy R h (.inl rfl)) (fun i hi => .inr (by have := hO.size; have := hoffw.size; omega)) hG (hE1.off hO hyG)
      have c2 : ∀ W bb, RdI R bb W → Off (fun i => i = R ∨ (Value.slice va k vc).ownBlock = some i) w1 W → Calls Tryz.prog 121 #[.pointer (some ⟨R, 0, none⟩), fv (nth ps 2).l (nth ps 2).t (.slice e2 (nth ps 2).xs.length f2)] W fun e w' => e = .returned (.agg #[.int .i64 x2, .int .i64 y2]) ∧ RdO R bb k2 W w' := fun W bb hW hO => by
        rw [hx2, hy2, hk2]
        exact pref_rd _ R bb (nth ps 2) (HPS.out _ (hm 2 (by omega))) e2 f2 W hW (q24.off hO hzy) (fun h => hzy R h (.inl rfl)) (fun i hi => .inr (by have := hO.size; have := hoffw.size; omega)) hG (hE1.off hO hyG)
      have c3 : ∀ W bb, RdI R bb W → Off (fun i => i = R ∨ (Value.slice va k vc).ownBlock = some i) w1 W → Calls Tryz.prog 83 #[.pointer (some ⟨R, 0, none⟩), fv (nth ps 3).l (nth ps 3).t (.slice e3 n3 f3)] W fun e w' => ∃ v, e = .returned v ∧ Row 1 W.heap.size w' v n3 (ls.map .string) ∧ RdO R bb k3 W w' := fun W bb hW hO => by
        rw [hls, hk3, hn3]
        exact ptexts_rd _ R bb (nth ps 3) (Nat.le_trans (xs_len _) (HPP.out _ (hm 3 (by omega)))) e3 f3 W hW (q34.off hO hzy) (fun h => hzy R h (.inl rfl))
      rw [← hn3] at q32
      have hst : RoS w1 (fun i => i = R ∨ (Value.slice va k vc).ownBlock = some i) b1 o1 (nth ps 0).l (nth ps 1).l (nth ps 2).l (nth ps 3).l (nth ps 0).t (nth ps 1).t (nth ps 2).t (nth ps 3).t (.slice e0 (nth ps 0).xs.length f0) (.slice e1 (nth ps 1).xs.length f1) (.slice e2 (nth ps 2).xs.length f2) (.slice e3 n3 f3) w1.drew :=
        ⟨⟨⟨q00, q01, q02⟩, ⟨q10, q11, q12⟩, ⟨q20, q21, q22⟩, q30, q31, q32⟩, (Off.refl _ _).drew⟩
      have hid : RdI R (B0 || pb) w1.drew := ⟨hi1.cell, hi1.free⟩
      have hy1' : ∀ i, i = R → (i = R ∨ (Value.slice va k vc).ownBlock = some i) := fun i h => .inl h
      have hy2' : ∀ i, (Value.slice va k vc).ownBlock = some i → (i = R ∨ (Value.slice va k vc).ownBlock = some i) := fun i h => .inr h
      have HYA := Lib.hid hy1'
      have HYB := Lib.hid hy2'
      have HBR := Lib.hid hbR
      have HST := Lib.hid hst
      have HID := Lib.hid hid
      have HI1 := Lib.hid hi1
      have HOW := Lib.hid hoffw
      have HOPX := Lib.hid hopx
      have HN3 := Lib.hid hn3l
      have hsz1 : wr.heap.size ≤ w1.heap.size := hoffw.size
      obtain ⟨l0, hl0⟩ : ∃ v, v = (nth ps 0).l := ⟨_, rfl⟩
      obtain ⟨l1, hl1⟩ : ∃ v, v = (nth ps 1).l := ⟨_, rfl⟩
      obtain ⟨l2, hl2⟩ : ∃ v, v = (nth ps 2).l := ⟨_, rfl⟩
      obtain ⟨l3, hl3⟩ : ∃ v, v = (nth ps 3).l := ⟨_, rfl⟩
      obtain ⟨t0, ht0⟩ : ∃ v, v = (nth ps 0).t := ⟨_, rfl⟩
      obtain ⟨t1, ht1⟩ : ∃ v, v = (nth ps 1).t := ⟨_, rfl⟩
      obtain ⟨t2, ht2⟩ : ∃ v, v = (nth ps 2).t := ⟨_, rfl⟩
      obtain ⟨t3, ht3⟩ : ∃ v, v = (nth ps 3).t := ⟨_, rfl⟩
      obtain ⟨n0, hn0⟩ : ∃ v, v = (nth ps 0).xs.length := ⟨_, rfl⟩
      obtain ⟨n1, hn1⟩ : ∃ v, v = (nth ps 1).xs.length := ⟨_, rfl⟩
      obtain ⟨n2, hn2⟩ : ∃ v, v = (nth ps 2).xs.length := ⟨_, rfl⟩
      rw [← hl0, ← hl1, ← hl2, ← hl3, ← ht0, ← ht1, ← ht2, ← ht3, ← hn0, ← hn1, ← hn2] at HST
      rw [← hl0, ← ht0, ← hn0] at c0
      rw [← hl1, ← ht1, ← hn1] at c1
      rw [← hl2, ← ht2, ← hn2] at c2
      rw [← hl3, ← ht3] at c3
      have C0 := Lib.hid c0
      have C1 := Lib.hid c1
      have C2 := Lib.hid c2
      have C3' := Lib.hid c3
      clear hy1' hy2' hbR hst hid hi1 hoffw hopx hn3l hl0 hl1 hl2 hl3 ht0 ht1 ht2 ht3 hn0 hn1 hn2 c0 c1 c2 c3 q00 q01 q02 q03 q04 q10 q11 q12 q13 q14 q20 q21 q22 q23 q24 q30 q31 q32 q33 q34 hs1 ho1 hrow hbz hzy hE1 hyG hm hK hk0 hx1 hy1 hk1 hx2 hy2 hk2 hls hk3 hn3
      go_wp2_with fail
      go_region_held3 (fun W => ((W.cell? ⟨b1, o1, none⟩ = some (.bool l0) ∧ W.cell? ⟨b1, o1 + 1, none⟩ = some (.string t0) ∧ W.cell? ⟨b1, o1 + 2, none⟩ = some (.slice e0 n0 f0)) ∧ (W.cell? ⟨b1, o1 + 3, none⟩ = some (.bool l1) ∧ W.cell? ⟨b1, o1 + 4, none⟩ = some (.string t1) ∧ W.cell? ⟨b1, o1 + 5, none⟩ = some (.slice e1 n1 f1)) ∧ (W.cell? ⟨b1, o1 + 6, none⟩ = some (.bool l2) ∧ W.cell? ⟨b1, o1 + 7, none⟩ = some (.string t2) ∧ W.cell? ⟨b1, o1 + 8, none⟩ = some (.slice e2 n2 f2)) ∧ W.cell? ⟨b1, o1 + 9, none⟩ = some (.bool l3) ∧ W.cell? ⟨b1, o1 + 10, none⟩ = some (.string t3) ∧ W.cell? ⟨b1, o1 + 11, none⟩ = some (.slice e3 n3 f3)) ∧ Off (fun i => i = R ∨ (Value.slice va k vc).ownBlock = some i) w1 W)
        (first | with_reducible exact ro_call HYB.out HBR.out ho7 (by assumption) | with_reducible exact ro_call HYA.out HBR.out ho5 (by assumption) | with_reducible exact ro_call HYA.out HBR.out ho4 (by assumption) | with_reducible exact ro_call HYA.out HBR.out ho3 (by assumption) | with_reducible exact ro_call HYA.out HBR.out ho2 (by assumption) | with_reducible exact ro_alloc HBR.out _ (by assumption) | with_reducible exact HST.out)
        (first
          | (go_at_call 120; have hq : RoS w1 (fun i => i = R ∨ (Value.slice va k vc).ownBlock = some i) b1 o1 l0 l1 l2 l3 t0 t1 t2 t3 (.slice e0 n0 f0) (.slice e1 n1 f1) (.slice e2 n2 f2) (.slice e3 n3 f3) _ := (by assumption); (with_reducible refine (C0.out _ (B0 || pb) HID.out hq.2).mono ?_); rintro e w2 ⟨rfl, hi2, ho2⟩; clear hq)
          | (go_at_call 121; have hq : RoS w1 (fun i => i = R ∨ (Value.slice va k vc).ownBlock = some i) b1 o1 l0 l1 l2 l3 t0 t1 t2 t3 (.slice e0 n0 f0) (.slice e1 n1 f1) (.slice e2 n2 f2) (.slice e3 n3 f3) _ := (by assumption); (with_reducible refine (C1.out _ (B0 || pb || k0) hi2 hq.2).mono ?_); rintro e w3 ⟨rfl, hi3, ho3⟩; clear hq)
          | (go_at_call 121; have hq : RoS w1 (fun i => i = R ∨ (Value.slice va k vc).ownBlock = some i) b1 o1 l0 l1 l2 l3 t0 t1 t2 t3 (.slice e0 n0 f0) (.slice e1 n1 f1) (.slice e2 n2 f2) (.slice e3 n3 f3) _ := (by assumption); (with_reducible refine (C2.out _ (B0 || pb || k0 || k1) hi3 hq.2).mono ?_); rintro e w4 ⟨rfl, hi4, ho4⟩; clear hq)
          | (go_at_call 83; have hq : RoS w1 (fun i => i = R ∨ (Value.slice va k vc).ownBlock = some i) b1 o1 l0 l1 l2 l3 t0 t1 t2 t3 (.slice e0 n0 f0) (.slice e1 n1 f1) (.slice e2 n2 f2) (.slice e3 n3 f3) _ := (by assumption); (with_reducible refine (C3'.out _ (B0 || pb || k0 || k1 || k2) hi4 hq.2).mono ?_); rintro e w5 ⟨v5, rfl, hrow5, hi5, ho5⟩; obtain ⟨a5, c5, hv5⟩ := hrow5.form; subst hv5; clear hq)
          | (have hch : Off (fun i => i = R) wr w5 := HOW.out.trans ((((((Off.refl (fun i => i = R) w1).drew).trans ho2).trans ho3).trans ho4).trans ho5); (refine step_append_row rfl (.tmp 20) (.tmp 42) 23 23 rfl 6 56 (.agg #[.int .i64 0, .int .i64 0, .int .i64 0, .int .i64 0, .int .i64 0, .slice none 0 0]) 64 Tryz.underlying23 Tryz.infoOp rfl w.heap.size (.slice va k vc) k (ocells es) (by simp [Act.eval]) (by have := (HMD.out.off hch (fun i hi => by omega)).row.alloc (.cells #[.int .i64 K, .int .i64 x1, .int .i64 y1, .int .i64 x2, .int .i64 y2, .slice a5 n3 c5] 56); rw [HEL.out] at this; exact this) (.slice (some ⟨w5.heap.size, 0, none⟩) 1 1) (by simp [Act.eval]) 1 [.int .i64 K, .int .i64 x1, .int .i64 y1, .int .i64 x2, .int .i64 y2, .slice a5 n3 c5] (by exact src_new Tryz.underlying23 _ _ _ _ rfl (by intro u hu; simp only [List.mem_cons, List.not_mem_nil, or_false] at hu; rcases hu with rfl | rfl | rfl | rfl | rfl | rfl <;> rfl)) (by have := hch.size; simp; omega) (by omega) (by decide) ?_); intro v7 w7 hr7 ho7 hw7; obtain ⟨a7, c7, hv7⟩ := hr7.form; subst hv7; have HR7 := Lib.hid hr7; have HW7 := Lib.hid hw7; clear hr7 hw7))
      rename_i hHeld
      have hsz4 : wr.heap.size ≤ w4.heap.size := by have h2 := ho2.size; have h3 := ho3.size; have h4 := ho4.size; simp at h2; omega
      have hal : Off (fun _ => False) w5 (w5.alloc (.cells #[.int .i64 K, .int .i64 x1, .int .i64 y1, .int .i64 x2, .int .i64 y2, .slice a5 n3 c5] 56)) := (Off.refl _ _).alloc _
      have hmd5 := (HMD.out.off hch (fun i hi => by omega)).off hal (fun i hi => hi.elim)
      have hrz := (row_readsZ (Z := fun i => w.heap.size ≤ i ∧ (Value.slice va k vc).ownBlock ≠ some i) hrow5 (fun i hi => ⟨by omega, fun e => by have := HOWN.out i e; omega⟩)).off (Z' := fun i => w.heap.size ≤ i ∧ (Value.slice va k vc).ownBlock ≠ some i) hal (fun i _ h => ⟨fun h => h.elim, h⟩)
      have hpush := hmd5.push (x := ⟨K, ⟨x1, y1⟩, ⟨x2, y2⟩, ls⟩) hrz (by rw [HEL.out]; exact HR7.out) ho7 HW7.out
      have hri7 : RdI R (B0 || pb || k0 || k1 || k2 || k3) w7 := by
        have h5 := hi5.below ((Below.refl _ w5).alloc (Nat.le_refl _) (.cells #[.int .i64 K, .int .i64 x1, .int .i64 y1, .int .i64 x2, .int .i64 y2, .slice a5 n3 c5] 56))
        have hne : ¬ (Value.slice va k vc).ownBlock = some R := fun e => by have := HOWN.out R e; omega
        exact ⟨(ho7.cell (p := ⟨R, 0, none⟩) h5.lt hne).trans h5.cell, (ho7.frozen (p := ⟨R, 0, none⟩) h5.lt hne).trans h5.free⟩
      have hro7 : RdO R b (!l || (xs.take (k + 1)).any fun x => (rdOp x).2) w w7 := by
        have e : (b || (!l || (xs.take (k + 1)).any fun x => (rdOp x).2)) = (B0 || pb || k0 || k1 || k2 || k3) := by
          rw [take_snoc HX.out, List.any_append, HB0.out]
          simp only [List.any_cons, List.any_nil, Bool.or_false, HOPX.out, Bool.or_assoc]
        refine ⟨by rw [e]; exact hri7, ?_⟩
        have h1 : Off (fun i => i = R) w w5 := HO.out.2.trans hch
        exact (h1.alloc _).trans' ho7 (fun i hi e => by have := HOWN.out i e; omega)
      have hmp : (es ++ [((⟨K, ⟨x1, y1⟩, ⟨x2, y2⟩, ls⟩ : Opp), Value.slice a5 n3 c5)]).map (·.1) = (xs.take (k + 1)).map fun x => (rdOp x).1 := by
        rw [List.map_append, HMP.out, take_snoc HX.out, List.map_append]
        simp only [List.map_cons, List.map_nil, HOPX.out]
      have HPU := Lib.hid hpush
      have HRO7 := Lib.hid hro7
      have HMP7 := Lib.hid hmp
      clear hHeld hpush hro7 hmp hri7 hrz hmd5 hal hch hi2 ho2 hi3 ho3 hi4 ho4 hi5 ho5 hrow5 ho7
      go_wp2_with fail
      exact ⟨⟨k + 1, _, by omega, by go_num, Lib.hid (by rw [List.length_append, HEL.out]; rfl), Lib.hid HMP7.out, Lib.hid HPU.out, Lib.hid HRO7.out⟩, by simp [intOf]; omega⟩
    · have hke : n ≤ k := by omega
      have hkn : k = n := by omega
      have htk : xs.take k = xs := List.take_of_length_le (by rw [← HN.out]; exact hke)
      have h1 := HMP.out
      have h2 := HO.out
      rw [htk] at h1 h2
      have H1 := Lib.hid h1
      have H2 := Lib.hid h2
      clear h1 h2 htk hke HMP HO
      go_wp2
      go_ret
      exact ⟨_, es, rfl, H1.out, HMD.out, H2.out⟩
end Go.Proofs.YtgjcblginkdinaaGreatDoor
