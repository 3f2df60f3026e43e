/- The contract of the reader's patch. -/
import Derived.Test.YtgjcblginkdinaaGreatDoorU42
set_option linter.unusedVariables false
set_option linter.unusedSimpArgs false
namespace Go.Proofs.YtgjcblginkdinaaGreatDoor
open Go.ChangeShapes Go.WideShapes Go.ChangeAt Go.RowKit
open Go.Lib (itoa)

attribute [local go_sem ↓] Go.wp_at_zero Go.wp_at_succ

abbrev RpS (w : World) (R H b o : Nat) (l1 l2 l3 : Bool) (t1 t2 t3 : ByteArray) (s1 s2 s3 : Value) (W : World) : Prop :=
  (C3 W b (o + 3) (o + 4) (o + 5) l1 t1 s1 ∧ C3 W b (o + 6) (o + 7) (o + 8) l2 t2 s2 ∧ C3 W b (o + 9) (o + 10) (o + 11) l3 t3 s3) ∧ (b ≠ R ∧ b ≠ H ∧ R ≠ H ∧ H < W.heap.size) ∧ Off (fun i => i = R ∨ i = H) w W ∧
  (W.cell? ⟨H, 0, none⟩ = some (cellAt W ⟨H, 0, none⟩) ∧ W.cell? ⟨H, 1, none⟩ = some (cellAt W ⟨H, 1, none⟩) ∧ W.cell? ⟨H, 2, none⟩ = some (cellAt W ⟨H, 2, none⟩)) ∧ W.frozen? ⟨H, 0, none⟩ = false ∧ W.frozen? ⟨H, 1, none⟩ = false ∧ W.frozen? ⟨H, 2, none⟩ = false
theorem rp_call {w W W2 : World} {R H b o : Nat} {l1 l2 l3 : Bool} {t1 t2 t3 : ByteArray} {s1 s2 s3 : Value} (ho : Off (fun i => i = R) W W2) (h : RpS w R H b o l1 l2 l3 t1 t2 t3 s1 s2 s3 W) : RpS w R H b o l1 l2 l3 t1 t2 t3 s1 s2 s3 W2 := by
  obtain ⟨⟨h1, h2, h2'⟩, ⟨h3, h4, h5, h6⟩, h7, ⟨h8, h9, h9'⟩, h10, h11, h12⟩ := h
  have c : ∀ j, W2.cell? ⟨H, j, none⟩ = W.cell? ⟨H, j, none⟩ := fun j => ho.cell (p := ⟨H, j, none⟩) h6 (fun e => h5 e.symm)
  have f : ∀ j, W2.frozen? ⟨H, j, none⟩ = W.frozen? ⟨H, j, none⟩ := fun j => ho.frozen (p := ⟨H, j, none⟩) h6 (fun e => h5 e.symm)
  exact ⟨⟨h1.off ho h3, h2.off ho h3, h2'.off ho h3⟩, ⟨h3, h4, h5, Nat.lt_of_lt_of_le h6 ho.size⟩, h7.trans (ho.mono fun i hi => .inl hi), ⟨cellAt_of (by rw [c]; exact of_cellAt h8), cellAt_of (by rw [c]; exact of_cellAt h9), cellAt_of (by rw [c]; exact of_cellAt h9')⟩, by rw [f]; exact h10, by rw [f]; exact h11, by rw [f]; exact h12⟩
theorem rp_set {w W : World} {R H b o : Nat} {l1 l2 l3 : Bool} {t1 t2 t3 : ByteArray} {s1 s2 s3 : Value} (h : RpS w R H b o l1 l2 l3 t1 t2 t3 s1 s2 s3 W) (u0 u1 u2 : Value) : RpS w R H b o l1 l2 l3 t1 t2 t3 s1 s2 s3 (((W.setCell ⟨H, 0, none⟩ u0).setCell ⟨H, 1, none⟩ u1).setCell ⟨H, 2, none⟩ u2) := by
  obtain ⟨⟨h1, h2, h2'⟩, ⟨h3, h4, h5, h6⟩, h7, ⟨h8, h9, h9'⟩, h10, h11, h12⟩ := h
  have ho : Off (fun i => i = H) W (((W.setCell ⟨H, 0, none⟩ u0).setCell ⟨H, 1, none⟩ u1).setCell ⟨H, 2, none⟩ u2) := Off.setCell (Z := fun i => i = H) (Off.setCell (Z := fun i => i = H) (Off.setCell (Z := fun i => i = H) (Off.refl _ _) (p := ⟨H, 0, none⟩) (.inr rfl) _) (p := ⟨H, 1, none⟩) (.inr rfl) _) (p := ⟨H, 2, none⟩) (.inr rfl) _
  exact ⟨⟨h1.off ho h4, h2.off ho h4, h2'.off ho h4⟩, ⟨h3, h4, h5, by simpa [World.setCell] using h6⟩, h7.trans (ho.mono fun i hi => .inr hi), ⟨cellAt_of (cellAt_set (cellAt_set (cellAt_set (of_cellAt h8)))), cellAt_of (cellAt_set (cellAt_set (cellAt_set (of_cellAt h9)))), cellAt_of (cellAt_set (cellAt_set (cellAt_set (of_cellAt h9'))))⟩,
    by rw [World.frozen?_setCell, World.frozen?_setCell, World.frozen?_setCell]; exact h10, by rw [World.frozen?_setCell, World.frozen?_setCell, World.frozen?_setCell]; exact h11, by rw [World.frozen?_setCell, World.frozen?_setCell, World.frozen?_setCell]; exact h12⟩

theorem head_list : headB.toList = [116, 97, 109, 98, 111, 117, 114] := by rw [ByteArray.toList_eq]; rfl

def PatP (R : Nat) (b : Bool) (T : Tm) (w : World) (e : Ending) (w' : World) : Prop :=
  ∃ dv ov, e = .returned (ptV (rdPt T).1.note dv ov) ∧ (∀ wF, Off (fun i => i < w.heap.size) w' wF → Reads wF dv (rdPt T).1.deps ∧ OReads wF ov (rdPt T).1.ops) ∧ RdO R b (rdPt T).2 w w'

theorem Row.readsAt {B n : Nat} {Y : Nat → Prop} {w w' : World} {v : Value} {xs : Lb} (h : Row 1 B w v n (xs.map .string)) (ho : Off Y w w') (hy : ∀ i, Y i → i < B) : Reads w' v xs :=
  row_reads (h.off ho fun g hg e => by have := hy g e; have := (h.lt g hg).1; omega)

set_option maxHeartbeats 8000000 in
set_option maxRecDepth 100000 in
theorem ppatch_rd (Z : Nat → Prop) (R : Nat) (b : Bool) (T : Tm) (hok : T.ok = true) (hpar : T.parts ≤ 1000000) (a : Option Addr) (c : Nat) (w : World) (hr : RdI R b w) (hsl : SlL Z w (.slice a T.xs.length c) T.xs) (hzr : ¬ Z R) (hzn : ∀ i, w.heap.size ≤ i → Z i) (hG : GM ≤ R) (he : Env w) :
    Calls Tryz.prog 40 #[.pointer (some ⟨R, 0, none⟩), fv T.l T.t (.slice a T.xs.length c)] w (PatP R b T w) := by
  have hlt := hr.lt
  have cP : ∀ wz, Below w.heap.size w wz → (∀ i, wz.heap.size ≤ i → Z i ∧ i ≠ w.heap.size ∧ i ≠ w.heap.size + 1) → Calls Tryz.prog 81 #[.pointer (some ⟨R, 0, none⟩), fv T.l T.t (.slice a T.xs.length c), .int .i64 4] wz (PartsP (fun i => Z i ∧ i ≠ w.heap.size ∧ i ≠ w.heap.size + 1) R b T 4 wz) := fun wz hz hn =>
    pparts_any _ R b T 4 (by omega) a c wz (hr.below hz) ((hsl.mono (Z' := fun i => Z i ∧ i ≠ w.heap.size ∧ i ≠ w.heap.size + 1) fun i hi hz => ⟨hz, by omega, by omega⟩).keep hz) (fun h => hzr h.1) hn
  have hps := parts_ok hok 4
  have hpp := parts_small hpar (by omega) 4
  have hpl := parts_len T 4
  have hpt : rdPt T = (⟨(nth (rdParts T 4).1 1).t, (rdTexts (nth (rdParts T 4).1 2)).1, (rdOps (nth (rdParts T 4).1 3)).1⟩,
    (rdParts T 4).2 || (nth (rdParts T 4).1 0).l || !decide ((nth (rdParts T 4).1 0).t = headB) || (nth (rdParts T 4).1 1).l || (rdTexts (nth (rdParts T 4).1 2)).2 || (rdOps (nth (rdParts T 4).1 3)).2) := rfl
  obtain ⟨ps, hpse⟩ : ∃ ps, ps = (rdParts T 4).1 := ⟨_, rfl⟩
  obtain ⟨pb, hpb⟩ : ∃ pb, pb = (rdParts T 4).2 := ⟨_, rfl⟩
  rw [← hpse, ← hpb] at hpt
  rw [← hpse] at hps hpp hpl
  obtain ⟨l, hl⟩ : ∃ l, l = T.l := ⟨_, rfl⟩
  obtain ⟨t, htt⟩ : ∃ t, t = T.t := ⟨_, rfl⟩
  obtain ⟨n, hn⟩ : ∃ n, n = T.xs.length := ⟨_, rfl⟩
  rw [← hl, ← htt, ← hn] at cP
  rw [← hl, ← htt, ← hn]
  have CP := Lib.hid cP
  have HPS := Lib.hid hps
  have HPP := Lib.hid hpp
  have HPL := Lib.hid hpl
  have HPT := Lib.hid hpt
  have HPSE := Lib.hid hpse
  have HPB := Lib.hid hpb
  have HE := Lib.hid he
  have HR := Lib.hid hr
  have HZR := Lib.hid hzr
  have HZN := Lib.hid hzn
  clear cP hps hpp hpl hpt hpse hpb he hr hzr hzn hsl hl htt hn hok hpar
  go_enter Tryz.func40, Tryz.ntmps40
  go_wp2_with fail
  refine (CP.out _ (((Below.refl _ _).alloc (Nat.le_refl _) _).alloc (by simp) _) (fun i hi => by simp at hi; exact ⟨HZN.out i (by omega), by omega, by omega⟩)).mono ?_
  rintro e w1 ⟨a1, c1, rfl, -, hs1, hi1, ho1⟩
  rw [← HPSE.out] at hs1
  rw [← HPB.out] at hi1
  obtain ⟨b1, o1, c1', ha1, _, _, hrow⟩ := hs1.pos (by intro h; have := HPL.out; rw [h] at this; cases this)
  rw [HPL.out] at ha1
  injection ha1 with ha1 _ hc1
  subst ha1
  subst hc1
  obtain ⟨e0, f0, q00, q01, q02, q03, q04⟩ := hrow.one (j := 0) (by rw [HPL.out]; omega)
  obtain ⟨e1, f1, q10, q11, q12, q13, q14⟩ := hrow.one (j := 1) (by rw [HPL.out]; omega)
  obtain ⟨e2, f2, q20, q21, q22, q23, q24⟩ := hrow.one (j := 2) (by rw [HPL.out]; omega)
  obtain ⟨e3, f3, q30, q31, q32, q33, q34⟩ := hrow.one (j := 3) (by rw [HPL.out]; omega)
  rw [Nat.zero_mul, Nat.add_zero] at q00 q01 q02
  rw [Nat.add_assoc] at q11 q12 q21 q22 q31 q32
  have hbz := hrow.1
  have hoff : Off (fun i => i = R) w w1 := (((Off.refl (fun i => i = R) w).alloc _).alloc _).trans ho1
  have hsz1 : w.heap.size + 1 < w1.heap.size := by have := ho1.size; simp at this; omega
  have hres : ∀ j, w1.cell? ⟨w.heap.size + 1, j, none⟩ = (#[Value.string ⟨#[]⟩, .slice none 0 0, .slice none 0 0] : Array Value)[j]? ∧ w1.frozen? ⟨w.heap.size + 1, j, none⟩ = false := fun j => by
    have hl2 : w.heap.size + 1 < ((w.alloc (.cells #[.bool l, .string t, .slice a n c] 61)).alloc (.cells #[.string ⟨#[]⟩, .slice none 0 0, .slice none 0 0] 25)).heap.size := by simp
    exact ⟨(ho1.cell (p := ⟨w.heap.size + 1, j, none⟩) hl2 (by show ¬ w.heap.size + 1 = R; omega)).trans (World.cell?_alloc_at _ _ _ _ (by simp)), (ho1.frozen (p := ⟨w.heap.size + 1, j, none⟩) hl2 (by show ¬ w.heap.size + 1 = R; omega)).trans (World.frozen?_alloc_at _ _ _ _ (by simp))⟩
  have hbR : b1 ≠ R := fun e => HZR.out (e ▸ hbz.1)
  have hm : ∀ j, j < 4 → nth ps j ∈ ps := fun j hj => nth_mem (by rw [HPL.out]; exact hj)
  have c0 : ∀ W bb, RdI R bb W → Calls Tryz.prog 82 #[.pointer (some ⟨R, 0, none⟩), fv (nth ps 0).l (nth ps 0).t (.slice e0 (nth ps 0).xs.length f0)] W fun e w' => e = .returned (.string (nth ps 0).t) ∧ RdO R bb (nth ps 0).l W w' := fun W bb hW => ptext_any R bb _ _ _ e0 _ f0 W rfl hW
  obtain ⟨l0, hl0⟩ : ∃ v, v = (nth ps 0).l := ⟨_, rfl⟩
  obtain ⟨t0, ht0⟩ : ∃ v, v = (nth ps 0).t := ⟨_, rfl⟩
  obtain ⟨n0, hn0⟩ : ∃ v, v = (nth ps 0).xs.length := ⟨_, rfl⟩
  rw [← hl0, ← ht0, ← hn0] at c0
  rw [← hl0] at q00
  rw [← ht0] at q01
  rw [← hn0] at q02
  rw [← hl0, ← ht0] at HPT
  have C0 := Lib.hid c0
  clear c0 hl0 ht0 hn0
  have Q1 := Lib.hid (show C3 w1 b1 (o1 + 3) (o1 + 4) (o1 + 5) (nth ps 1).l (nth ps 1).t (.slice e1 (nth ps 1).xs.length f1) from ⟨q10, q11, q12⟩)
  have Q2 := Lib.hid (show C3 w1 b1 (o1 + 6) (o1 + 7) (o1 + 8) (nth ps 2).l (nth ps 2).t (.slice e2 (nth ps 2).xs.length f2) from ⟨q20, q21, q22⟩)
  have Q3 := Lib.hid (show C3 w1 b1 (o1 + 9) (o1 + 10) (o1 + 11) (nth ps 3).l (nth ps 3).t (.slice e3 (nth ps 3).xs.length f3) from ⟨q30, q31, q32⟩)
  have Q24 := Lib.hid q24
  have Q34 := Lib.hid q34
  have HI1 := Lib.hid hi1
  have HOF := Lib.hid hoff
  have HRS := Lib.hid hres
  have HM := Lib.hid hm
  have HBZ := Lib.hid hbz
  clear q10 q11 q12 q13 q14 q20 q21 q22 q23 q24 q30 q31 q32 q33 q34 q03 q04 hi1 hoff hres hm hs1 ho1 hrow hbz
  -- what the rest wants of a world behind the look at the first form
  obtain ⟨m2, hm2⟩ : ∃ v, v = (nth ps 2).xs.length := ⟨_, rfl⟩
  obtain ⟨m3, hm3⟩ : ∃ v, v = (nth ps 3).xs.length := ⟨_, rfl⟩
  obtain ⟨m1, hm1⟩ : ∃ v, v = (nth ps 1).xs.length := ⟨_, rfl⟩
  obtain ⟨l1, hl1⟩ : ∃ v, v = (nth ps 1).l := ⟨_, rfl⟩
  obtain ⟨l2, hl2⟩ : ∃ v, v = (nth ps 2).l := ⟨_, rfl⟩
  obtain ⟨l3, hl3⟩ : ∃ v, v = (nth ps 3).l := ⟨_, rfl⟩
  obtain ⟨t1, ht1⟩ : ∃ v, v = (nth ps 1).t := ⟨_, rfl⟩
  obtain ⟨t2, ht2⟩ : ∃ v, v = (nth ps 2).t := ⟨_, rfl⟩
  obtain ⟨t3, ht3⟩ : ∃ v, v = (nth ps 3).t := ⟨_, rfl⟩
  obtain ⟨ls, hls⟩ : ∃ v, v = (rdTexts (nth ps 2)).1 := ⟨_, rfl⟩
  obtain ⟨k2, hk2⟩ : ∃ v, v = (rdTexts (nth ps 2)).2 := ⟨_, rfl⟩
  obtain ⟨os, hos⟩ : ∃ v, v = (rdOps (nth ps 3)).1 := ⟨_, rfl⟩
  obtain ⟨k3, hk3⟩ : ∃ v, v = (rdOps (nth ps 3)).2 := ⟨_, rfl⟩
  have hzy : ∀ i, (Z i ∧ i ≠ w.heap.size ∧ i ≠ w.heap.size + 1) → ¬ (i = R ∨ i = w.heap.size + 1) := fun i hi h => by
    rcases h with h | h
    · exact HZR.out (h ▸ hi.1)
    · exact hi.2.2 h
  have hE1 : Env w1 := HE.out.off HOF.out (fun i hi => by rw [hi]; exact hG)
  have hyG : ∀ i, (i = R ∨ i = w.heap.size + 1) → GM ≤ i := fun i hi => by rcases hi with h | h <;> omega
  have cT : ∀ W bb, RdI R bb W → Calls Tryz.prog 82 #[.pointer (some ⟨R, 0, none⟩), fv l1 t1 (.slice e1 m1 f1)] W fun e w' => e = .returned (.string t1) ∧ RdO R bb l1 W w' := fun W bb hW => ptext_any R bb _ _ _ e1 _ f1 W rfl hW
  have cD : ∀ W bb, RdI R bb W → Off (fun i => i = R ∨ i = w.heap.size + 1) w1 W → Calls Tryz.prog 83 #[.pointer (some ⟨R, 0, none⟩), fv l2 t2 (.slice e2 m2 f2)] W fun e w' => ∃ v, e = .returned v ∧ Row 1 W.heap.size w' v m2 (ls.map .string) ∧ RdO R bb k2 W w' := fun W bb hW hO => by
    rw [hl2, ht2, hls, hk2, hm2]
    exact ptexts_rd _ R bb (nth ps 2) (Nat.le_trans (xs_len _) (HPP.out _ (HM.out 2 (by omega)))) e2 f2 W hW (Q24.out.off hO hzy) (fun h => hzy R h (.inl rfl))
  have cO : ∀ W bb, RdI R bb W → Off (fun i => i = R ∨ i = w.heap.size + 1) w1 W → Calls Tryz.prog 84 #[.pointer (some ⟨R, 0, none⟩), fv l3 t3 (.slice e3 m3 f3)] W fun e w' => ∃ v es, e = .returned v ∧ es.map (·.1) = os ∧ MadeO W.heap.size w' v es ∧ RdO R bb k3 W w' := fun W bb hW hO => by
    rw [hl3, ht3, hos, hk3, hm3]
    exact pops_rd _ R bb (nth ps 3) (HPS.out _ (HM.out 3 (by omega))) (HPP.out _ (HM.out 3 (by omega))) e3 f3 W hW (Q34.out.off hO hzy) (fun h => hzy R h (.inl rfl)) hG (hE1.off hO hyG)
  have hpt2 : rdPt T = (⟨t1, ls, os⟩, pb || l0 || !decide (t0 = headB) || l1 || k2 || k3) := by rw [HPT.out, ← ht1, ← hls, ← hos, ← hl1, ← hk2, ← hk3]
  rw [← hl1, ← ht1, ← hm1] at Q1
  rw [← hl2, ← ht2, ← hm2] at Q2
  rw [← hl3, ← ht3, ← hm3] at Q3
  have hst : ∀ wx, Off (fun i => i = R) w1 wx → RpS wx R (w.heap.size + 1) b1 o1 l1 l2 l3 t1 t2 t3 (.slice e1 m1 f1) (.slice e2 m2 f2) (.slice e3 m3 f3) wx.drew := fun wx hx => by
    have hne : ∀ j, (⟨w.heap.size + 1, j, none⟩ : Addr).block ≠ R := fun j e => by have e' : w.heap.size + 1 = R := e; omega
    have hc : ∀ j, wx.cell? ⟨w.heap.size + 1, j, none⟩ = (#[Value.string ⟨#[]⟩, .slice none 0 0, .slice none 0 0] : Array Value)[j]? := fun j => (hx.cell (p := ⟨w.heap.size + 1, j, none⟩) hsz1 (hne j)).trans (HRS.out j).1
    have hf : ∀ j, wx.frozen? ⟨w.heap.size + 1, j, none⟩ = false := fun j => (hx.frozen (p := ⟨w.heap.size + 1, j, none⟩) hsz1 (hne j)).trans (HRS.out j).2
    exact ⟨⟨Q1.out.off (Y := fun i => i = R) hx.drew hbR, Q2.out.off (Y := fun i => i = R) hx.drew hbR, Q3.out.off (Y := fun i => i = R) hx.drew hbR⟩, ⟨hbR, HBZ.out.2.2, by omega, Nat.lt_of_lt_of_le hsz1 hx.size⟩, (Off.refl _ _).drew, ⟨cellAt_of ((congrArg Option.isSome (hc 0)).trans rfl), cellAt_of ((congrArg Option.isSome (hc 1)).trans rfl), cellAt_of ((congrArg Option.isSome (hc 2)).trans rfl)⟩, hf 0, hf 1, hf 2⟩
  have hbase : RdO R b pb w w1 := ⟨HI1.out, HOF.out⟩
  have HBA := Lib.hid hbase
  have HST := Lib.hid hst
  have HPT2 := Lib.hid hpt2
  have CT := Lib.hid cT
  have CD := Lib.hid cD
  have CO := Lib.hid cO
  clear hbase hst hpt2 cT cD cO hzy hE1 hyG hm1 hm2 hm3 hl1 hl2 hl3 ht1 ht2 ht3 hls hk2 hos hk3 HPT Q1 Q2 Q3 Q24 Q34
  go_wp2_with fail
  refine (C0.out _ _ HI1.out).mono ?_
  rintro e w2 ⟨rfl, hi2, ho2⟩
  by_cases hte : t0 = headB
  · have q1 : (t0.toList == [116, 97, 109, 98, 111, 117, 114]) = true := by rw [hte, head_list]; exact beq_self_eq_true _
    have HTE := Lib.hid (decide_eq_true hte : decide (t0 = headB) = true)
    clear hte
    go_upto_region 4 with fail
    obtain ⟨wx, hwx⟩ : ∃ wx, wx = w2 := ⟨_, rfl⟩
    obtain ⟨BB, HBB⟩ : ∃ BB, BB = (b || pb || l0) := ⟨_, rfl⟩
    have hix : RdI R BB wx := by rw [hwx, HBB]; exact hi2
    have hox : Off (fun i => i = R) w1 wx := by rw [hwx]; exact ho2
    rw [← hwx]
    clear hwx hi2 ho2
    have HST2 := Lib.hid (HST.out wx hox)
    have hid : RdI R BB wx.drew := ⟨hix.cell, hix.free⟩
    have HID := Lib.hid hid
    have HOX := Lib.hid hox
    clear hid hox hix
    go_region_held3 (fun W => ((W.cell? ⟨b1, o1 + 3, none⟩ = some (.bool l1) ∧ W.cell? ⟨b1, o1 + 4, none⟩ = some (.string t1) ∧ W.cell? ⟨b1, o1 + 5, none⟩ = some (.slice e1 m1 f1)) ∧ (W.cell? ⟨b1, o1 + 6, none⟩ = some (.bool l2) ∧ W.cell? ⟨b1, o1 + 7, none⟩ = some (.string t2) ∧ W.cell? ⟨b1, o1 + 8, none⟩ = some (.slice e2 m2 f2)) ∧ W.cell? ⟨b1, o1 + 9, none⟩ = some (.bool l3) ∧ W.cell? ⟨b1, o1 + 10, none⟩ = some (.string t3) ∧ W.cell? ⟨b1, o1 + 11, none⟩ = some (.slice e3 m3 f3)) ∧ (b1 ≠ R ∧ b1 ≠ w.heap.size + 1 ∧ R ≠ w.heap.size + 1 ∧ w.heap.size + 1 < W.heap.size) ∧ Off (fun i => i = R ∨ i = w.heap.size + 1) wx W ∧ (W.cell? ⟨w.heap.size + 1, 0, none⟩ = some (cellAt W ⟨w.heap.size + 1, 0, none⟩) ∧ W.cell? ⟨w.heap.size + 1, 1, none⟩ = some (cellAt W ⟨w.heap.size + 1, 1, none⟩) ∧ W.cell? ⟨w.heap.size + 1, 2, none⟩ = some (cellAt W ⟨w.heap.size + 1, 2, none⟩)) ∧ W.frozen? ⟨w.heap.size + 1, 0, none⟩ = false ∧ W.frozen? ⟨w.heap.size + 1, 1, none⟩ = false ∧ W.frozen? ⟨w.heap.size + 1, 2, none⟩ = false)
      (first | with_reducible exact rp_call ho5 (by assumption) | with_reducible exact rp_call ho4 (by assumption) | with_reducible exact rp_call ho3 (by assumption) | with_reducible exact HST2.out | with_reducible exact rp_set (by assumption) _ _ _)
      (first
        | (go_at_call 82; (with_reducible refine (CT.out _ BB HID.out).mono ?_); rintro e w3 ⟨rfl, hi3, ho3⟩)
        | (go_at_call 83; have hq : RpS wx R (w.heap.size + 1) b1 o1 l1 l2 l3 t1 t2 t3 (.slice e1 m1 f1) (.slice e2 m2 f2) (.slice e3 m3 f3) _ := (by assumption); (with_reducible refine (CD.out _ (BB || l1) hi3 ((HOX.out.mono (fun i h => .inl h)).trans hq.2.2.1)).mono ?_); rintro e w4 ⟨v4, rfl, hr4, hi4, ho4⟩; obtain ⟨a4, c4, hv4⟩ := hr4.form; subst hv4; clear hq)
        | (go_at_call 84; have hq : RpS wx R (w.heap.size + 1) b1 o1 l1 l2 l3 t1 t2 t3 (.slice e1 m1 f1) (.slice e2 m2 f2) (.slice e3 m3 f3) _ := (by assumption); (with_reducible refine (CO.out _ (BB || l1 || k2) hi4 ((HOX.out.mono (fun i h => .inl h)).trans hq.2.2.1)).mono ?_); rintro e w5 ⟨v5, es5, rfl, hm5, hmo5, hi5, ho5⟩; obtain ⟨a5, c5, hv5⟩ := hmo5.row.form; subst hv5; have hq5 := rp_call ho5 hq; clear hq))
    rename_i hHeld
    obtain ⟨m5, hm5l⟩ : ∃ m, m = es5.length := ⟨_, rfl⟩
    have hsz3 : w.heap.size + 1 < w3.heap.size := by have h1 := HOX.out.size; have h2 := ho3.size; simp at h2; omega
    have hsz4 : w.heap.size + 1 < w4.heap.size := Nat.lt_of_lt_of_le hsz3 ho4.size
    have hwo : Off (fun i => i = w.heap.size + 1) w5 (((w5.setCell ⟨w.heap.size + 1, 0, none⟩ (.string t1)).setCell ⟨w.heap.size + 1, 1, none⟩ (.slice a4 m2 c4)).setCell ⟨w.heap.size + 1, 2, none⟩ (.slice a5 es5.length c5)) := Off.setCell (Z := fun i => i = w.heap.size + 1) (Off.setCell (Z := fun i => i = w.heap.size + 1) (Off.setCell (Z := fun i => i = w.heap.size + 1) (Off.refl _ _) (p := ⟨w.heap.size + 1, 0, none⟩) (.inr rfl) _) (p := ⟨w.heap.size + 1, 1, none⟩) (.inr rfl) _) (p := ⟨w.heap.size + 1, 2, none⟩) (.inr rfl) _
    have hsm : ∀ wF, Off (fun i => i < w.heap.size) (((w5.setCell ⟨w.heap.size + 1, 0, none⟩ (.string t1)).setCell ⟨w.heap.size + 1, 1, none⟩ (.slice a4 m2 c4)).setCell ⟨w.heap.size + 1, 2, none⟩ (.slice a5 es5.length c5)) wF → Reads wF (.slice a4 m2 c4) ls ∧ OReads wF (.slice a5 es5.length c5) os := fun wF hF => by
      have h45 : Off (fun i => i ≤ w.heap.size + 1) w5 wF := (hwo.mono (fun i h => by omega)).trans (hF.mono (fun i h => by omega))
      refine ⟨hr4.readsAt ((ho5.mono (fun i (h : i = R) => by omega)).trans h45) (fun i h => by omega), ?_⟩
      rw [← hm5]
      exact (hmo5.off h45 (fun i h => by omega)).reads
    have hfin : RdO R b (pb || l0 || !decide (t0 = headB) || l1 || k2 || k3) w (((w5.setCell ⟨w.heap.size + 1, 0, none⟩ (.string t1)).setCell ⟨w.heap.size + 1, 1, none⟩ (.slice a4 m2 c4)).setCell ⟨w.heap.size + 1, 2, none⟩ (.slice a5 es5.length c5)) := by
      have hneR : ¬ (⟨R, 0, none⟩ : Addr).block = w.heap.size + 1 := fun e => by have e' : R = w.heap.size + 1 := e; omega
      refine ⟨⟨(hwo.cell (p := ⟨R, 0, none⟩) hi5.lt hneR).trans (hi5.cell.trans ?_), (hwo.frozen (p := ⟨R, 0, none⟩) hi5.lt hneR).trans hi5.free⟩, ?_⟩
      · rw [HBB]; simp only [Bool.or_assoc, Bool.true_or, Bool.or_true, Bool.not_true, Bool.not_false, Bool.false_or, decide_true, decide_false, HTE.out]
      · exact ((HBA.out.2.trans HOX.out).trans ((((Off.refl (fun i => i = R) wx).drew).trans ho3).trans (ho4.trans ho5))).trans' hwo (fun i hi e => by omega)
    obtain ⟨z0, z1, z2⟩ := end3 (of_cellAt hq5.2.2.2.1.1) (of_cellAt hq5.2.2.2.1.2.1) (of_cellAt hq5.2.2.2.1.2.2) (.string t1) (.slice a4 m2 c4) (.slice a5 es5.length c5)
    have HSM := Lib.hid hsm
    have HFIN := Lib.hid hfin
    clear hsm hfin hwo hq5 hHeld hi3 ho3 hi4 ho4 hi5 ho5 hr4 hmo5 hm5
    go_wp2_with fail
    refine bodyPost_ret (v := ptV t1 (.slice a4 m2 c4) (.slice a5 es5.length c5)) (by simp [results, Tryz.results40, go_sem, z0, z1, z2]) rfl ?_
    unfold PatP
    rw [HPT2.out]
    exact ⟨_, _, rfl, HSM.out, HFIN.out⟩
  · have q1 : (t0.toList == [116, 97, 109, 98, 111, 117, 114]) = false := by rw [← head_list]; exact ba_neq hte
    have HTE := Lib.hid (decide_eq_false hte : decide (t0 = headB) = false)
    have k1 := hi2.cell
    have k2' := hi2.free
    clear hte
    go_upto_region 4 with fail
    obtain ⟨wx, hwx⟩ : ∃ wx, wx = w2.setCell ⟨R, 0, none⟩ (.bool true) := ⟨_, rfl⟩
    obtain ⟨BB, HBB⟩ : ∃ BB, BB = true := ⟨_, rfl⟩
    have hix : RdI R BB wx := by rw [hwx, HBB]; exact hi2.set true
    have hox : Off (fun i => i = R) w1 wx := by rw [hwx]; exact Off.setCell (Z := fun i => i = R) ho2 (p := ⟨R, 0, none⟩) (.inr rfl) _
    rw [← hwx]
    clear hwx hi2 ho2 k1 k2'
    have HST2 := Lib.hid (HST.out wx hox)
    have hid : RdI R BB wx.drew := ⟨hix.cell, hix.free⟩
    have HID := Lib.hid hid
    have HOX := Lib.hid hox
    clear hid hox hix
    go_region_held3 (fun W => ((W.cell? ⟨b1, o1 + 3, none⟩ = some (.bool l1) ∧ W.cell? ⟨b1, o1 + 4, none⟩ = some (.string t1) ∧ W.cell? ⟨b1, o1 + 5, none⟩ = some (.slice e1 m1 f1)) ∧ (W.cell? ⟨b1, o1 + 6, none⟩ = some (.bool l2) ∧ W.cell? ⟨b1, o1 + 7, none⟩ = some (.string t2) ∧ W.cell? ⟨b1, o1 + 8, none⟩ = some (.slice e2 m2 f2)) ∧ W.cell? ⟨b1, o1 + 9, none⟩ = some (.bool l3) ∧ W.cell? ⟨b1, o1 + 10, none⟩ = some (.string t3) ∧ W.cell? ⟨b1, o1 + 11, none⟩ = some (.slice e3 m3 f3)) ∧ (b1 ≠ R ∧ b1 ≠ w.heap.size + 1 ∧ R ≠ w.heap.size + 1 ∧ w.heap.size + 1 < W.heap.size) ∧ Off (fun i => i = R ∨ i = w.heap.size + 1) wx W ∧ (W.cell? ⟨w.heap.size + 1, 0, none⟩ = some (cellAt W ⟨w.heap.size + 1, 0, none⟩) ∧ W.cell? ⟨w.heap.size + 1, 1, none⟩ = some (cellAt W ⟨w.heap.size + 1, 1, none⟩) ∧ W.cell? ⟨w.heap.size + 1, 2, none⟩ = some (cellAt W ⟨w.heap.size + 1, 2, none⟩)) ∧ W.frozen? ⟨w.heap.size + 1, 0, none⟩ = false ∧ W.frozen? ⟨w.heap.size + 1, 1, none⟩ = false ∧ W.frozen? ⟨w.heap.size + 1, 2, none⟩ = false)
      (first | with_reducible exact rp_call ho5 (by assumption) | with_reducible exact rp_call ho4 (by assumption) | with_reducible exact rp_call ho3 (by assumption) | with_reducible exact HST2.out | with_reducible exact rp_set (by assumption) _ _ _)
      (first
        | (go_at_call 82; (with_reducible refine (CT.out _ BB HID.out).mono ?_); rintro e w3 ⟨rfl, hi3, ho3⟩)
        | (go_at_call 83; have hq : RpS wx R (w.heap.size + 1) b1 o1 l1 l2 l3 t1 t2 t3 (.slice e1 m1 f1) (.slice e2 m2 f2) (.slice e3 m3 f3) _ := (by assumption); (with_reducible refine (CD.out _ (BB || l1) hi3 ((HOX.out.mono (fun i h => .inl h)).trans hq.2.2.1)).mono ?_); rintro e w4 ⟨v4, rfl, hr4, hi4, ho4⟩; obtain ⟨a4, c4, hv4⟩ := hr4.form; subst hv4; clear hq)
        | (go_at_call 84; have hq : RpS wx R (w.heap.size + 1) b1 o1 l1 l2 l3 t1 t2 t3 (.slice e1 m1 f1) (.slice e2 m2 f2) (.slice e3 m3 f3) _ := (by assumption); (with_reducible refine (CO.out _ (BB || l1 || k2) hi4 ((HOX.out.mono (fun i h => .inl h)).trans hq.2.2.1)).mono ?_); rintro e w5 ⟨v5, es5, rfl, hm5, hmo5, hi5, ho5⟩; obtain ⟨a5, c5, hv5⟩ := hmo5.row.form; subst hv5; have hq5 := rp_call ho5 hq; clear hq))
    rename_i hHeld
    obtain ⟨m5, hm5l⟩ : ∃ m, m = es5.length := ⟨_, rfl⟩
    have hsz3 : w.heap.size + 1 < w3.heap.size := by have h1 := HOX.out.size; have h2 := ho3.size; simp at h2; omega
    have hsz4 : w.heap.size + 1 < w4.heap.size := Nat.lt_of_lt_of_le hsz3 ho4.size
    have hwo : Off (fun i => i = w.heap.size + 1) w5 (((w5.setCell ⟨w.heap.size + 1, 0, none⟩ (.string t1)).setCell ⟨w.heap.size + 1, 1, none⟩ (.slice a4 m2 c4)).setCell ⟨w.heap.size + 1, 2, none⟩ (.slice a5 es5.length c5)) := Off.setCell (Z := fun i => i = w.heap.size + 1) (Off.setCell (Z := fun i => i = w.heap.size + 1) (Off.setCell (Z := fun i => i = w.heap.size + 1) (Off.refl _ _) (p := ⟨w.heap.size + 1, 0, none⟩) (.inr rfl) _) (p := ⟨w.heap.size + 1, 1, none⟩) (.inr rfl) _) (p := ⟨w.heap.size + 1, 2, none⟩) (.inr rfl) _
    have hsm : ∀ wF, Off (fun i => i < w.heap.size) (((w5.setCell ⟨w.heap.size + 1, 0, none⟩ (.string t1)).setCell ⟨w.heap.size + 1, 1, none⟩ (.slice a4 m2 c4)).setCell ⟨w.heap.size + 1, 2, none⟩ (.slice a5 es5.length c5)) wF → Reads wF (.slice a4 m2 c4) ls ∧ OReads wF (.slice a5 es5.length c5) os := fun wF hF => by
      have h45 : Off (fun i => i ≤ w.heap.size + 1) w5 wF := (hwo.mono (fun i h => by omega)).trans (hF.mono (fun i h => by omega))
      refine ⟨hr4.readsAt ((ho5.mono (fun i (h : i = R) => by omega)).trans h45) (fun i h => by omega), ?_⟩
      rw [← hm5]
      exact (hmo5.off h45 (fun i h => by omega)).reads
    have hfin : RdO R b (pb || l0 || !decide (t0 = headB) || l1 || k2 || k3) w (((w5.setCell ⟨w.heap.size + 1, 0, none⟩ (.string t1)).setCell ⟨w.heap.size + 1, 1, none⟩ (.slice a4 m2 c4)).setCell ⟨w.heap.size + 1, 2, none⟩ (.slice a5 es5.length c5)) := by
      have hneR : ¬ (⟨R, 0, none⟩ : Addr).block = w.heap.size + 1 := fun e => by have e' : R = w.heap.size + 1 := e; omega
      refine ⟨⟨(hwo.cell (p := ⟨R, 0, none⟩) hi5.lt hneR).trans (hi5.cell.trans ?_), (hwo.frozen (p := ⟨R, 0, none⟩) hi5.lt hneR).trans hi5.free⟩, ?_⟩
      · rw [HBB]; simp only [Bool.or_assoc, Bool.true_or, Bool.or_true, Bool.not_true, Bool.not_false, Bool.false_or, decide_true, decide_false, HTE.out]
      · exact ((HBA.out.2.trans HOX.out).trans ((((Off.refl (fun i => i = R) wx).drew).trans ho3).trans (ho4.trans ho5))).trans' hwo (fun i hi e => by omega)
    obtain ⟨z0, z1, z2⟩ := end3 (of_cellAt hq5.2.2.2.1.1) (of_cellAt hq5.2.2.2.1.2.1) (of_cellAt hq5.2.2.2.1.2.2) (.string t1) (.slice a4 m2 c4) (.slice a5 es5.length c5)
    have HSM := Lib.hid hsm
    have HFIN := Lib.hid hfin
    clear hsm hfin hwo hq5 hHeld hi3 ho3 hi4 ho4 hi5 ho5 hr4 hmo5 hm5
    go_wp2_with fail
    refine bodyPost_ret (v := ptV t1 (.slice a4 m2 c4) (.slice a5 es5.length c5)) (by simp [results, Tryz.results40, go_sem, z0, z1, z2]) rfl ?_
    unfold PatP
    rw [HPT2.out]
    exact ⟨_, _, rfl, HSM.out, HFIN.out⟩
end Go.Proofs.YtgjcblginkdinaaGreatDoor
