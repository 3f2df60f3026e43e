/- The contract of the reader's ref. The contract of the reader's texts. The contract of the reader's ops. -/
import Derived.Test.YtgjcblginkdinaaGreatDoorU27
set_option linter.unusedVariables false
namespace Go.Proofs.YtgjcblginkdinaaGreatDoor
open Go.ChangeShapes Go.WideShapes Go.ChangeAt Go.RowKit
open Go.Lib (itoa)

attribute [local go_sem ↓] Go.wp_at_zero Go.wp_at_succ

structure Env (w : World) : Prop where
  sents : HasSents w
  tab : HasTab w
theorem var_block {P : Program} {w w' : World} {s : String} {g : Nat} {x : Array Value} (hg : P.globalNamed s = some g) (h : w.var? P s = some x) (hb : w'.heap[g]? = w.heap[g]?) : w'.var? P s = some x := by
  unfold World.var? at *
  rw [hg] at h ⊢
  simp only [Option.bind_some] at h ⊢
  rw [hb]
  exact h
theorem var_lt {P : Program} {w : World} {s : String} {g : Nat} {x : Array Value} (hg : P.globalNamed s = some g) (h : w.var? P s = some x) : g < w.heap.size := by
  unfold World.var? at h
  rw [hg] at h
  simp only [Option.bind_some] at h
  rcases Nat.lt_or_ge g w.heap.size with h' | h'
  · exact h'
  · rw [Array.getElem?_eq_none h'] at h; simp at h
abbrev GM : Nat := max (max 4 5) 3 + 1
theorem Env.off {Y : Nat → Prop} {w w' : World} (h : Env w) (ho : Off Y w w') (hy : ∀ i, Y i → GM ≤ i) : Env w' := by
  obtain ⟨⟨⟨t1, p1, h1⟩, t2, p2, h2⟩, ht⟩ := h
  have b1 := ho.block _ (var_lt Tryz.synG h1) (fun hy' => absurd (hy _ hy') (by decide))
  have b2 := ho.block _ (var_lt Tryz.ranG h2) (fun hy' => absurd (hy _ hy') (by decide))
  have b3 := ho.block _ ht.lt (fun hy' => absurd (hy _ hy') (by decide))
  exact ⟨⟨⟨t1, p1, var_block Tryz.synG h1 b1⟩, t2, p2, var_block Tryz.ranG h2 b2⟩, ht.keep b3⟩
theorem Env.below {w w' : World} (h : Env w) (hb : Below w.heap.size w w') : Env w' := ⟨h.sents.below hb, h.tab.below hb⟩
theorem Env.lt {w : World} (h : Env w) : GM ≤ w.heap.size := by
  obtain ⟨⟨⟨t1, p1, h1⟩, t2, p2, h2⟩, ht⟩ := h
  have b1 := var_lt Tryz.synG h1
  have b2 := var_lt Tryz.ranG h2
  have b3 := ht.lt
  unfold GM
  omega

theorem parts_ok {T : Tm} (h : T.ok = true) (k : Nat) : ∀ x ∈ (rdParts T k).1, x.ok = true := by
  unfold rdParts
  by_cases hk : T.xs.length = k
  · rw [if_pos hk]
    obtain ⟨l, t, xs⟩ := T
    cases l with
    | true =>
      rw [Tm.ok_list] at h
      simp only [Bool.and_eq_true] at h
      exact Tm.oks_iff.1 h.2
    | false =>
      rw [Tm.ok_text] at h
      have : xs = [] := List.length_eq_zero_iff.1 (of_decide_eq_true h)
      subst this
      intro x hx; cases hx
  · rw [if_neg hk]
    intro x hx
    rw [List.mem_replicate] at hx
    rw [hx.2]; rfl

abbrev C3 (W : World) (b p0 p1 p2 : Nat) (l : Bool) (t : ByteArray) (s : Value) : Prop := W.cell? ⟨b, p0, none⟩ = some (.bool l) ∧ W.cell? ⟨b, p1, none⟩ = some (.string t) ∧ W.cell? ⟨b, p2, none⟩ = some s
theorem C3.off {Y : Nat → Prop} {W W2 : World} {b p0 p1 p2 : Nat} {l : Bool} {t : ByteArray} {s : Value} (h : C3 W b p0 p1 p2 l t s) (ho : Off Y W W2) (hn : ¬ Y b) : C3 W2 b p0 p1 p2 l t s := by
  have hlt := cell_lt h.1
  exact ⟨(ho.cell (p := ⟨b, p0, none⟩) hlt hn).trans h.1, (ho.cell (p := ⟨b, p1, none⟩) hlt hn).trans h.2.1, (ho.cell (p := ⟨b, p2, none⟩) hlt hn).trans h.2.2⟩

theorem FRow.one {Z : Nat → Prop} {w : World} {b o : Nat} {xs : List Tm} (h : FRow Z w b o xs) {j : Nat} (hj : j < xs.length) : ∃ a c, w.cell? ⟨b, o + j * 3, none⟩ = some (.bool (nth xs j).l) ∧ w.cell? ⟨b, o + j * 3 + 1, none⟩ = some (.string (nth xs j).t) ∧ w.cell? ⟨b, o + j * 3 + 2, none⟩ = some (.slice a (nth xs j).xs.length c) ∧
    (nth xs j).t.size ≤ 140737488355328 ∧ SlL Z w (.slice a (nth xs j).xs.length c) (nth xs j).xs := by
  have hx : xs[j]? = some (nth xs j) := by unfold nth; rw [List.getD_eq_getElem?_getD, List.getElem?_eq_getElem hj]; rfl
  rw [Tm.eta (nth xs j)] at hx
  exact h.2.2 j _ _ _ hx

abbrev ReS (w : World) (R H b o : Nat) (l0 l1 : Bool) (t0 t1 : ByteArray) (s0 s1 : Value) (W : World) : Prop :=
  (C3 W b o (o + 1) (o + 2) l0 t0 s0 ∧ C3 W b (o + 3) (o + 4) (o + 5) l1 t1 s1) ∧ (b ≠ R ∧ b ≠ H ∧ R ≠ H ∧ H < W.heap.size) ∧ Off (fun i => i = R ∨ i = H) w W ∧
  (W.cell? ⟨H, 0, none⟩ = some (cellAt W ⟨H, 0, none⟩) ∧ W.cell? ⟨H, 1, none⟩ = some (cellAt W ⟨H, 1, none⟩)) ∧ W.frozen? ⟨H, 0, none⟩ = false ∧ W.frozen? ⟨H, 1, none⟩ = false
theorem re_call {w W W2 : World} {R H b o : Nat} {l0 l1 : Bool} {t0 t1 : ByteArray} {s0 s1 : Value} (ho : Off (fun i => i = R) W W2) (h : ReS w R H b o l0 l1 t0 t1 s0 s1 W) : ReS w R H b o l0 l1 t0 t1 s0 s1 W2 := by
  obtain ⟨⟨h1, h2⟩, ⟨h3, h4, h5, h6⟩, h7, ⟨h8, h9⟩, h10, h11⟩ := h
  have c : ∀ j, W2.cell? ⟨H, j, none⟩ = W.cell? ⟨H, j, none⟩ := fun j => ho.cell (p := ⟨H, j, none⟩) h6 (fun e => h5 e.symm)
  have f : ∀ j, W2.frozen? ⟨H, j, none⟩ = W.frozen? ⟨H, j, none⟩ := fun j => ho.frozen (p := ⟨H, j, none⟩) h6 (fun e => h5 e.symm)
  exact ⟨⟨h1.off ho h3, h2.off ho h3⟩, ⟨h3, h4, h5, Nat.lt_of_lt_of_le h6 ho.size⟩, h7.trans (ho.mono fun i hi => .inl hi), ⟨cellAt_of (by rw [c]; exact of_cellAt h8), cellAt_of (by rw [c]; exact of_cellAt h9)⟩, by rw [f]; exact h10, by rw [f]; exact h11⟩
theorem re_set {w W : World} {R H b o : Nat} {l0 l1 : Bool} {t0 t1 : ByteArray} {s0 s1 : Value} (h : ReS w R H b o l0 l1 t0 t1 s0 s1 W) (u0 u1 : Value) : ReS w R H b o l0 l1 t0 t1 s0 s1 ((W.setCell ⟨H, 0, none⟩ u0).setCell ⟨H, 1, none⟩ u1) := by
  obtain ⟨⟨h1, h2⟩, ⟨h3, h4, h5, h6⟩, h7, ⟨h8, h9⟩, h10, h11⟩ := h
  have ho : Off (fun i => i = H) W ((W.setCell ⟨H, 0, none⟩ u0).setCell ⟨H, 1, none⟩ u1) := Off.setCell (Z := fun i => i = H) (Off.setCell (Z := fun i => i = H) (Off.refl _ _) (p := ⟨H, 0, none⟩) (.inr rfl) _) (p := ⟨H, 1, none⟩) (.inr rfl) _
  exact ⟨⟨h1.off ho h4, h2.off ho h4⟩, ⟨h3, h4, h5, by simpa [World.setCell] using h6⟩, h7.trans (ho.mono fun i hi => .inr hi), ⟨cellAt_of (cellAt_set (cellAt_set (of_cellAt h8))), cellAt_of (cellAt_set (cellAt_set (of_cellAt h9)))⟩, by rw [World.frozen?_setCell, World.frozen?_setCell]; exact h10, by rw [World.frozen?_setCell, World.frozen?_setCell]; exact h11⟩

def RefO (R : Nat) (b : Bool) (T : Tm) (w : World) (e : Ending) (w' : World) : Prop := e = .returned (rfV (rdRef T).1) ∧ RdO R b (rdRef T).2 w w'

set_option maxHeartbeats 4000000 in
set_option maxRecDepth 100000 in
theorem pref_rd (Z : Nat → Prop) (R : Nat) (b : Bool) (T : Tm) (hok : T.ok = true) (a : Option Addr) (c : Nat) (w : World) (hr : RdI R b w) (hsl : SlL Z w (.slice a T.xs.length c) T.xs) (hzr : ¬ Z R) (hzn : ∀ i, w.heap.size ≤ i → Z i) (hG : GM ≤ R) (he : Env w) :
    Calls Tryz.prog 121 #[.pointer (some ⟨R, 0, none⟩), fv T.l T.t (.slice a T.xs.length c)] w (RefO R b T w) := by
  have hlt := hr.lt
  have cP : ∀ wz, Below w.heap.size w wz → (∀ i, wz.heap.size ≤ i → Z i ∧ i ≠ w.heap.size ∧ i ≠ w.heap.size + 1) → Calls Tryz.prog 81 #[.pointer (some ⟨R, 0, none⟩), fv T.l T.t (.slice a T.xs.length c), .int .i64 2] wz (PartsP (fun i => Z i ∧ i ≠ w.heap.size ∧ i ≠ w.heap.size + 1) R b T 2 wz) := fun wz hz hn =>
    pparts_any _ R b T 2 (by omega) a c wz (hr.below hz) ((hsl.mono (Z' := fun i => Z i ∧ i ≠ w.heap.size ∧ i ≠ w.heap.size + 1) fun i hi hz => ⟨hz, by omega, by omega⟩).keep hz) (fun h => hzr h.1) hn
  have hps := parts_ok hok 2
  have hpl := parts_len T 2
  obtain ⟨x, hx⟩ : ∃ x, x = (rdNum (nth (rdParts T 2).1 0)).1 := ⟨_, rfl⟩
  obtain ⟨y, hy⟩ : ∃ y, y = (rdNum (nth (rdParts T 2).1 1)).1 := ⟨_, rfl⟩
  obtain ⟨bx, hbx⟩ : ∃ x, x = (rdNum (nth (rdParts T 2).1 0)).2 := ⟨_, rfl⟩
  obtain ⟨by_, hby⟩ : ∃ y, y = (rdNum (nth (rdParts T 2).1 1)).2 := ⟨_, rfl⟩
  have h1 : (rdRef T).1 = ⟨x, y⟩ := by rw [hx, hy]; rfl
  have h2 : (rdRef T).2 = ((rdParts T 2).2 || bx || by_) := by rw [hbx, hby]; rfl
  unfold RefO
  rw [h1, h2]
  obtain ⟨ps, hpse⟩ : ∃ ps, ps = (rdParts T 2).1 := ⟨_, rfl⟩
  obtain ⟨pb, hpb⟩ : ∃ pb, pb = (rdParts T 2).2 := ⟨_, rfl⟩
  rw [← hpb]
  rw [← hpse] at hps hpl hx hy hbx hby
  have CP := Lib.hid cP
  have HPS := Lib.hid hps
  have HPL := Lib.hid hpl
  have HX := Lib.hid hx
  have HY := Lib.hid hy
  have HBX := Lib.hid hbx
  have HBY := Lib.hid hby
  have HPSE := Lib.hid hpse
  have HPB := Lib.hid hpb
  have HE := Lib.hid he
  have HR := Lib.hid hr
  have HZR := Lib.hid hzr
  have HZN := Lib.hid hzn
  obtain ⟨l, hl⟩ : ∃ l, l = T.l := ⟨_, rfl⟩
  obtain ⟨t, htt⟩ : ∃ t, t = T.t := ⟨_, rfl⟩
  obtain ⟨n, hn⟩ : ∃ n, n = T.xs.length := ⟨_, rfl⟩
  rw [← hl, ← htt, ← hn] at CP ⊢
  clear cP hps hpl hx hy hbx hby h1 h2 hpse hpb he hr hzr hzn hsl hl htt hn
  go_enter Tryz.func121, Tryz.ntmps121
  go_wp2_with fail
  refine (CP.out _ (((Below.refl _ _).alloc (Nat.le_refl _) _).alloc (by simp) _) (fun i hi => by simp at hi; exact ⟨HZN.out i (by omega), by omega, by omega⟩)).mono ?_
  rintro e w1 ⟨a1, c1, rfl, -, hs1, ho1⟩
  rw [← HPSE.out] at hs1
  rw [← HPB.out] at ho1
  obtain ⟨b1, o1, c1', ha1, _, _, hrow⟩ := hs1.pos (by intro h; have := HPL.out; rw [h] at this; cases this)
  rw [HPL.out] at ha1
  injection ha1 with ha1 _ hc1
  subst ha1
  subst hc1
  obtain ⟨a0, c0, d0, d1, d2, d3, d4⟩ := hrow.one (j := 0) (by rw [HPL.out]; omega)
  obtain ⟨a2, c2, e0, e1, e2, e3, e4⟩ := hrow.one (j := 1) (by rw [HPL.out]; omega)
  rw [Nat.zero_mul, Nat.add_zero] at d0 d1 d2
  rw [Nat.one_mul] at e0 e1 e2
  rw [Nat.add_assoc] at e1 e2
  have hbz := hrow.1
  have hri := ho1.1
  have hoff := ho1.2
  have hoff2 : ∀ j, w1.cell? ⟨w.heap.size + 1, j, none⟩ = (#[Value.int .i64 0, .int .i64 0] : Array Value)[j]? ∧ w1.frozen? ⟨w.heap.size + 1, j, none⟩ = false := fun j => by
    have hl2 : w.heap.size + 1 < ((w.alloc (.cells #[.bool l, .string t, .slice a n c] 61)).alloc (.cells #[.int .i64 0, .int .i64 0] 54)).heap.size := by simp
    exact ⟨(hoff.cell (p := ⟨w.heap.size + 1, j, none⟩) hl2 (by show ¬ w.heap.size + 1 = R; omega)).trans (World.cell?_alloc_at _ _ _ _ (by simp)), (hoff.frozen (p := ⟨w.heap.size + 1, j, none⟩) hl2 (by show ¬ w.heap.size + 1 = R; omega)).trans (World.frozen?_alloc_at _ _ _ _ (by simp))⟩
  have hsz1 : w.heap.size + 1 < w1.heap.size := by have := hoff.size; simp at this; omega
  have hst : ReS w1 R (w.heap.size + 1) b1 o1 (nth ps 0).l (nth ps 1).l (nth ps 0).t (nth ps 1).t (.slice a0 (nth ps 0).xs.length c0) (.slice a2 (nth ps 1).xs.length c2) w1.drew :=
    ⟨⟨⟨d0, d1, d2⟩, e0, e1, e2⟩, ⟨fun e => HZR.out (e ▸ hbz.1), hbz.2.2, by omega, hsz1⟩, (Off.refl _ _).drew, ⟨cellAt_of ((congrArg Option.isSome (hoff2 0).1).trans rfl), cellAt_of ((congrArg Option.isSome (hoff2 1).1).trans rfl)⟩, (hoff2 0).2, (hoff2 1).2⟩
  have hE1 : Env w1 := HE.out.off ((((Off.refl (fun i => i = R) w).alloc _).alloc _).trans hoff) (fun i hi => by rw [hi]; exact hG)
  have cN0 : ∀ W bb, RdI R bb W → Off (fun i => i = R ∨ i = w.heap.size + 1) w1 W → Calls Tryz.prog 120 #[.pointer (some ⟨R, 0, none⟩), fv (nth ps 0).l (nth ps 0).t (.slice a0 (nth ps 0).xs.length c0)] W fun e w' => e = .returned (.int .i64 x) ∧ RdO R bb bx W w' := fun W bb hW hO => by
    have hE := hE1.off hO (fun i hi => by rcases hi with h | h <;> omega)
    rw [HX.out, HBX.out]
    exact pnumber_any R bb (nth ps 0) (HPS.out _ (by unfold nth; rw [List.getD_eq_getElem?_getD, List.getElem?_eq_getElem (by rw [HPL.out]; omega)]; exact List.getElem_mem _)) d3 a0 c0 W hW hE.sents hE.tab
  have cN1 : ∀ W bb, RdI R bb W → Off (fun i => i = R ∨ i = w.heap.size + 1) w1 W → Calls Tryz.prog 120 #[.pointer (some ⟨R, 0, none⟩), fv (nth ps 1).l (nth ps 1).t (.slice a2 (nth ps 1).xs.length c2)] W fun e w' => e = .returned (.int .i64 y) ∧ RdO R bb by_ W w' := fun W bb hW hO => by
    have hE := hE1.off hO (fun i hi => by rcases hi with h | h <;> omega)
    rw [HY.out, HBY.out]
    exact pnumber_any R bb (nth ps 1) (HPS.out _ (by unfold nth; rw [List.getD_eq_getElem?_getD, List.getElem?_eq_getElem (by rw [HPL.out]; omega)]; exact List.getElem_mem _)) e3 a2 c2 W hW hE.sents hE.tab
  have hri1 : RdI R (b || pb) w1.drew := ⟨hri.cell, hri.free⟩
  have HRI := Lib.hid hri1
  have HST := Lib.hid hst
  have HO1 := Lib.hid ho1
  have N0 := Lib.hid cN0
  have N1 := Lib.hid cN1
  obtain ⟨l0, hl0⟩ : ∃ v, v = (nth ps 0).l := ⟨_, rfl⟩
  obtain ⟨l1, hl1⟩ : ∃ v, v = (nth ps 1).l := ⟨_, rfl⟩
  obtain ⟨t0, ht0⟩ : ∃ v, v = (nth ps 0).t := ⟨_, rfl⟩
  obtain ⟨t1, ht1⟩ : ∃ v, v = (nth ps 1).t := ⟨_, rfl⟩
  obtain ⟨n0, hn0⟩ : ∃ v, v = (nth ps 0).xs.length := ⟨_, rfl⟩
  obtain ⟨n1, hn1⟩ : ∃ v, v = (nth ps 1).xs.length := ⟨_, rfl⟩
  rw [← hl0, ← hl1, ← ht0, ← ht1, ← hn0, ← hn1] at HST
  rw [← hl0, ← ht0, ← hn0] at N0
  rw [← hl1, ← ht1, ← hn1] at N1
  clear hri1 hst ho1 cN0 cN1 hl0 hl1 ht0 ht1 hn0 hn1 d0 d1 d2 d3 d4 e0 e1 e2 e3 e4 hs1 hrow hoff hoff2 hE1 hri hbz
  go_wp2_with fail
  go_region_held3 (fun W => ((W.cell? ⟨b1, o1, none⟩ = some (.bool l0) ∧ W.cell? ⟨b1, o1 + 1, none⟩ = some (.string t0) ∧ W.cell? ⟨b1, o1 + 2, none⟩ = some (.slice a0 n0 c0)) ∧ W.cell? ⟨b1, o1 + 3, none⟩ = some (.bool l1) ∧ W.cell? ⟨b1, o1 + 4, none⟩ = some (.string t1) ∧ W.cell? ⟨b1, o1 + 5, none⟩ = some (.slice a2 n1 c2)) ∧ (b1 ≠ R ∧ b1 ≠ w.heap.size + 1 ∧ R ≠ w.heap.size + 1 ∧ w.heap.size + 1 < W.heap.size) ∧ Off (fun i => i = R ∨ i = w.heap.size + 1) w1 W ∧ (W.cell? ⟨w.heap.size + 1, 0, none⟩ = some (cellAt W ⟨w.heap.size + 1, 0, none⟩) ∧ W.cell? ⟨w.heap.size + 1, 1, none⟩ = some (cellAt W ⟨w.heap.size + 1, 1, none⟩)) ∧ W.frozen? ⟨w.heap.size + 1, 0, none⟩ = false ∧ W.frozen? ⟨w.heap.size + 1, 1, none⟩ = false)
    (first | with_reducible exact re_call ho3 (by assumption) | with_reducible exact re_call ho2 (by assumption) | with_reducible exact HST.out | with_reducible exact re_set (by assumption) _ _)
    (first
      | (go_at_call 120; have hq : ReS w1 R (w.heap.size + 1) b1 o1 l0 l1 t0 t1 (.slice a0 n0 c0) (.slice a2 n1 c2) _ := (by assumption); (with_reducible refine (N0.out _ (b || pb) HRI.out hq.2.2.1).mono ?_); rintro e w2 ⟨rfl, hi2, ho2⟩; clear hq)
      | (go_at_call 120; have hq : ReS w1 R (w.heap.size + 1) b1 o1 l0 l1 t0 t1 (.slice a0 n0 c0) (.slice a2 n1 c2) _ := (by assumption); (with_reducible refine (N1.out _ (b || pb || bx) hi2 hq.2.2.1).mono ?_); rintro e w3 ⟨rfl, hi3, ho3⟩; have hq3 := re_call ho3 hq; clear hq))
  rename_i hHeld
  have hfin : RdO R b (pb || bx || by_) w (((w3.setCell ⟨w.heap.size + 1, 0, none⟩ (.int .i64 x)).setCell ⟨w.heap.size + 1, 1, none⟩ (.int .i64 y))) := by
    have h1 : RdO R b pb w w1 := ⟨HO1.out.1, (((Off.refl (fun i => i = R) w).alloc _).alloc _).trans HO1.out.2⟩
    have h2 := (h1.trans ⟨hi2, ((Off.refl (fun i => i = R) w1).drew).trans ho2⟩).trans (y := by_) (by rw [← Bool.or_assoc]; exact ⟨hi3, ho3⟩)
    have hne : ∀ j, (⟨w.heap.size + 1, j, none⟩ : Addr) ≠ ⟨R, 0, none⟩ := fun j e => by injection e with e; omega
    refine ⟨⟨?_, ?_⟩, Off.setCell (Z := fun i => i = R) (Off.setCell (Z := fun i => i = R) h2.2 (p := ⟨w.heap.size + 1, 0, none⟩) (.inl (Nat.le_succ _)) _) (p := ⟨w.heap.size + 1, 1, none⟩) (.inl (Nat.le_succ _)) _⟩
    · rw [World.cell?_setCell_other _ _ _ _ (hne 1), World.cell?_setCell_other _ _ _ _ (hne 0)]; exact h2.1.cell
    · rw [World.frozen?_setCell, World.frozen?_setCell]; exact h2.1.free
  have z0 : ((w3.setCell ⟨w.heap.size + 1, 0, none⟩ (.int .i64 x)).setCell ⟨w.heap.size + 1, 1, none⟩ (.int .i64 y)).cell? ⟨w.heap.size + 1, 0, none⟩ = some (.int .i64 x) := by
    rw [World.cell?_setCell_other _ _ _ _ (by simp)]
    exact World.cell?_setCell_same _ _ _ hq3.2.2.2.1.1
  have z1 : ((w3.setCell ⟨w.heap.size + 1, 0, none⟩ (.int .i64 x)).setCell ⟨w.heap.size + 1, 1, none⟩ (.int .i64 y)).cell? ⟨w.heap.size + 1, 1, none⟩ = some (.int .i64 y) :=
    World.cell?_setCell_same _ _ _ (cellAt_of (cellAt_set (of_cellAt hq3.2.2.2.1.2)))
  have HFIN := Lib.hid hfin
  clear hfin hq3 hHeld ho2 ho3 hi2 hi3
  go_wp2_with fail
  exact bodyPost_ret (v := .agg #[.int .i64 x, .int .i64 y]) (by simp [results, Tryz.results121, go_sem, z0, z1]) rfl ⟨rfl, HFIN.out⟩
end Go.Proofs.YtgjcblginkdinaaGreatDoor
set_option linter.unusedVariables false
namespace Go.Proofs.YtgjcblginkdinaaGreatDoor
open Go.ChangeShapes Go.WideShapes Go.ChangeAt Go.RowKit
open Go.Lib (itoa)

theorem Tryz.infoS : (Tryz.prog.info? 9).map (fun i => (i.zero, i.size, i.bytes)) = some (some (.string ByteArray.empty), 1, 16) := by kernel_rfl

theorem row_reads {B n : Nat} {w : World} {v : Value} {xs : Lb} (h : Row 1 B w v n (xs.map .string)) : Reads w v xs := by
  obtain ⟨h0, h⟩ := h
  have hn : n = xs.length := by simpa using h0.symm
  subst hn
  rcases h with ⟨rfl, h2⟩ | ⟨b, cap, rfl, h2, h3, h4, h5, h6, h7⟩
  · exact .inl ⟨List.length_eq_zero_iff.1 h2, _, _, rfl⟩
  · by_cases e : xs = []
    · subst e; exact .inl ⟨rfl, _, _, rfl⟩
    · refine .inr ⟨e, b, 0, cap, rfl, h4, by unfold maxLen at h5; omega, h3, fun j x hx => ?_⟩
      rw [Nat.zero_add]
      exact h7 j _ (by rw [List.getElem?_map, hx]; rfl)

def TextsP (R : Nat) (b : Bool) (T : Tm) (w : World) (e : Ending) (w' : World) : Prop :=
  ∃ v, e = .returned v ∧ Row 1 w.heap.size w' v T.xs.length ((rdTexts T).1.map .string) ∧ RdO R b (rdTexts T).2 w w'

set_option maxHeartbeats 4000000 in
set_option maxRecDepth 100000 in
theorem ptexts_rd (Z : Nat → Prop) (R : Nat) (b : Bool) (T : Tm) (hn1 : T.xs.length ≤ 1000000) (a : Option Addr) (c : Nat) (w : World) (hr : RdI R b w) (hsl : SlL Z w (.slice a T.xs.length c) T.xs) (hzr : ¬ Z R) :
    Calls Tryz.prog 83 #[.pointer (some ⟨R, 0, none⟩), fv T.l T.t (.slice a T.xs.length c)] w (TextsP R b T w) := by
  have hlt := hr.lt
  obtain ⟨l, t, xs⟩ := T
  unfold TextsP rdTexts
  simp only [Tm.l, Tm.t, Tm.xs] at hsl hn1 ⊢
  have hb1 : ∀ o, Below w.heap.size w (w.alloc o) := fun o => (Below.refl _ _).alloc (Nat.le_refl _) _
  obtain ⟨n, hn⟩ : ∃ n, n = xs.length := ⟨_, rfl⟩
  rw [← hn] at hsl hn1 ⊢
  have hc : ∀ wz, Below w.heap.size w wz → Calls Tryz.prog 119 #[.pointer (some ⟨R, 0, none⟩), fv l t (.slice a n c)] wz fun e w' => e = .returned (.slice a n c) ∧ RdO R b (!l) wz w' := fun wz hz => plist_any R b l t _ a n c wz rfl (hr.below hz)
  have HC := Lib.hid hc
  have HB1 := Lib.hid hb1
  have HS := Lib.hid hsl
  have HN := Lib.hid hn
  have HR := Lib.hid hr
  have HZR := Lib.hid hzr
  clear hc hb1 hsl hn hr hzr
  go_enter Tryz.func83, Tryz.ntmps83
  go_wp2_with fail
  refine (HC.out _ (HB1.out _)).mono ?_
  rintro e w1 ⟨rfl, ho⟩
  have hro : RdO R b (!l) w w1 := ⟨ho.1, (Off.of_below (HB1.out _)).trans ho.2⟩
  have hs1 : w.heap.size ≤ w1.heap.size := hro.2.size
  have HRO := Lib.hid hro
  clear ho hro
  go_wp2_with fail
  go_loopw [5, 12] (fun v i wr => ∃ (k : Nat), k ≤ n ∧ i = .int .i64 (k : Nat) ∧ Hid (Row 1 w.heap.size wr v k ((xs.take k).map fun x => .string x.t)) ∧ Hid (RdO R b (!l || (xs.take k).any Tm.l) w wr)) (fun _ i _ => n - (intOf i).toNat)
  case atStart => exact ⟨0, Nat.zero_le _, rfl, Lib.hid (by simpa using Row.nil 1 w.heap.size w1), Lib.hid (by simpa using HRO.out)⟩
  case round =>
    obtain ⟨k, hk, rfl, HW, HO⟩ := hrel
    obtain ⟨va, vc, hv, _, _⟩ := HW.out.form'
    subst hv
    have hszr : w.heap.size ≤ wr.heap.size := HO.out.2.size
    by_cases hlt2 : k < n
    · obtain ⟨x, hx⟩ : ∃ x, xs[k]? = some x := ⟨xs[k]'(by rw [← HN.out]; exact hlt2), by simp⟩
      obtain ⟨l1, t1, ys1⟩ := x
      have hsw := HS.out.off HO.out.2 (fun i hz e => HZR.out (e ▸ hz))
      have hsw' : SlL Z wr (.slice a xs.length c) xs := by rw [← HN.out]; exact hsw
      obtain ⟨b1, o1, c1', ha1, _, _, hrow⟩ := hsw'.pos (by intro h; rw [h] at hx; cases hx)
      rw [← HN.out] at ha1
      injection ha1 with ha1 _ hc1
      subst ha1
      subst hc1
      obtain ⟨a1, c1, d0, d1, d2, d3, d4⟩ := hrow.2.2 k l1 t1 ys1 hx
      obtain ⟨m, hm⟩ : ∃ m, m = ys1.length := ⟨_, rfl⟩
      rw [← hm] at d2
      have hri := HO.out.1
      have hct : ∀ W bb, RdI R bb W → Calls Tryz.prog 82 #[.pointer (some ⟨R, 0, none⟩), fv l1 t1 (.slice a1 m c1)] W fun e w' => e = .returned (.string t1) ∧ RdO R bb l1 W w' := fun W bb hW => ptext_any R bb l1 t1 _ a1 m c1 W rfl hW
      have hal : ∀ o, RdI R (b || (!l || (xs.take k).any Tm.l)) (wr.alloc o) := fun o => hri.below ((Below.refl _ _).alloc (Nat.le_refl _) _)
      have HX := Lib.hid hx
      have HCT := Lib.hid hct
      have HAL := Lib.hid hal
      clear hx hsw hsw' hrow d3 d4 hm hri hct hal
      go_wp2_with fail
      refine (HCT.out _ _ (HAL.out _)).mono ?_
      rintro e w2 ⟨rfl, hi2, ho2⟩
      have hoff : Off (fun i => i = R) wr w2 := ((Off.refl (fun i => i = R) wr).alloc _).trans ho2
      have hrow2 := HW.out.off hoff (fun g hg e => by have := (HW.out.lt g hg).1; omega)
      have hro2 : RdO R b ((!l || (xs.take k).any Tm.l) || l1) w w2 := ⟨by rw [← Bool.or_assoc]; exact hi2, HO.out.2.trans hoff⟩
      have hsz2 : w.heap.size ≤ w2.heap.size := hro2.2.size
      have HR2 := Lib.hid hrow2
      have HO2 := Lib.hid hro2
      clear hi2 ho2 hoff hrow2 hro2
      go_wp2_with (at_builtin; refine wpList_append_row rfl (.tmp 16) (.tmp 20) 22 22 rfl 1 9 (.string ByteArray.empty) 16 Tryz.underlying22 Tryz.infoS rfl w.heap.size (.slice va k vc) k _ (by simp [Act.eval]) (by exact HR2.out.alloc _) (.slice (some ⟨w2.heap.size, 0, none⟩) 1 1) (by simp [Act.eval]) 1 [.string t1] (by exact src_new Tryz.underlying22 _ _ _ _ rfl (by intro u hu; simp only [List.mem_cons, List.not_mem_nil, or_false] at hu; subst hu; rfl)) (by simp; omega) (by omega) (by decide) ?_; intro v6 w6 hr6 ho6 hw6; obtain ⟨a6, c6, hv6⟩ := hr6.form; subst hv6; have HR6 := Lib.hid hr6; have HO6 := Lib.hid ho6; clear hr6 ho6 hw6)
      have hro6 : RdO R b (!l || (xs.take (k + 1)).any Tm.l) w w6 := by
        have e : (!l || (xs.take (k + 1)).any Tm.l) = ((!l || (xs.take k).any Tm.l) || l1) := by rw [take_snoc HX.out, List.any_append, Bool.or_assoc]; simp [Tm.l]
        rw [e]
        have hown : ∀ i, (Value.slice va k vc).ownBlock = some i → w.heap.size ≤ i := fun i hi => (HR2.out.lt i hi).1
        have ho7 : Off (fun i => (Value.slice va k vc).ownBlock = some i) w2 w6 := ((Off.refl _ w2).alloc _).trans HO6.out
        refine ⟨⟨(ho7.cell (p := ⟨R, 0, none⟩) HO2.out.1.lt (fun e => by have := hown R e; omega)).trans HO2.out.1.cell, (ho7.frozen (p := ⟨R, 0, none⟩) HO2.out.1.lt (fun e => by have := hown R e; omega)).trans HO2.out.1.free⟩, ?_⟩
        exact (HO2.out.2.trans' ho7 (fun i hi e => by have := hown i e; omega))
      exact ⟨⟨k + 1, by omega, by go_num, Lib.hid (by rw [take_snoc HX.out, List.map_append]; exact HR6.out), Lib.hid hro6⟩, by simp [intOf]; omega⟩
    · have hke : n ≤ k := by omega
      have hkn : k = n := by omega
      have htk : xs.take k = xs := List.take_of_length_le (by rw [← HN.out]; exact hke)
      have h1 := HW.out
      have h2 := HO.out
      rw [htk] at h1 h2
      have H1 := Lib.hid h1
      have H2 := Lib.hid h2
      clear h1 h2 htk hke HW HO
      go_wp2
      go_ret
      refine ⟨_, rfl, ?_, H2.out⟩
      have := H1.out
      subst hkn
      rw [List.map_map]
      exact this
end Go.Proofs.YtgjcblginkdinaaGreatDoor
set_option linter.unusedVariables false
namespace Go.Proofs.YtgjcblginkdinaaGreatDoor
open Go.ChangeShapes Go.WideShapes Go.ChangeAt Go.RowKit
open Go.Lib (itoa)

attribute [local go_sem ↓] Go.wp_at_zero Go.wp_at_succ

theorem Tryz.infoOp : (Tryz.prog.info? 56).map (fun i => (i.zero, i.size, i.bytes)) = some (some (.agg #[.int .i64 0, .int .i64 0, .int .i64 0, .int .i64 0, .int .i64 0, .slice none 0 0]), 6, 64) := by kernel_rfl

abbrev OE := Opp × Value
def ocells (es : List OE) : List Value := es.flatMap fun p => [.int .i64 p.1.kind, .int .i64 p.1.a.at_, .int .i64 p.1.a.n, .int .i64 p.1.b.at_, .int .i64 p.1.b.n, p.2]
theorem ocells_app (es fs : List OE) : ocells (es ++ fs) = ocells es ++ ocells fs := by simp [ocells]
theorem ocells_len (es : List OE) : (ocells es).length = es.length * 6 := by
  induction es with
  | nil => rfl
  | cons x r ih => rw [show x :: r = [x] ++ r from rfl, ocells_app, List.length_append, ih]; simp [ocells]; omega
theorem ocells_at {es : List OE} {j : Nat} {p : OE} (h : es[j]? = some p) : (ocells es)[j * 6]? = some (.int .i64 p.1.kind) ∧ (ocells es)[j * 6 + 1]? = some (.int .i64 p.1.a.at_) ∧ (ocells es)[j * 6 + 2]? = some (.int .i64 p.1.a.n) ∧ (ocells es)[j * 6 + 3]? = some (.int .i64 p.1.b.at_) ∧ (ocells es)[j * 6 + 4]? = some (.int .i64 p.1.b.n) ∧ (ocells es)[j * 6 + 5]? = some p.2 := by
  have e : es = es.take j ++ [p] ++ es.drop (j + 1) := by
    obtain ⟨hj, e⟩ := List.getElem?_eq_some_iff.1 h
    rw [List.append_assoc, List.singleton_append, ← e, List.getElem_cons_drop, List.take_append_drop]
  have hl : (ocells (es.take j)).length = j * 6 := by
    rw [ocells_len, List.length_take]
    have := (List.getElem?_eq_some_iff.1 h).1
    rw [Nat.min_eq_left (by omega)]
  rw [e, ocells_app, ocells_app]
  have hp : ocells [p] = [.int .i64 p.1.kind, .int .i64 p.1.a.at_, .int .i64 p.1.a.n, .int .i64 p.1.b.at_, .int .i64 p.1.b.n, p.2] := by simp [ocells]
  rw [hp]
  refine ⟨?_, ?_, ?_, ?_, ?_, ?_⟩ <;> rw [List.append_assoc, List.getElem?_append_right (by omega), hl]
  · rw [show j * 6 - j * 6 = 0 by omega]; rfl
  · rw [show j * 6 + 1 - j * 6 = 1 by omega]; rfl
  · rw [show j * 6 + 2 - j * 6 = 2 by omega]; rfl
  · rw [show j * 6 + 3 - j * 6 = 3 by omega]; rfl
  · rw [show j * 6 + 4 - j * 6 = 4 by omega]; rfl
  · rw [show j * 6 + 5 - j * 6 = 5 by omega]; rfl

def ReadsZ (Z : Nat → Prop) (w : World) (v : Value) (xs : Lb) : Prop :=
  (xs = [] ∧ ∃ a c, v = .slice a 0 c) ∨ (xs ≠ [] ∧ ∃ b o c, v = .slice (some ⟨b, o, none⟩) xs.length c ∧ xs.length ≤ c ∧ c ≤ 9223372036854775807 ∧ Z b ∧ Cells w b o xs)
theorem ReadsZ.reads {Z : Nat → Prop} {w : World} {v : Value} {xs : Lb} (h : ReadsZ Z w v xs) : Reads w v xs := by
  rcases h with h | ⟨hn, b, o, c, hv, hc, hm, _, hx⟩
  · exact .inl h
  · exact .inr ⟨hn, b, o, c, hv, hc, hm, hx⟩
theorem ReadsZ.off {Z Z' Y : Nat → Prop} {w w' : World} {v : Value} {xs : Lb} (h : ReadsZ Z w v xs) (ho : Off Y w w') (hz : ∀ i, i < w.heap.size → Z i → ¬ Y i ∧ Z' i) : ReadsZ Z' w' v xs := by
  rcases h with h | ⟨hn, b, o, c, hv, hc, hm, hb, hx⟩
  · exact .inl h
  · have hy := hz b hx.1 hb
    exact .inr ⟨hn, b, o, c, hv, hc, hm, hy.2, Nat.lt_of_lt_of_le hx.1 ho.size, fun j x hj => (ho.cell (p := ⟨b, o + j, none⟩) hx.1 hy.1).trans (hx.2 j x hj)⟩
theorem ReadsZ.form {Z : Nat → Prop} {w : World} {v : Value} {xs : Lb} (h : ReadsZ Z w v xs) : ∃ a c, v = .slice a xs.length c := by
  obtain ⟨a, c, e, _⟩ := h.reads.form
  exact ⟨a, c, e⟩
theorem row_readsZ {B n : Nat} {Z : Nat → Prop} {w : World} {v : Value} {xs : Lb} (h : Row 1 B w v n (xs.map .string)) (hz : ∀ i, B ≤ i → Z i) : ReadsZ Z w v xs := by
  obtain ⟨h0, h⟩ := h
  have hn : n = xs.length := by simpa using h0.symm
  subst hn
  rcases h with ⟨rfl, h2⟩ | ⟨b, cap, rfl, h2, h3, h4, h5, h6, h7⟩
  · exact .inl ⟨List.length_eq_zero_iff.1 h2, _, _, rfl⟩
  · by_cases e : xs = []
    · subst e; exact .inl ⟨rfl, _, _, rfl⟩
    · refine .inr ⟨e, b, 0, cap, rfl, h4, by unfold maxLen at h5; omega, hz b h2, h3, fun j x hx => ?_⟩
      rw [Nat.zero_add]
      exact h7 j _ (by rw [List.getElem?_map, hx]; rfl)

structure MadeO (B : Nat) (w : World) (v : Value) (es : List OE) : Prop where
  row : Row 6 B w v es.length (ocells es)
  sub : ∀ p ∈ es, ReadsZ (fun i => B ≤ i ∧ v.ownBlock ≠ some i) w p.2 p.1.lines
theorem MadeO.nil (B : Nat) (w : World) : MadeO B w (.slice none 0 0) [] := ⟨Row.nil _ _ _, by simp⟩
theorem MadeO.off {B : Nat} {Y : Nat → Prop} {w w' : World} {v : Value} {es : List OE} (h : MadeO B w v es) (ho : Off Y w w') (hy : ∀ i, Y i → i < B) : MadeO B w' v es :=
  ⟨h.row.off ho fun b hb hzb => by have := hy b hzb; have := (h.row.lt b hb).1; omega,
   fun p hp => (h.sub p hp).off ho fun i _ hi => ⟨fun hyi => by have := hy i hyi; have := hi.1; omega, hi⟩⟩
theorem MadeO.reads {B : Nat} {w : World} {v : Value} {es : List OE} (h : MadeO B w v es) : OReads w v (es.map (·.1)) := by
  by_cases e : es = []
  · subst e
    obtain ⟨a, c, hv, h1, h2⟩ := h.row.form'
    exact .inl ⟨rfl, a, c, hv⟩
  · obtain ⟨b, cap, hv, h1, h2, h3, h4, h5, h6⟩ := h.row.pos (List.length_pos_iff.2 e)
    refine .inr ⟨by simpa using e, b, 0, cap, by rw [List.length_map]; exact hv, by rw [List.length_map]; exact h3, by unfold maxLen at h4; omega, h2, fun j x hx => ?_⟩
    rw [List.getElem?_map] at hx
    obtain ⟨p, hp, rfl⟩ := Option.map_eq_some_iff.1 hx
    obtain ⟨c0, c1, c2, c3, c4, c5⟩ := ocells_at hp
    rw [Nat.zero_add]
    exact ⟨p.2, h6 _ _ c0, h6 _ _ c1, h6 _ _ c2, h6 _ _ c3, h6 _ _ c4, h6 _ _ c5, (h.sub p (List.mem_of_getElem? hp)).reads⟩
theorem MadeO.push {B : Nat} {w w' : World} {v v' : Value} {es : List OE} {x : Opp} {s : Value} (h : MadeO B w v es) (hs : ReadsZ (fun i => B ≤ i ∧ v.ownBlock ≠ some i) w s x.lines)
    (hr : Row 6 B w' v' (es.length + 1) (ocells es ++ [.int .i64 x.kind, .int .i64 x.a.at_, .int .i64 x.a.n, .int .i64 x.b.at_, .int .i64 x.b.n, s])) (ho : Off (fun i => v.ownBlock = some i) w w') (hw : v'.ownBlock = v.ownBlock ∨ v'.ownBlock = some w.heap.size) : MadeO B w' v' (es ++ [(x, s)]) := by
  have hz : ∀ {y : Value} {zs : Lb}, ReadsZ (fun i => B ≤ i ∧ v.ownBlock ≠ some i) w y zs → ReadsZ (fun i => B ≤ i ∧ v'.ownBlock ≠ some i) w' y zs := fun hx => hx.off ho fun i hi ⟨h1, h2⟩ => ⟨h2, h1, by
    rcases hw with e | e
    · rw [e]; exact h2
    · rw [e]; intro e2; injection e2 with e2; omega⟩
  refine ⟨?_, fun p hp => ?_⟩
  · rw [List.length_append, ocells_app]; simpa [ocells] using hr
  · rcases List.mem_append.1 hp with hp | hp
    · exact hz (h.sub p hp)
    · rw [List.mem_singleton] at hp
      subst hp
      exact hz hs
end Go.Proofs.YtgjcblginkdinaaGreatDoor
