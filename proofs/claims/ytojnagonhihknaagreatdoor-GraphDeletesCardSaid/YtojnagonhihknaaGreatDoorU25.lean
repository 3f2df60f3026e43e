/- The contract of form. -/
import Derived.Test.YtojnagonhihknaaGreatDoorU24
set_option linter.unusedVariables false
namespace Go.Proofs.YtojnagonhihknaaGreatDoor
open Go.ChangeShapes Go.WideShapes Go.ChangeAt Go.RowKit
open Go.Lib (itoa)

attribute [local go_sem ↓] Go.wp_at_zero Go.wp_at_succ

abbrev FoS (w : World) (o : Nat) (K ax ay bx bY : Int) (lv : Value) (W : World) : Prop :=
  (W.cell? ⟨o, 0, none⟩ = some (.int .i64 K) ∧ W.cell? ⟨o, 1, none⟩ = some (.int .i64 ax) ∧ W.cell? ⟨o, 2, none⟩ = some (.int .i64 ay) ∧ W.cell? ⟨o, 3, none⟩ = some (.int .i64 bx) ∧ W.cell? ⟨o, 4, none⟩ = some (.int .i64 bY) ∧ W.cell? ⟨o, 5, none⟩ = some lv) ∧ Below w.heap.size w W ∧ o < W.heap.size
theorem fo_off {w W W2 : World} {o : Nat} {K ax ay bx bY : Int} {lv : Value} {Y : Nat → Prop} (hb : Off Y W W2) (hy : ∀ i, Y i → w.heap.size ≤ i ∧ i ≠ o) (h : FoS w o K ax ay bx bY lv W) : FoS w o K ax ay bx bY lv W2 := by
  obtain ⟨⟨h0, h1, h2, h3, h4, h5⟩, h6, h7⟩ := h
  have c : ∀ j, W2.cell? ⟨o, j, none⟩ = W.cell? ⟨o, j, none⟩ := fun j => hb.cell (p := ⟨o, j, none⟩) h7 (fun e => (hy o e).2 rfl)
  refine ⟨⟨(c _).trans h0, (c _).trans h1, (c _).trans h2, (c _).trans h3, (c _).trans h4, (c _).trans h5⟩, h6.trans (hb.below (fun i hi => (hy i hi).1) h6.size), Nat.lt_of_lt_of_le h7 hb.size⟩
theorem fo_call {w W W2 : World} {o : Nat} {K ax ay bx bY : Int} {lv : Value} (hb : Below W.heap.size W W2) (h : FoS w o K ax ay bx bY lv W) : FoS w o K ax ay bx bY lv W2 := fo_off (Y := fun _ => False) (Off.of_below hb) (fun i hi => hi.elim) h
theorem fo_alloc {w W : World} {o : Nat} {K ax ay bx bY : Int} {lv : Value} (ob : Obj) (h : FoS w o K ax ay bx bY lv W) : FoS w o K ax ay bx bY lv (W.alloc ob) := fo_call ((Below.refl _ _).alloc (Nat.le_refl _) _) h
theorem fo_start {w wr : World} {K ax ay bx bY : Int} {lv : Value} {t : TypeId} (hb : Below w.heap.size w wr) : FoS w wr.heap.size K ax ay bx bY lv (wr.alloc (.cells #[.int .i64 K, .int .i64 ax, .int .i64 ay, .int .i64 bx, .int .i64 bY, lv] t)).drew := by
  obtain ⟨k1, k2, k3⟩ := boxA1 (Below.refl _ (wr.alloc (.cells #[.int .i64 K, .int .i64 ax, .int .i64 ay, .int .i64 bx, .int .i64 bY, lv] t)))
  exact ⟨⟨k1 0, k1 1, k1 2, k1 3, k1 4, k1 5⟩, (hb.trans (k2.mono hb.size)).drew, k3⟩

theorem op_list (Z : Nat → Prop) (w3 w4 w5 : World) (tK : ByteArray) (hK : tK.size ≤ 140737488355328) {lA lB lT : Bool} {tA tB tT : ByteArray} {ysA ysB ysT : List Tm} {aA aB aT : Option Addr} {cA cB cT : Nat}
    (hsA : SlU Z w3 (.slice aA ysA.length cA) ysA) (htA : tA.size ≤ 140737488355328) (hb4 : Below w3.heap.size w3 w4) (hsB : SlU Z w4 (.slice aB ysB.length cB) ysB) (htB : tB.size ≤ 140737488355328) (hb5 : Below w4.heap.size w4 w5) (hsT : SlU Z w5 (.slice aT ysT.length cT) ysT) (htT : tT.size ≤ 140737488355328)
    (hz : Z w5.heap.size) (hzn : ∀ i, w5.heap.size ≤ i → Z i) :
    Calls Tryz.prog 137 #[.slice (some ⟨w5.heap.size, 0, none⟩) 4 4] (w5.alloc (.cells #[.bool false, .string tK, .slice none 0 0, .bool lA, .string tA, .slice aA ysA.length cA, .bool lB, .string tB, .slice aB ysB.length cB, .bool lT, .string tT, .slice aT ysT.length cT] 122))
      (ListZ Z [txT tK, .mk lA tA ysA, .mk lB tB ysB, .mk lT tT ysT] (w5.alloc (.cells #[.bool false, .string tK, .slice none 0 0, .bool lA, .string tA, .slice aA ysA.length cA, .bool lB, .string tB, .slice aB ysB.length cB, .bool lT, .string tT, .slice aT ysT.length cT] 122))) := by
  have h := lit_sl (es := [(false, tK, [], .slice none 0 0), (lA, tA, ysA, .slice aA ysA.length cA), (lB, tB, ysB, .slice aB ysB.length cB), (lT, tT, ysT, .slice aT ysT.length cT)]) Z w5 4 hz rfl (by simp) (by
    intro p hp
    simp only [List.mem_cons, List.not_mem_nil, or_false] at hp
    rcases hp with rfl | rfl | rfl | rfl
    · exact ⟨hK, .nil none 0 (Nat.zero_le _)⟩
    · exact ⟨htA, (hsA.keep hb4).keep hb5⟩
    · exact ⟨htB, hsB.keep hb5⟩
    · exact ⟨htT, hsT⟩) 122
  exact list_any Z _ [txT tK, .mk lA tA ysA, .mk lB tB ysB, .mk lT tT ysT] _ h (fun i hi => hzn i (by simp at hi; omega)) (by simp)
theorem chain6 {wr w2 w3 w4 w5 w6 : World} {o o4 : Obj} (hb2 : Below (wr.alloc o).drew.heap.size (wr.alloc o).drew w2) (hb3 : Below w2.heap.size w2 w3) (hb4 : Below w3.heap.size w3 w4) (hb5 : Below w4.heap.size w4 w5) (hb6 : Below (w5.alloc o4).heap.size (w5.alloc o4) w6) : Below wr.heap.size wr w6 := by
  have h1 : Below wr.heap.size wr (wr.alloc o).drew := ((Below.refl _ _).alloc (Nat.le_refl _) _).drew
  have h2 := h1.trans (hb2.mono h1.size)
  have h3 := h2.trans (hb3.mono h2.size)
  have h4 := h3.trans (hb4.mono h3.size)
  have h5 := h4.trans (hb5.mono h4.size)
  have h6 := h5.alloc h5.size o4
  exact h6.trans (hb6.mono h6.size)

theorem chain4 {wr w2 w3 w4 : World} (hb2 : Below wr.drew.heap.size wr.drew w2) (hb3 : Below w2.heap.size w2 w3) (hb4 : Below w3.heap.size w3 w4) : Below wr.heap.size wr w4 := by
  have h1 : Below wr.heap.size wr wr.drew := (Below.refl _ _).drew
  have h2 := h1.trans (hb2.mono h1.size)
  have h3 := h2.trans (hb3.mono h2.size)
  exact h3.trans (hb4.mono h3.size)

theorem pt_list (Z : Nat → Prop) (w4 w5 : World) (tH tN : ByteArray) (hH : tH.size ≤ 140737488355328) (hN : tN.size ≤ 140737488355328) {lT : Bool} {tT : ByteArray} {ysT ys : List Tm} {aT la : Option Addr} {cT ln lc : Nat}
    (hsT : SlU Z w4 (.slice aT ysT.length cT) ysT) (htT : tT.size ≤ 140737488355328) (hb5 : Below w4.heap.size w4 w5) (hln : ln = ys.length) (hlz : SlU Z w5 (.slice la ln lc) ys)
    (hz : Z w5.heap.size) (hzn : ∀ i, w5.heap.size ≤ i → Z i) :
    Calls Tryz.prog 137 #[.slice (some ⟨w5.heap.size, 0, none⟩) 4 4] (w5.alloc (.cells #[.bool false, .string tH, .slice none 0 0, .bool false, .string tN, .slice none 0 0, .bool lT, .string tT, .slice aT ysT.length cT, .bool true, .string noText, .slice la ln lc] 122))
      (ListZ Z [txT tH, txT tN, .mk lT tT ysT, .mk true noText ys] (w5.alloc (.cells #[.bool false, .string tH, .slice none 0 0, .bool false, .string tN, .slice none 0 0, .bool lT, .string tT, .slice aT ysT.length cT, .bool true, .string noText, .slice la ln lc] 122))) := by
  subst hln
  have h := lit_sl (es := [(false, tH, [], .slice none 0 0), (false, tN, [], .slice none 0 0), (lT, tT, ysT, .slice aT ysT.length cT), (true, noText, ys, .slice la ys.length lc)]) Z w5 4 hz rfl (by simp) (by
    intro p hp
    simp only [List.mem_cons, List.not_mem_nil, or_false] at hp
    rcases hp with rfl | rfl | rfl | rfl
    · exact ⟨hH, .nil none 0 (Nat.zero_le _)⟩
    · exact ⟨hN, .nil none 0 (Nat.zero_le _)⟩
    · exact ⟨htT, hsT.keep hb5⟩
    · exact ⟨by show noText.size ≤ _; decide, hlz⟩) 122
  exact list_any Z _ [txT tH, txT tN, .mk lT tT ysT, .mk true noText ys] _ h (fun i hi => hzn i (by simp at hi; omega)) (by simp)

abbrev FpS (w : World) (t : ByteArray) (dv ov : Value) (W : World) : Prop :=
  (W.cell? ⟨w.heap.size, 0, none⟩ = some (.string t) ∧ W.cell? ⟨w.heap.size, 1, none⟩ = some dv ∧ W.cell? ⟨w.heap.size, 2, none⟩ = some ov) ∧ (Below w.heap.size w W ∧ w.heap.size + 1 < W.heap.size) ∧ (W.cell? ⟨w.heap.size + 1, 0, none⟩ = some (cellAt W ⟨w.heap.size + 1, 0, none⟩) ∧ W.cell? ⟨w.heap.size + 1, 1, none⟩ = some (cellAt W ⟨w.heap.size + 1, 1, none⟩) ∧ W.cell? ⟨w.heap.size + 1, 2, none⟩ = some (cellAt W ⟨w.heap.size + 1, 2, none⟩)) ∧ (W.frozen? ⟨w.heap.size + 1, 0, none⟩ = false ∧ W.frozen? ⟨w.heap.size + 1, 1, none⟩ = false ∧ W.frozen? ⟨w.heap.size + 1, 2, none⟩ = false)
theorem fp_call {w W W2 : World} {t : ByteArray} {dv ov : Value} (hb : Below W.heap.size W W2) (h : FpS w t dv ov W) : FpS w t dv ov W2 := by
  obtain ⟨⟨h1, h2, h3⟩, ⟨h4, h5⟩, ⟨h6, h7, h8⟩, h9, h10, h11⟩ := h
  have c0 : ∀ j, W2.cell? ⟨w.heap.size, j, none⟩ = W.cell? ⟨w.heap.size, j, none⟩ := fun j => hb.cell (p := ⟨w.heap.size, j, none⟩) (by show w.heap.size < _; omega)
  have c1 : ∀ j, W2.cell? ⟨w.heap.size + 1, j, none⟩ = W.cell? ⟨w.heap.size + 1, j, none⟩ := fun j => hb.cell (p := ⟨w.heap.size + 1, j, none⟩) h5
  have f1 : ∀ j, W2.frozen? ⟨w.heap.size + 1, j, none⟩ = W.frozen? ⟨w.heap.size + 1, j, none⟩ := fun j => hb.frozen (p := ⟨w.heap.size + 1, j, none⟩) h5
  exact ⟨⟨(c0 _).trans h1, (c0 _).trans h2, (c0 _).trans h3⟩, ⟨h4.trans (hb.mono h4.size), Nat.lt_of_lt_of_le h5 hb.size⟩, ⟨cellAt_of (by rw [c1]; exact of_cellAt h6), cellAt_of (by rw [c1]; exact of_cellAt h7), cellAt_of (by rw [c1]; exact of_cellAt h8)⟩, by rw [f1]; exact h9, by rw [f1]; exact h10, by rw [f1]; exact h11⟩
theorem fp_alloc {w W : World} {t : ByteArray} {dv ov : Value} (o : Obj) (h : FpS w t dv ov W) : FpS w t dv ov (W.alloc o) := fp_call ((Below.refl _ _).alloc (Nat.le_refl _) _) h
theorem fp_start {w wr : World} {t : ByteArray} {dv ov : Value} {t1 t2 : TypeId} {u1 u2 u3 : Value} (hb : Below ((w.alloc (.cells #[.string t, dv, ov] t1)).alloc (.cells #[u1, u2, u3] t2)).heap.size ((w.alloc (.cells #[.string t, dv, ov] t1)).alloc (.cells #[u1, u2, u3] t2)) wr) : FpS w t dv ov wr.drew := by
  obtain ⟨k1, k2, k3, k4⟩ := boxA2 hb
  have f : ∀ j, wr.frozen? ⟨w.heap.size + 1, j, none⟩ = false := fun j => (hb.frozen (p := ⟨w.heap.size + 1, j, none⟩) (by simp)).trans (World.frozen?_alloc_at _ _ _ _ (by simp))
  exact ⟨⟨k1 0, k1 1, k1 2⟩, ⟨k3.drew, k4⟩, ⟨cellAt_of ((congrArg Option.isSome (k2 0)).trans rfl), cellAt_of ((congrArg Option.isSome (k2 1)).trans rfl), cellAt_of ((congrArg Option.isSome (k2 2)).trans rfl)⟩, f 0, f 1, f 2⟩
theorem fp_set {w W : World} {t : ByteArray} {dv ov : Value} (h : FpS w t dv ov W) (u0 u1 u2 : Value) : FpS w t dv ov (((W.setCell ⟨w.heap.size + 1, 0, none⟩ u0).setCell ⟨w.heap.size + 1, 1, none⟩ u1).setCell ⟨w.heap.size + 1, 2, none⟩ u2) := by
  obtain ⟨⟨h1, h2, h3⟩, ⟨h4, h5⟩, ⟨h6, h7, h8⟩, h9, h10, h11⟩ := h
  have hne : ∀ j i, (⟨w.heap.size, j, none⟩ : Addr) ≠ ⟨w.heap.size + 1, i, none⟩ := fun j i e => by injection e with e; omega
  refine ⟨⟨?_, ?_, ?_⟩, ⟨((h4.setCell (p := ⟨w.heap.size + 1, 0, none⟩) (Nat.le_succ _) _).setCell (p := ⟨w.heap.size + 1, 1, none⟩) (Nat.le_succ _) _).setCell (p := ⟨w.heap.size + 1, 2, none⟩) (Nat.le_succ _) _, by simpa [World.setCell] using h5⟩, ⟨?_, ?_, ?_⟩, ?_, ?_, ?_⟩
  all_goals first
    | (rw [World.frozen?_setCell, World.frozen?_setCell, World.frozen?_setCell]; assumption)
    | (exact cellAt_of (cellAt_set (cellAt_set (cellAt_set (of_cellAt (by assumption))))))
    | (rw [World.cell?_setCell_other _ _ _ _ (hne _ _).symm, World.cell?_setCell_other _ _ _ _ (hne _ _).symm, World.cell?_setCell_other _ _ _ _ (hne _ _).symm]; assumption)

set_option maxHeartbeats 8000000 in
set_option maxRecDepth 100000 in
theorem pform_any (Z : Nat → Prop) (p : Pt) (dv ov : Value) (w : World) (hp : PReads w p.note dv ov p) (hf : p.fine) (hd : p.deps.length ≤ 64) (hol : p.ops.length ≤ 400) (hln : linesN p.ops ≤ 300) (ht : HasTab w) (hzn : ∀ i, w.heap.size ≤ i → Z i) :
    Calls Tryz.prog 113 #[ptV p.note dv ov] w fun e w' => ∃ v, e = .returned v ∧ IsV Z w' v (ptT p) ∧ Below w.heap.size w w' := by
  obtain ⟨_, hdr, ho⟩ := hp
  obtain ⟨da, dc, rfl, hdn⟩ := hdr.form
  obtain ⟨oa, oc, rfl, hon⟩ := ho.form
  obtain ⟨t, htt⟩ : ∃ t, t = p.note := ⟨_, rfl⟩
  obtain ⟨n, hnn⟩ : ∃ n, n = p.ops.length := ⟨_, rfl⟩
  obtain ⟨m, hmm⟩ : ∃ m, m = p.deps.length := ⟨_, rfl⟩
  rw [← htt]
  rw [← hnn] at ho hon hol ⊢
  rw [← hmm] at hdr hdn hd ⊢
  obtain ⟨ob, hmk, hmade⟩ := make_forms n (by omega) ((w.alloc (.cells #[.string t, .slice da m dc, .slice oa n oc] 47)).alloc (.cells #[.bool false, .string ⟨#[]⟩, .slice none 0 0] 122))
  have HN := Lib.hid hnn
  have HM := Lib.hid hmm
  have HT := Lib.hid htt
  have HO := Lib.hid ho
  have HD := Lib.hid hdr
  have HF := Lib.hid hf
  have HLN := Lib.hid hln
  have HTB := Lib.hid ht
  have HMK := Lib.hid (hmade (w.heap.size + 2) (by simp))
  have HZN := Lib.hid hzn
  clear hnn hmm htt ho hdr hf hln ht hmade hzn
  go_enter Tryz.func113, Tryz.ntmps113
  go_wp2_with fail
  go_loopw [3, 13] (fun v i wr => ∃ (k : Nat) (es : List FE), k ≤ n ∧ i = .int .i64 (k : Nat) ∧ Hid (es.length = k) ∧ Hid (es.map FE.tm = (p.ops.take k).map opT) ∧ Hid (MadeU (w.heap.size + 2) wr v es) ∧ Hid (Below ((w.alloc (.cells #[.string t, .slice da m dc, .slice oa n oc] 47)).alloc (.cells #[.bool false, .string ⟨#[]⟩, .slice none 0 0] 122)).heap.size ((w.alloc (.cells #[.string t, .slice da m dc, .slice oa n oc] 47)).alloc (.cells #[.bool false, .string ⟨#[]⟩, .slice none 0 0] 122)) wr)) (fun _ i _ => n - (intOf i).toNat)
  case atStart =>
    refine ⟨0, [], Nat.zero_le _, rfl, Lib.hid rfl, Lib.hid (by simp), Lib.hid ?_, Lib.hid ((Below.refl _ _).alloc (Nat.le_refl _) _)⟩
    have := HMK.out
    simpa using this
  case round =>
    obtain ⟨k, es, hk, rfl, HEL, HMP, HMD, HBL⟩ := hrel
    obtain ⟨va, vc, hv, _, _⟩ := HMD.out.row.form'
    rw [HEL.out] at hv
    subst hv
    obtain ⟨q1, q2, qb, qs⟩ := boxA2 HBL.out
    have q10 := q1 0
    have q11 := q1 1
    have q12 := q1 2
    have HBW := Lib.hid qb
    have hown : ∀ i, (Value.slice va k vc).ownBlock = some i → w.heap.size ≤ i ∧ i ≠ wr.heap.size := fun i hi => by have := HMD.out.row.lt i hi; omega
    have HOWN := Lib.hid hown
    clear qb q1 hown
    by_cases hlt : k < n
    · obtain ⟨x, hx⟩ : ∃ x, p.ops[k]? = some x := ⟨p.ops[k]'(by rw [← HN.out]; exact hlt), by simp⟩
      obtain ⟨b, o', rfl, hnl, hcl⟩ := HO.out.at hx
      clear hnl
      obtain ⟨lv, d0, d1, d2, d3, d4, d5, d6⟩ := (hcl.below HBW.out).2 k x hx
      have hcl0 := hcl.2 k x hx
      obtain ⟨lv', _, _, _, _, _, e5, e6⟩ := hcl0
      have elv : lv = lv' := by
        have h1 := (HBW.out.cell (p := ⟨b, o' + k * 6 + 5, none⟩) hcl.1).trans e5
        rw [d5] at h1; injection h1
      subst elv
      obtain ⟨la, lc, hlv, _⟩ := e6.form
      obtain ⟨N, hN⟩ : ∃ N, N = x.lines.length := ⟨_, rfl⟩
      rw [← hN] at hlv
      subst hlv
      have hwf := HF.out.wf x (List.mem_of_getElem? hx)
      have hlx : x.lines.length ≤ 1000 := by have h1 := lines_mem (List.mem_of_getElem? hx); have := HLN.out; omega
      have cK : ∀ W, FoS w wr.heap.size x.kind x.a.at_ x.a.n x.b.at_ x.b.n (.slice la N lc) W → Calls Tryz.prog 138 #[.int .i64 x.kind] W fun e w' => e = .returned (fv false (tx (itoa x.kind)) (.slice none 0 0)) ∧ Below W.heap.size W w' := fun W hW => num_any x.kind W hwf.1.1 hwf.1.2 (HTB.out.below hW.2.1)
      have cA : ∀ W, FoS w wr.heap.size x.kind x.a.at_ x.a.n x.b.at_ x.b.n (.slice la N lc) W → Calls Tryz.prog 139 #[.agg #[.int .i64 x.a.at_, .int .i64 x.a.n]] W fun e w' => ∃ v, e = .returned v ∧ IsV (fun i => wr.heap.size ≤ i) w' v (rfT x.a) ∧ Below W.heap.size W w' := fun W hW => prefForm_any _ x.a W hwf.2.1 (fun i hi => by have := hW.2.2; omega) (HTB.out.below hW.2.1)
      have cB : ∀ W, FoS w wr.heap.size x.kind x.a.at_ x.a.n x.b.at_ x.b.n (.slice la N lc) W → Calls Tryz.prog 139 #[.agg #[.int .i64 x.b.at_, .int .i64 x.b.n]] W fun e w' => ∃ v, e = .returned v ∧ IsV (fun i => wr.heap.size ≤ i) w' v (rfT x.b) ∧ Below W.heap.size W w' := fun W hW => prefForm_any _ x.b W hwf.2.2 (fun i hi => by have := hW.2.2; omega) (HTB.out.below hW.2.1)
      have cT : ∀ W, FoS w wr.heap.size x.kind x.a.at_ x.a.n x.b.at_ x.b.n (.slice la N lc) W → Calls Tryz.prog 140 #[.slice la N lc] W fun e w' => ∃ v, e = .returned v ∧ IsV (fun i => wr.heap.size ≤ i) w' v (tsT x.lines) ∧ Below W.heap.size W w' := fun W hW => ptextsForm_any _ x.lines _ W (e6.below hW.2.1) hlx (HF.out.ops x (List.mem_of_getElem? hx)) (fun i hi => by have := hW.2.2; omega)
      have hks : (tx (itoa x.kind)).size ≤ 140737488355328 := itoa_size _ hwf.1.1 hwf.1.2
      have HX := Lib.hid hx
      have CK := Lib.hid cK
      have CA := Lib.hid cA
      have CB := Lib.hid cB
      have CT := Lib.hid cT
      have HKS := Lib.hid hks
      clear hx hcl d6 e5 e6 hwf hlx cK cA cB cT hks hN
      obtain ⟨K, ⟨ax, ay⟩, ⟨bx, bY⟩, ls⟩ := x
      simp only at d0 d1 d2 d3 d4 CK CA CB CT
      have hfs := fo_start (w := w) (wr := wr) (K := K) (ax := ax) (ay := ay) (bx := bx) (bY := bY) (lv := .slice la N lc) (t := 59) HBW.out
      have HFS := Lib.hid hfs
      clear hfs
      go_wp2_with fail
      go_region_held3 (fun W => (W.cell? ⟨wr.heap.size, 0, none⟩ = some (.int .i64 K) ∧ W.cell? ⟨wr.heap.size, 1, none⟩ = some (.int .i64 ax) ∧ W.cell? ⟨wr.heap.size, 2, none⟩ = some (.int .i64 ay) ∧ W.cell? ⟨wr.heap.size, 3, none⟩ = some (.int .i64 bx) ∧ W.cell? ⟨wr.heap.size, 4, none⟩ = some (.int .i64 bY) ∧ W.cell? ⟨wr.heap.size, 5, none⟩ = some (.slice la N lc)) ∧ Below w.heap.size w W ∧ wr.heap.size < W.heap.size)
        (first | with_reducible exact fo_call hb6 (by assumption) | with_reducible exact fo_call hb5 (by assumption) | with_reducible exact fo_call hb4 (by assumption) | with_reducible exact fo_call hb3 (by assumption) | with_reducible exact fo_call hb2 (by assumption) | with_reducible exact fo_alloc _ (by assumption) | with_reducible exact HFS.out | with_reducible exact fo_off ho7 HOWN.out (by assumption))
        (first
          | (go_at_call 138; (with_reducible refine (CK.out _ (by assumption)).mono ?_); rintro e w2 ⟨rfl, hb2⟩)
          | (go_at_call 139; (with_reducible refine (CA.out _ (by assumption)).mono ?_); rintro e w3 ⟨vA, rfl, ⟨lA, tA, ysA, aA, _, cA, rfl, rfl, hTA, htA, hsA⟩, hb3⟩)
          | (go_at_call 139; (with_reducible refine (CB.out _ (by assumption)).mono ?_); rintro e w4 ⟨vB, rfl, ⟨lB, tB, ysB, aB, _, cB, rfl, rfl, hTB, htB, hsB⟩, hb4⟩)
          | (go_at_call 140; have hq : FoS w wr.heap.size K ax ay bx bY (.slice la N lc) _ := (by assumption); (with_reducible refine (CT.out _ (by assumption)).mono ?_); rintro e w5 ⟨vT, rfl, ⟨lT, tT, ysT, aT, _, cT, rfl, rfl, hTT, htT, hsT⟩, hb5⟩; have hz5 : wr.heap.size < w5.heap.size := Nat.lt_of_lt_of_le hq.2.2 hb5.size; clear hq)
          | (go_at_call 137; (with_reducible refine (op_list (fun i => wr.heap.size ≤ i) w3 w4 w5 (tx (itoa K)) HKS.out hsA htA hb4 hsB htB hb5 hsT htT (Nat.le_of_lt hz5) (fun i hi => Nat.le_trans (Nat.le_of_lt hz5) hi)).mono ?_); rintro e w6 ⟨la6, n6, lc6, rfl, hl6, hb6, hlz⟩; obtain rfl : n6 = 4 := hl6)
          | (have hch := chain6 hb2 hb3 hb4 hb5 hb6; (refine step_append_row rfl (.tmp 17) (.tmp 32) 120 120 rfl 3 122 (.agg #[.bool false, .string ByteArray.empty, .slice none 0 0]) 48 Tryz.underlying120 Tryz.infoForm rfl (w.heap.size + 2) (.slice va k vc) k (fcells es) (by simp [Act.eval]) (by have := (HMD.out.row.below hch).alloc (.cells #[.bool true, .string noText, .slice la6 4 lc6] 122); rw [HEL.out] at this; exact this) (.slice (some ⟨w6.heap.size, 0, none⟩) 1 1) (by simp [Act.eval]) 1 [.bool true, .string noText, .slice la6 4 lc6] (by exact src_new Tryz.underlying120 _ _ _ _ rfl (by intro u hu; simp only [List.mem_cons, List.not_mem_nil, or_false] at hu; rcases hu with rfl | rfl | rfl <;> rfl)) (by have := hch.size; simp; omega) (by omega) (by decide) ?_); intro v7 w7 hr7 ho7 hw7; obtain ⟨a7, c7, hv7⟩ := hr7.form; subst hv7; have HR7 := Lib.hid hr7; have HW7 := Lib.hid hw7; clear hr7 hw7))
      rename_i hHeld
      have hys : Tm.mk true noText [txT (tx (itoa K)), .mk lA tA ysA, .mk lB tB ysB, .mk lT tT ysT] = opT ⟨K, ⟨ax, ay⟩, ⟨bx, bY⟩, ls⟩ := by
        show liT _ = liT _
        rw [← hTA, ← hTB, ← hTT]; rfl
      have hmd6 := (HMD.out.below hch).below ((Below.refl _ w6).alloc (Nat.le_refl _) (.cells #[.bool true, .string noText, .slice la6 4 lc6] 122))
      have hpush := hmd6.push (l := true) (t := noText) (s := .slice la6 4 lc6) ((hlz.alloc _).mono (fun i _ hi => ⟨by omega, fun e => by have := HMD.out.row.lt i e; omega⟩)) (by decide) (by rw [HEL.out]; exact HR7.out) ho7 HW7.out
      have hbl7 : Below ((w.alloc (.cells #[.string t, .slice da m dc, .slice (some ⟨b, o', none⟩) n oc] 47)).alloc (.cells #[.bool false, .string ⟨#[]⟩, .slice none 0 0] 122)).heap.size ((w.alloc (.cells #[.string t, .slice da m dc, .slice (some ⟨b, o', none⟩) n oc] 47)).alloc (.cells #[.bool false, .string ⟨#[]⟩, .slice none 0 0] 122)) w7 := by
        have h1 := HBL.out.trans (hch.mono HBL.out.size)
        refine (h1.alloc h1.size (.cells #[.bool true, .string noText, .slice la6 4 lc6] 122)).trans (ho7.below (fun i hi => by have := (HMD.out.row.lt i hi).1; simp; omega) (by have := h1.size; simp at this ⊢; omega))
      have HPU := Lib.hid hpush
      have HBL7 := Lib.hid hbl7
      have HYS := Lib.hid hys
      clear hpush hbl7 hys hmd6 hHeld hch hb2 hb3 hb4 hb5 hb6 ho7 hlz hsA hsB hsT hTA hTB hTT
      go_wp2_with fail
      exact ⟨⟨k + 1, _, by omega, by go_num, Lib.hid (by rw [List.length_append, HEL.out]; rfl), Lib.hid (by rw [List.map_append, HMP.out, take_snoc HX.out, List.map_append, List.map_singleton, List.map_singleton, ← HYS.out]), Lib.hid HPU.out, Lib.hid HBL7.out⟩, by simp [intOf]; omega⟩
    · have hke : n ≤ k := by omega
      have hslo : SlU (fun i => w.heap.size + 2 ≤ i) wr (.slice va k vc) (p.ops.map opT) := by
        have := HMD.out.sl (Z := fun i => w.heap.size + 2 ≤ i) (fun i hi => hi)
        rw [HMP.out, List.take_of_length_le (by rw [← HN.out]; exact hke)] at this
        exact this
      have cL : ∀ W, Below wr.heap.size wr W → Calls Tryz.prog 137 #[.slice va k vc] W (ListZ (fun i => w.heap.size + 2 ≤ i) (p.ops.map opT) W) := fun W hW =>
        list_any _ _ _ W (hslo.keep hW) (fun i hi => by have := hW.size; omega) (by rw [List.length_map, ← HN.out]; omega)
      have cH : ∀ W : World, Calls Tryz.prog 141 #[.string ⟨#[116, 97, 109, 98, 111, 117, 114]⟩] W fun e w' => e = .returned (fv false headB (.slice none 0 0)) ∧ Below W.heap.size W w' := fun W => text_any headB W
      have cN : ∀ W : World, Calls Tryz.prog 141 #[.string t] W fun e w' => e = .returned (fv false t (.slice none 0 0)) ∧ Below W.heap.size W w' := fun W => text_any t W
      have cD : ∀ W, Below w.heap.size w W ∧ w.heap.size + 1 < W.heap.size → Calls Tryz.prog 140 #[.slice da m dc] W fun e w' => ∃ v, e = .returned v ∧ IsV (fun i => w.heap.size + 2 ≤ i) w' v (tsT p.deps) ∧ Below W.heap.size W w' := fun W hW =>
        ptextsForm_any _ p.deps _ W (HD.out.below hW.1) (by rw [← HM.out]; omega) HF.out.deps (fun i hi => by have := hW.2; omega)
      have hts : t.size ≤ 140737488355328 := by rw [HT.out]; exact HF.out.note
      have hfs := fp_start HBL.out
      have HFS := Lib.hid hfs
      have CL := Lib.hid cL
      have CH := Lib.hid cH
      have CN := Lib.hid cN
      have CD := Lib.hid cD
      have HTS := Lib.hid hts
      clear cL cH cN cD hts hslo hfs
      go_wp2_with fail
      go_region_held3 (fun W => (W.cell? ⟨w.heap.size, 0, none⟩ = some (.string t) ∧ W.cell? ⟨w.heap.size, 1, none⟩ = some (.slice da m dc) ∧ W.cell? ⟨w.heap.size, 2, none⟩ = some (.slice oa n oc)) ∧ (Below w.heap.size w W ∧ w.heap.size + 1 < W.heap.size) ∧ (W.cell? ⟨w.heap.size + 1, 0, none⟩ = some (cellAt W ⟨w.heap.size + 1, 0, none⟩) ∧ W.cell? ⟨w.heap.size + 1, 1, none⟩ = some (cellAt W ⟨w.heap.size + 1, 1, none⟩) ∧ W.cell? ⟨w.heap.size + 1, 2, none⟩ = some (cellAt W ⟨w.heap.size + 1, 2, none⟩)) ∧ (W.frozen? ⟨w.heap.size + 1, 0, none⟩ = false ∧ W.frozen? ⟨w.heap.size + 1, 1, none⟩ = false ∧ W.frozen? ⟨w.heap.size + 1, 2, none⟩ = false))
        (first | with_reducible exact fp_call hb6 (by assumption) | with_reducible exact fp_call hb5 (by assumption) | with_reducible exact fp_call hb4 (by assumption) | with_reducible exact fp_call hb3 (by assumption) | with_reducible exact fp_call hb2 (by assumption) | with_reducible exact fp_alloc _ (by assumption) | with_reducible exact HFS.out | with_reducible exact fp_set (by assumption) _ _ _)
        (first
          | (go_at_call 141; (with_reducible refine (CH.out _).mono ?_); rintro e w2 ⟨rfl, hb2⟩)
          | (go_at_call 141; (with_reducible refine (CN.out _).mono ?_); rintro e w3 ⟨rfl, hb3⟩)
          | (go_at_call 140; have hq : FpS w t (.slice da m dc) (.slice oa n oc) _ := (by assumption); (with_reducible refine (CD.out _ hq.2.1).mono ?_); rintro e w4 ⟨vT, rfl, ⟨lT, tT, ysT, aT, _, cT, rfl, rfl, hTT, htT, hsT⟩, hb4⟩; have hz4 : w.heap.size + 1 < w4.heap.size := Nat.lt_of_lt_of_le hq.2.1.2 hb4.size; clear hq)
          | (go_at_call 137; (with_reducible refine (CL.out _ (chain4 hb2 hb3 hb4)).mono ?_); rintro e w5 ⟨la, ln, lc, rfl, hln, hb5, hlz⟩; have HLN5 := Lib.hid hln; clear hln)
          | (go_at_call 137; have hq5 : FpS w t (.slice da m dc) (.slice oa n oc) _ := (by assumption); (with_reducible refine (pt_list (fun i => w.heap.size + 2 ≤ i) w4 w5 headB t (by decide) HTS.out hsT htT hb5 HLN5.out hlz (by have := hb5.size; omega) (fun i hi => by have := hb5.size; omega)).mono ?_); rintro e w6 ⟨l6, n6, c6, rfl, hl6, hb6, hlz6⟩; obtain rfl : n6 = 4 := hl6; have hs6 := fp_call hb6 hq5))
      rename_i hHeld
      have hTm : Tm.mk true noText [txT headB, txT t, .mk lT tT ysT, .mk true noText (p.ops.map opT)] = ptT p := by
        show liT _ = liT _
        rw [← hTT, HT.out]; rfl
      have HKB := Lib.hid hHeld.2.1.1
      obtain ⟨z0, z1, z2⟩ := end3 (of_cellAt hs6.2.2.1.1) (of_cellAt hs6.2.2.1.2.1) (of_cellAt hs6.2.2.1.2.2) (.bool true) (.string noText) (.slice l6 4 c6)
      have HZ1 := Lib.hid (end3_sl (b := w.heap.size + 1) hlz6 (fun i hi e => by have hi' : w.heap.size + 2 ≤ i := hi; omega) (.bool true) (.string noText) (.slice l6 4 c6))
      have HTM := Lib.hid hTm
      clear hHeld hq5 hs6 hlz6 hb2 hb3 hb4 hb5 hb6 hlz hsT hTT hTm
      go_wp2_with fail
      refine bodyPost_ret (v := fv true noText (.slice l6 4 c6)) (by simp [results, Tryz.results113, go_sem, z0, z1, z2]) rfl ⟨_, rfl, ⟨true, noText, _, l6, 4, c6, rfl, rfl, HTM.out.symm, by decide, HZ1.out.mono fun i _ hi => HZN.out i (by have hi' : w.heap.size + 2 ≤ i := hi; omega)⟩, HKB.out⟩
end Go.Proofs.YtojnagonhihknaaGreatDoor
