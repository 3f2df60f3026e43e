/- The contract of the document's form. -/
import Derived.Test.YtgjcblginkdinaaGreatDoorZ24
import Derived.Test.YtgjcblginkdinaaGreatDoorZ34
set_option linter.unusedVariables false
namespace Go.Proofs.YtgjcblginkdinaaGreatDoor
open Go.ChangeShapes Go.WideShapes Go.ChangeAt Go.RowKit
open Go.Lib (itoa)

structure BoxF (b : Nat) (W : World) (v : Value) (es : List FE) : Prop where
  c : (W.cell? ⟨b, 0, none⟩ = some (.bool true) ∧ W.cell? ⟨b, 1, none⟩ = some (.string noText) ∧ W.cell? ⟨b, 2, none⟩ = some v)
  f : W.frozen? ⟨b, 2, none⟩ = false
  m : MadeU (b + 1) W v es
theorem BoxF.below {b : Nat} {W W' : World} {v : Value} {es : List FE} (h : BoxF b W v es) (hb : Below W.heap.size W W') : BoxF b W' v es := by
  have c : ∀ j u, W.cell? ⟨b, j, none⟩ = some u → W'.cell? ⟨b, j, none⟩ = some u := fun j u hu => (hb.cell (p := ⟨b, j, none⟩) (cell_lt hu)).trans hu
  exact ⟨⟨c _ _ h.c.1, c _ _ h.c.2.1, c _ _ h.c.2.2⟩, (hb.frozen (p := ⟨b, 2, none⟩) (cell_lt h.c.1)).trans h.f, h.m.below hb⟩
theorem BoxF.new (w : World) (t : TypeId) : BoxF w.heap.size (w.alloc (.cells #[.bool true, .string noText, .slice none 0 0] t)) (.slice none 0 0) [] :=
  ⟨⟨World.cell?_alloc_at _ _ _ _ rfl, World.cell?_alloc_at _ _ _ _ rfl, World.cell?_alloc_at _ _ _ _ rfl⟩, World.frozen?_alloc_at _ _ _ _ rfl, MadeU.nil _ _⟩
theorem box_push {W w2 : World} {b : Nat} {es : List FE} {va : Option Addr} {ol vc : Nat} (h : BoxF b W (.slice va ol vc) es) (hol : ol = es.length) (hlen : es.length ≤ 1000) {l : Bool} {t : ByteArray} {ys : List Tm} {s : Value} (ht : t.size ≤ 140737488355328)
    (hb2 : Below W.heap.size W w2) (hs : SlU (fun i => b + 1 ≤ i ∧ (Value.slice va ol vc).ownBlock ≠ some i) w2 s ys) :
    w2.cell? ⟨b, 2, none⟩ = some (.slice va ol vc) ∧ (w2.alloc (.cells #[.bool l, .string t, s] 61)).cell? ⟨b, 2, none⟩ = some (.slice va ol vc) ∧
    ∃ a6 c6 w6, (Builtin.append_ #[59, 59] 59 #[.slice va ol vc, .slice (some ⟨w2.heap.size, 0, none⟩) 1 1]).run Tryz.prog (w2.alloc (.cells #[.bool l, .string t, s] 61)) = .ok (.slice a6 (ol + 1) c6) w6 ∧
      w6.cell? ⟨b, 2, none⟩ = some (.slice va ol vc) ∧ w6.frozen? ⟨b, 2, none⟩ = false ∧ BoxF b (w6.setCell ⟨b, 2, none⟩ (.slice a6 (ol + 1) c6)) (.slice a6 (ol + 1) c6) (es ++ [(l, t, ys, s)]) ∧
      Off (fun i => b ≤ i) W (w6.setCell ⟨b, 2, none⟩ (.slice a6 (ol + 1) c6)) ∧ Off (fun i => (Value.slice va ol vc).ownBlock = some i) W w6 ∧ (∀ i, (Value.slice va ol vc).ownBlock = some i → b < i ∧ i < W.heap.size) := by
  have hb : Below W.heap.size W (w2.alloc (.cells #[.bool l, .string t, s] 61)) := hb2.alloc hb2.size _
  have hlt := cell_lt h.c.1
  have h2 := h.below hb2
  have h3 := h.below hb
  obtain ⟨W3, hW3⟩ : ∃ W3, W3 = w2.alloc (.cells #[.bool l, .string t, s] 61) := ⟨_, rfl⟩
  have hsrc : Src Tryz.prog 3 59 (.slice (some ⟨w2.heap.size, 0, none⟩) 1 1) 1 [.bool l, .string t, s] W3 := by
    obtain ⟨sa, sc, rfl, _, _⟩ := hs.form
    rw [hW3]
    exact src_new (P := Tryz.prog) (w := w2) (k := 3) Tryz.underlying59 [.bool l, .string t, .slice sa ys.length sc] 1 61 1 rfl (by intro u hu; simp only [List.mem_cons, List.not_mem_nil, or_false] at hu; rcases hu with rfl | rfl | rfl <;> rfl)
  have hs3 : SlU (fun i => b + 1 ≤ i ∧ (Value.slice va ol vc).ownBlock ≠ some i) W3 s ys := by rw [hW3]; exact hs.alloc _
  have hsz3 : b + 1 ≤ W3.heap.size := by have := hb.size; rw [hW3]; omega
  rw [← hW3] at h3 hb ⊢
  clear hW3
  have hrow := h3.m.row
  rw [← hol] at hrow
  obtain ⟨v', w6, hr6, hrow6, ho6, hw6⟩ := run_append_row (P := Tryz.prog) (w := W3) 59 59 59 61 (.agg #[.bool false, .string ByteArray.empty, .slice none 0 0]) 48 Tryz.underlying59 Tryz.infoForm rfl hrow _ _ _ hsrc hsz3 (by omega) (by decide)
  obtain ⟨a6, c6, hv6⟩ := hrow6.form
  subst hv6
  have hown : ∀ q, q ≤ b → ¬ (Value.slice va ol vc).ownBlock = some q := fun q hq e => by have := (hrow.lt q e).1; omega
  have c : ∀ j u, W3.cell? ⟨b, j, none⟩ = some u → w6.cell? ⟨b, j, none⟩ = some u := fun j u hu => (ho6.cell (p := ⟨b, j, none⟩) (cell_lt hu) (hown b (Nat.le_refl _))).trans hu
  have hpush : MadeU (b + 1) w6 (.slice a6 (ol + 1) c6) (es ++ [(l, t, ys, s)]) := h3.m.push hs3 ht (by rw [← hol]; exact hrow6) ho6 hw6
  have hset : Off (fun i => i = b) w6 (w6.setCell ⟨b, 2, none⟩ (.slice a6 (ol + 1) c6)) := Off.setCell (Z := fun i => i = b) (Off.refl _ _) (p := ⟨b, 2, none⟩) (.inr rfl) _
  have hoz : Off (fun i => b ≤ i) W w6 := ((Off.of_below hb).trans ho6).mono fun i hi => by
    have := (hrow.lt i hi).1; omega
  refine ⟨h2.c.2.2, h3.c.2.2, a6, c6, w6, hr6, c _ _ h3.c.2.2, (ho6.frozen (p := ⟨b, 2, none⟩) (cell_lt h3.c.1) (hown b (Nat.le_refl _))).trans h3.f, ⟨⟨?_, ?_, World.cell?_setCell_same _ _ _ (c _ _ h3.c.2.2)⟩, ?_, ?_⟩, hoz.trans (hset.mono fun i hi => by omega), ?_, ?_⟩
  · rw [World.cell?_setCell_other _ _ _ _ (by simp)]; exact c _ _ h3.c.1
  · rw [World.cell?_setCell_other _ _ _ _ (by simp)]; exact c _ _ h3.c.2.1
  · rw [World.frozen?_setCell]; exact (ho6.frozen (p := ⟨b, 2, none⟩) (cell_lt h3.c.1) (hown b (Nat.le_refl _))).trans h3.f
  · exact hpush.off hset (fun i hi => by omega)
  · exact (Off.of_below hb).trans ho6
  · exact fun i hi => ⟨by have := (hrow.lt i hi).1; omega, (h.m.row.lt i hi).2⟩

theorem fp_off {w W W2 : World} {t : ByteArray} {dv ov : Value} {b : Nat} (hb : Off (fun i => b ≤ i) W W2) (hl : w.heap.size + 1 < b) (h : FpS w t dv ov W) : FpS w t dv ov W2 := by
  obtain ⟨⟨h1, h2, h3⟩, ⟨h4, h5⟩, ⟨h6, h7, h8⟩, h9, h10, h11⟩ := h
  have c0 : ∀ j, W2.cell? ⟨w.heap.size, j, none⟩ = W.cell? ⟨w.heap.size, j, none⟩ := fun j => hb.cell (p := ⟨w.heap.size, j, none⟩) (by show w.heap.size < _; omega) (by show ¬ b ≤ w.heap.size; omega)
  have c1 : ∀ j, W2.cell? ⟨w.heap.size + 1, j, none⟩ = W.cell? ⟨w.heap.size + 1, j, none⟩ := fun j => hb.cell (p := ⟨w.heap.size + 1, j, none⟩) h5 (by show ¬ b ≤ w.heap.size + 1; omega)
  have f1 : ∀ j, W2.frozen? ⟨w.heap.size + 1, j, none⟩ = W.frozen? ⟨w.heap.size + 1, j, none⟩ := fun j => hb.frozen (p := ⟨w.heap.size + 1, j, none⟩) h5 (by show ¬ b ≤ w.heap.size + 1; omega)
  exact ⟨⟨(c0 _).trans h1, (c0 _).trans h2, (c0 _).trans h3⟩, ⟨h4.trans (hb.below (fun i hi => by omega) h4.size), Nat.lt_of_lt_of_le h5 hb.size⟩, ⟨cellAt_of (by rw [c1]; exact of_cellAt h6), cellAt_of (by rw [c1]; exact of_cellAt h7), cellAt_of (by rw [c1]; exact of_cellAt h8)⟩, by rw [f1]; exact h9, by rw [f1]; exact h10, by rw [f1]; exact h11⟩

theorem rlist0_any (w : World) : Calls Tryz.prog 72 #[.slice none 0 0] w fun e w' => e = .returned (fv true noText (.slice none 0 0)) ∧ Below w.heap.size w w' := by
  go_enter Tryz.func72, Tryz.ntmps72
  go_wp2_with fail
  refine bodyPost_ret (v := fv true noText (.slice none 0 0)) (by simp [results, Tryz.results72, go_sem]) rfl ?_
  exact ⟨rfl, (Below.refl _ _).alloc (Nat.le_refl _) _⟩

theorem step_append_run {P : Program} {w : World} {ops : Array Oper} {o : Oper} {a : Act} {K : Act → World → Prop} {Q : Exit → Act → World → Prop} {E : Prop} (hgd : o.guard = none) (s x : Operand) (t tx : TypeId)
    (ho : o.op = .call { callee := .builtin .append, args := #[s, x], argTypes := #[t, tx] }) {v xv v' : Value} {w' : World} (hs : a.eval s = v) (hx : a.eval x = xv) (hr : (Builtin.append_ #[t, tx] o.type #[v, xv]).run P w = .ok v' w') (hK : K (a.put o.dst v') w') :
    if Region.wanted o (yielded ops a.tmps) = true then Oper.wp P o a w K Q else E := by
  have hw : Region.wanted o (yielded ops a.tmps) = true := by simp [Region.wanted, hgd]
  rw [if_pos hw]
  unfold Oper.wp execOp
  simp only [ho, resolve, invoke, builtin, Sem.run_bind, Sem.run_pure, Result.andThen_ok, List.map_toArray, List.map_cons, List.map_nil, hs, hx, hr]
  exact hK
structure DepF (b bo lo : Nat) (dv : Value) (T : List Tm) (W : World) : Prop where
  c : (W.cell? ⟨b, 0, none⟩ = some (.bool true) ∧ W.cell? ⟨b, 1, none⟩ = some (.string noText) ∧ W.cell? ⟨b, 2, none⟩ = some dv)
  s : SlU (fun i => lo ≤ i ∧ i < bo) W dv T
theorem DepF.off {b bo lo : Nat} {dv : Value} {T : List Tm} {W W' : World} (h : DepF b bo lo dv T W) (ho : Off (fun i => bo ≤ i) W W') (hb : b < bo) : DepF b bo lo dv T W' := by
  have c : ∀ j u, W.cell? ⟨b, j, none⟩ = some u → W'.cell? ⟨b, j, none⟩ = some u := fun j u hu => (ho.cell (p := ⟨b, j, none⟩) (cell_lt hu) (by show ¬ bo ≤ b; omega)).trans hu
  exact ⟨⟨c _ _ h.c.1, c _ _ h.c.2.1, c _ _ h.c.2.2⟩, h.s.off ho fun i hi => by omega⟩
theorem DepF.below {b bo lo : Nat} {dv : Value} {T : List Tm} {W W' : World} (h : DepF b bo lo dv T W) (hb : Below W.heap.size W W') : DepF b bo lo dv T W' := by
  have c : ∀ j u, W.cell? ⟨b, j, none⟩ = some u → W'.cell? ⟨b, j, none⟩ = some u := fun j u hu => (hb.cell (p := ⟨b, j, none⟩) (cell_lt hu)).trans hu
  exact ⟨⟨c _ _ h.c.1, c _ _ h.c.2.1, c _ _ h.c.2.2⟩, h.s.keep hb⟩
theorem BoxF.dep {b : Nat} {W : World} {v : Value} {es : List FE} {T : List Tm} (h : BoxF b W v es) (hT : es.map FE.tm = T) : DepF b W.heap.size (b + 1) v T W :=
  ⟨h.c, by
    have := h.m.sl (Z := fun i => b + 1 ≤ i) (fun i hi => hi)
    rw [hT] at this
    exact this.mono fun i hi hz => ⟨hz, hi⟩⟩
theorem DepF.mono {b bo bo' lo : Nat} {dv : Value} {T : List Tm} {W : World} (h : DepF b bo lo dv T W) (hb : bo ≤ bo') : DepF b bo' lo dv T W := ⟨h.c, h.s.mono fun i _ hi => ⟨hi.1, by omega⟩⟩

theorem rop_list (Z : Nat → Prop) (w3 w4 w5 : World) (tK : ByteArray) (hK : tK.size ≤ 140737488355328) {lA lB lT : Bool} {tA tB tT : ByteArray} {ysA ysB ysT : List Tm} {aA aB aT : Option Addr} {cA cB cT : Nat}
    (hsA : SlU Z w3 (.slice aA ysA.length cA) ysA) (htA : tA.size ≤ 140737488355328) (hb4 : Below w3.heap.size w3 w4) (hsB : SlU Z w4 (.slice aB ysB.length cB) ysB) (htB : tB.size ≤ 140737488355328) (hb5 : Below w4.heap.size w4 w5) (hsT : SlU Z w5 (.slice aT ysT.length cT) ysT) (htT : tT.size ≤ 140737488355328)
    (hz : Z w5.heap.size) (hzn : ∀ i, w5.heap.size ≤ i → Z i) :
    Calls Tryz.prog 72 #[.slice (some ⟨w5.heap.size, 0, none⟩) 4 4] (w5.alloc (.cells #[.bool false, .string tK, .slice none 0 0, .bool lA, .string tA, .slice aA ysA.length cA, .bool lB, .string tB, .slice aB ysB.length cB, .bool lT, .string tT, .slice aT ysT.length cT] 61))
      (ListZ Z [txT tK, .mk lA tA ysA, .mk lB tB ysB, .mk lT tT ysT] (w5.alloc (.cells #[.bool false, .string tK, .slice none 0 0, .bool lA, .string tA, .slice aA ysA.length cA, .bool lB, .string tB, .slice aB ysB.length cB, .bool lT, .string tT, .slice aT ysT.length cT] 61))) := by
  have h := lit_sl (es := [(false, tK, [], .slice none 0 0), (lA, tA, ysA, .slice aA ysA.length cA), (lB, tB, ysB, .slice aB ysB.length cB), (lT, tT, ysT, .slice aT ysT.length cT)]) Z w5 4 hz rfl (by simp) (by
    intro p hp
    simp only [List.mem_cons, List.not_mem_nil, or_false] at hp
    rcases hp with rfl | rfl | rfl | rfl
    · exact ⟨hK, .nil none 0 (Nat.zero_le _)⟩
    · exact ⟨htA, (hsA.keep hb4).keep hb5⟩
    · exact ⟨htB, hsB.keep hb5⟩
    · exact ⟨htT, hsT⟩) 61
  exact rlist_any Z _ [txT tK, .mk lA tA ysA, .mk lB tB ysB, .mk lT tT ysT] _ h (fun i hi => hzn i (by simp at hi; omega)) (by simp)
theorem rop_list2 (Z : Nat → Prop) (w3 w4 : World) (tK : ByteArray) (hK : tK.size ≤ 140737488355328) {lA lB : Bool} {tA tB : ByteArray} {ysA ysB ysT : List Tm} {aA aB aT : Option Addr} {cA cB cT nT : Nat} (hn : nT = ysT.length)
    (hsA : SlU Z w3 (.slice aA ysA.length cA) ysA) (htA : tA.size ≤ 140737488355328) (hb4 : Below w3.heap.size w3 w4) (hsB : SlU Z w4 (.slice aB ysB.length cB) ysB) (htB : tB.size ≤ 140737488355328) (hsT : SlU Z w4 (.slice aT ysT.length cT) ysT)
    (hz : Z w4.heap.size) (hzn : ∀ i, w4.heap.size ≤ i → Z i) :
    Calls Tryz.prog 72 #[.slice (some ⟨w4.heap.size, 0, none⟩) 4 4] (w4.alloc (.cells #[.bool false, .string tK, .slice none 0 0, .bool lA, .string tA, .slice aA ysA.length cA, .bool lB, .string tB, .slice aB ysB.length cB, .bool true, .string noText, .slice aT nT cT] 61))
      (ListZ Z [txT tK, .mk lA tA ysA, .mk lB tB ysB, .mk true noText ysT] (w4.alloc (.cells #[.bool false, .string tK, .slice none 0 0, .bool lA, .string tA, .slice aA ysA.length cA, .bool lB, .string tB, .slice aB ysB.length cB, .bool true, .string noText, .slice aT nT cT] 61))) := by
  subst hn
  exact rop_list Z w3 w4 w4 tK hK hsA htA hb4 hsB htB (Below.refl _ _) hsT (by decide) hz hzn
theorem rpt_list (Z : Nat → Prop) (w4 : World) (tH tN : ByteArray) (hH : tH.size ≤ 140737488355328) (hN : tN.size ≤ 140737488355328) {ysD ysO : List Tm} {aD aO : Option Addr} {nD cD nO cO : Nat} (hnD : nD = ysD.length) (hnO : nO = ysO.length)
    (hsD : SlU Z w4 (.slice aD nD cD) ysD) (hsO : SlU Z w4 (.slice aO nO cO) ysO) (hz : Z w4.heap.size) (hzn : ∀ i, w4.heap.size ≤ i → Z i) :
    Calls Tryz.prog 72 #[.slice (some ⟨w4.heap.size, 0, none⟩) 4 4] (w4.alloc (.cells #[.bool false, .string tH, .slice none 0 0, .bool false, .string tN, .slice none 0 0, .bool true, .string noText, .slice aD nD cD, .bool true, .string noText, .slice aO nO cO] 61))
      (ListZ Z [txT tH, txT tN, .mk true noText ysD, .mk true noText ysO] (w4.alloc (.cells #[.bool false, .string tH, .slice none 0 0, .bool false, .string tN, .slice none 0 0, .bool true, .string noText, .slice aD nD cD, .bool true, .string noText, .slice aO nO cO] 61))) := by
  subst hnD
  subst hnO
  have h := lit_sl (es := [(false, tH, [], .slice none 0 0), (false, tN, [], .slice none 0 0), (true, noText, ysD, .slice aD ysD.length cD), (true, noText, ysO, .slice aO ysO.length cO)]) Z w4 4 hz rfl (by simp) (by
    intro p hp
    simp only [List.mem_cons, List.not_mem_nil, or_false] at hp
    rcases hp with rfl | rfl | rfl | rfl
    · exact ⟨hH, .nil none 0 (Nat.zero_le _)⟩
    · exact ⟨hN, .nil none 0 (Nat.zero_le _)⟩
    · exact ⟨by show noText.size ≤ _; decide, hsD⟩
    · exact ⟨by show noText.size ≤ _; decide, hsO⟩) 61
  exact rlist_any Z _ [txT tH, txT tN, .mk true noText ysD, .mk true noText ysO] _ h (fun i hi => hzn i (by simp at hi; omega)) (by simp)
theorem chain3 {wo w2 w3 : World} (hb2 : Below wo.drew.heap.size wo.drew w2) (hb3 : Below w2.heap.size w2 w3) : Below wo.heap.size wo w3 := by
  have h1 : Below wo.heap.size wo wo.drew := (Below.refl _ _).drew
  have h2 := h1.trans (hb2.mono h1.size)
  exact h2.trans (hb3.mono h2.size)
abbrev F2S (w : World) (b bo : Nat) (t : ByteArray) (dv ov dw ow : Value) (W : World) : Prop :=
  (W.cell? ⟨b, 0, none⟩ = some (.bool true) ∧ W.cell? ⟨b, 1, none⟩ = some (.string noText) ∧ W.cell? ⟨b, 2, none⟩ = some dw) ∧ (W.cell? ⟨bo, 0, none⟩ = some (.bool true) ∧ W.cell? ⟨bo, 1, none⟩ = some (.string noText) ∧ W.cell? ⟨bo, 2, none⟩ = some ow) ∧ FpS w t dv ov W
theorem f2_call {w W W2 : World} {b bo : Nat} {t : ByteArray} {dv ov dw ow : Value} (hb : Below W.heap.size W W2) (h : F2S w b bo t dv ov dw ow W) : F2S w b bo t dv ov dw ow W2 := by
  obtain ⟨⟨a0, a1, a2⟩, ⟨b0, b1, b2⟩, hf⟩ := h
  have c : ∀ q j u, W.cell? ⟨q, j, none⟩ = some u → W2.cell? ⟨q, j, none⟩ = some u := fun q j u hu => (hb.cell (p := ⟨q, j, none⟩) (cell_lt hu)).trans hu
  exact ⟨⟨c _ _ _ a0, c _ _ _ a1, c _ _ _ a2⟩, ⟨c _ _ _ b0, c _ _ _ b1, c _ _ _ b2⟩, fp_call hb hf⟩
theorem f2_alloc {w W : World} {b bo : Nat} {t : ByteArray} {dv ov dw ow : Value} (o : Obj) (h : F2S w b bo t dv ov dw ow W) : F2S w b bo t dv ov dw ow (W.alloc o) := f2_call ((Below.refl _ _).alloc (Nat.le_refl _) _) h
theorem f2_set {w W : World} {b bo : Nat} {t : ByteArray} {dv ov dw ow : Value} (hb : w.heap.size + 1 < b) (hbo : b < bo) (h : F2S w b bo t dv ov dw ow W) (u0 u1 u2 : Value) : F2S w b bo t dv ov dw ow (((W.setCell ⟨w.heap.size + 1, 0, none⟩ u0).setCell ⟨w.heap.size + 1, 1, none⟩ u1).setCell ⟨w.heap.size + 1, 2, none⟩ u2) := by
  obtain ⟨⟨a0, a1, a2⟩, ⟨b0, b1, b2⟩, hf⟩ := h
  have c : ∀ q j u, w.heap.size + 1 < q → W.cell? ⟨q, j, none⟩ = some u → (((W.setCell ⟨w.heap.size + 1, 0, none⟩ u0).setCell ⟨w.heap.size + 1, 1, none⟩ u1).setCell ⟨w.heap.size + 1, 2, none⟩ u2).cell? ⟨q, j, none⟩ = some u := fun q j u hq hu => by
    rw [World.cell?_setCell_other _ _ _ _ (by intro e; injection e with e; omega), World.cell?_setCell_other _ _ _ _ (by intro e; injection e with e; omega), World.cell?_setCell_other _ _ _ _ (by intro e; injection e with e; omega)]; exact hu
  exact ⟨⟨c _ _ _ hb a0, c _ _ _ hb a1, c _ _ _ hb a2⟩, ⟨c _ _ _ (by omega) b0, c _ _ _ (by omega) b1, c _ _ _ (by omega) b2⟩, fp_set hf _ _ _⟩
theorem chainR {wi w2 w3 w4 w6 : World} {o : Obj} (hb2 : Below wi.drew.heap.size wi.drew w2) (hb3 : Below w2.heap.size w2 w3) (hb4 : Below w3.heap.size w3 w4) (hb6 : Below (w4.alloc o).heap.size (w4.alloc o) w6) : Below wi.heap.size wi w4 ∧ Below wi.heap.size wi w6 := by
  have h1 : Below wi.heap.size wi wi.drew := (Below.refl _ _).drew
  have h2 := h1.trans (hb2.mono h1.size)
  have h3 := h2.trans (hb3.mono h2.size)
  have h4 := h3.trans (hb4.mono h3.size)
  have h5 := h4.alloc h4.size o
  exact ⟨h4, h5.trans (hb6.mono h5.size)⟩
theorem chainQ {wi w2 w3 w4 : World} (hb2 : Below wi.drew.heap.size wi.drew w2) (hb3 : Below w2.heap.size w2 w3) (hb4 : Below w3.heap.size w3 w4) : Below wi.heap.size wi w4 := by
  have h1 : Below wi.heap.size wi wi.drew := (Below.refl _ _).drew
  have h2 := h1.trans (hb2.mono h1.size)
  have h3 := h2.trans (hb3.mono h2.size)
  exact h3.trans (hb4.mono h3.size)
end Go.Proofs.YtgjcblginkdinaaGreatDoor
