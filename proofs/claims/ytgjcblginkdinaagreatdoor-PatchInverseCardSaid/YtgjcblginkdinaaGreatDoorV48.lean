/- The contract of the document's turn: a ref with other Deps. The document's Inverse: what lies about it in memory. -/
import Derived.Test.YtgjcblginkdinaaGreatDoorV41
import Derived.Test.YtgjcblginkdinaaGreatDoorV46
import Derived.Test.YtgjcblginkdinaaGreatDoorV47
set_option linter.unusedVariables false
namespace Go.Proofs.YtgjcblginkdinaaGreatDoor
open Go.ChangeShapes Go.WideShapes Go.ChangeAt Go.RowKit

abbrev TnS (w : World) (h b o j : Nat) (x y : Int) (d : ByteArray) (W : World) : Prop :=
  (W.cell? ⟨h, 0, none⟩ = some (.int .i64 x) ∧ W.cell? ⟨h, 1, none⟩ = some (.int .i64 y)) ∧ W.cell? ⟨b, o + j, none⟩ = some (.string d) ∧
  (W.cell? ⟨h + 1, 0, none⟩ = some (cellAt W ⟨h + 1, 0, none⟩) ∧ W.cell? ⟨h + 1, 1, none⟩ = some (cellAt W ⟨h + 1, 1, none⟩)) ∧ (W.frozen? ⟨h + 1, 0, none⟩ = false ∧ W.frozen? ⟨h + 1, 1, none⟩ = false) ∧ h + 1 < W.heap.size ∧ b < h ∧ Below h w W
theorem tn_call {w W W2 : World} {h b o j : Nat} {d : ByteArray} {x y : Int} (ho : Below W.heap.size W W2) (hs : TnS w h b o j x y d W) : TnS w h b o j x y d W2 := by
  obtain ⟨⟨b1, b2⟩, c1, ⟨d1, d2⟩, ⟨f1, f2⟩, hl, hb, hB⟩ := hs
  have c : ∀ q i, q < W.heap.size → W2.cell? ⟨q, i, none⟩ = W.cell? ⟨q, i, none⟩ := fun q i hq => ho.cell (p := ⟨q, i, none⟩) hq
  have f : ∀ q i, q < W.heap.size → W2.frozen? ⟨q, i, none⟩ = W.frozen? ⟨q, i, none⟩ := fun q i hq => ho.frozen (p := ⟨q, i, none⟩) hq
  refine ⟨⟨?_, ?_⟩, ?_, ⟨cellAt_of ?_, cellAt_of ?_⟩, ⟨?_, ?_⟩, Nat.lt_of_lt_of_le hl ho.size, hb, hB.trans (ho.mono (by omega))⟩
  all_goals first | rw [c _ _ (by omega)] | rw [f _ _ (by omega)]
  all_goals first | assumption | exact of_cellAt (by assumption)
theorem tn_set {w W : World} {h b o j : Nat} {d : ByteArray} {x y : Int} (hs : TnS w h b o j x y d W) (u0 u1 : Value) : TnS w h b o j x y d ((W.setCell ⟨h + 1, 0, none⟩ u0).setCell ⟨h + 1, 1, none⟩ u1) := by
  obtain ⟨⟨b1, b2⟩, c1, ⟨d1, d2⟩, ⟨f1, f2⟩, hl, hb, hB⟩ := hs
  have c : ∀ q i, q ≠ h + 1 → ((W.setCell ⟨h + 1, 0, none⟩ u0).setCell ⟨h + 1, 1, none⟩ u1).cell? ⟨q, i, none⟩ = W.cell? ⟨q, i, none⟩ := fun q i hq => by
    rw [World.cell?_setCell_other _ _ _ _ (by intro e; injection e with e; exact hq e.symm), World.cell?_setCell_other _ _ _ _ (by intro e; injection e with e; exact hq e.symm)]
  refine ⟨⟨?_, ?_⟩, ?_, ⟨cellAt_of (cellAt_set (cellAt_set (of_cellAt d1))), cellAt_of (cellAt_set (cellAt_set (of_cellAt d2)))⟩, ⟨by rw [World.frozen?_setCell, World.frozen?_setCell]; exact f1, by rw [World.frozen?_setCell, World.frozen?_setCell]; exact f2⟩, by simpa [World.setCell] using hl, hb,
    (hB.setCell (p := ⟨h + 1, 0, none⟩) (by show h ≤ h + 1; omega) _).setCell (p := ⟨h + 1, 1, none⟩) (by show h ≤ h + 1; omega) _⟩
  all_goals (rw [c _ _ (by omega)]; assumption)

set_option maxHeartbeats 4000000 in
set_option maxRecDepth 100000 in
theorem rturn5_any (deps now : Lb) (dv nv : Value) (nm : ByteArray) (r : Rf) (own : Int) (w : World) (hd : Reads w dv deps) (hr : Reads w nv now) (hk : r.okR deps.length) (how : own = Lib.idxOfS now nm) :
    Calls Tryz.prog 54 #[rfV r, dv, nv, .int .i64 own] w fun e w' => e = .returned (rfV (refI deps now nm r)) ∧ Below w.heap.size w w' := by
  obtain ⟨na, nc, hnv, _⟩ := hr.form
  obtain ⟨da, dc, hdv, hdn⟩ := hd.form
  subst hnv
  subst hdv
  obtain ⟨m, hm⟩ : ∃ m, m = now.length := ⟨_, rfl⟩
  obtain ⟨dn, hdl⟩ : ∃ m, m = deps.length := ⟨_, rfl⟩
  have hb2 : ∀ o1 o2, Below w.heap.size w ((w.alloc o1).alloc o2) := fun o1 o2 => ((Below.refl _ _).alloc (Nat.le_refl _) _).alloc (by simp) _
  have c1 : ∀ (x : ByteArray) wz, Below w.heap.size w wz → Calls Tryz.prog 25 #[.slice na m nc, .string x] wz fun e w' => e = .returned (.int .i64 (Lib.idxOfS now x)) ∧ Below wz.heap.size wz w' := fun x wz hz => by
    rw [hm]; exact rplace_any now _ x wz (hr.below hz)
  obtain ⟨x, y⟩ := r
  rw [← hdl] at hk hd hdn
  rw [← hm, ← hdl]
  have HD := Lib.hid hd
  have HDL := Lib.hid hdl
  have C1 := Lib.hid c1
  have HB2 := Lib.hid hb2
  clear c1 hb2 hm hd hr hdl
  by_cases h1 : x = -1
  · have e : refI deps now nm ⟨x, y⟩ = ⟨x, y⟩ := if_pos h1
    rw [e]
    subst h1
    clear e hk how
    go_enter Tryz.func54, Tryz.ntmps54
    go_wp2_with fail
    refine bodyPost_ret (v := .agg #[.int .i64 (-1), .int .i64 y]) ?_ rfl ⟨rfl, ?_⟩
    · simp [results, Tryz.results54, go_sem]
    · exact HB2.out _ _
  · by_cases h2 : x = -2
    · have e : refI deps now nm ⟨x, y⟩ = ⟨own, y⟩ := by unfold refI lineI; rw [if_neg h1, if_pos h2, how]
      rw [e]
      subst h2
      clear e hk h1 how
      go_enter Tryz.func54, Tryz.ntmps54
      go_wp2_with fail
      refine bodyPost_ret (v := .agg #[.int .i64 own, .int .i64 y]) ?_ rfl ⟨rfl, ?_⟩
      · simp [results, Tryz.results54, go_sem]
      · exact HB2.out _ _
    · have hk2 := (Or.resolve_left hk h1).resolve_left h2
      obtain ⟨j, rfl⟩ : ∃ j : Nat, x = (j : Nat) := ⟨x.toNat, (Int.toNat_of_nonneg hk2.1).symm⟩
      have hj : j < dn := Int.ofNat_lt.1 hk2.2
      have hdd : (0 : Int) ≤ (j : Int) := hk2.1
      obtain ⟨d, hdj⟩ : ∃ d, deps[j]? = some d := ⟨deps[j]'(by rw [← HDL.out]; exact hj), by simp⟩
      have e : refI deps now nm ⟨j, y⟩ = lineI now d y := by
        unfold refI; rw [if_neg h1, if_neg h2, Int.toNat_natCast, List.getD_eq_getElem?_getD, hdj]; rfl
      rw [e]
      obtain ⟨b, o, rfl, hnl, hb0, hx0⟩ := HD.out.at hdj
      clear hnl
      have hcd := hx0 j d hdj
      clear e hk hk2 h1 h2 hx0 hdj how
      obtain ⟨p, hpq⟩ : ∃ z, z = Lib.idxOfS now d := ⟨_, rfl⟩
      have c2 := C1.out d
      rw [← hpq] at c2
      unfold lineI
      rw [← hpq]
      have C2 := Lib.hid c2
      clear c2 hpq
      have hst : TnS w w.heap.size b o j j y d ((w.alloc (.cells #[.int .i64 j, .int .i64 y] 54)).alloc (.cells #[.int .i64 0, .int .i64 0] 54)).drew := by
        have hc := boxA2 (Below.refl _ ((w.alloc (.cells #[.int .i64 j, .int .i64 y] 54)).alloc (.cells #[.int .i64 0, .int .i64 0] 54)))
        obtain ⟨q2, q3, qb, qs⟩ := hc
        refine ⟨⟨q2 0, q2 1⟩, ?_, ⟨cellAt_of ((congrArg Option.isSome (q3 0)).trans rfl), cellAt_of ((congrArg Option.isSome (q3 1)).trans rfl)⟩, ⟨?_, ?_⟩, by simp, hb0, qb.drew⟩
        · exact (qb.cell (p := ⟨b, o + j, none⟩) hb0).trans hcd
        · exact World.frozen?_alloc_at _ _ _ _ (by simp)
        · exact World.frozen?_alloc_at _ _ _ _ (by simp)
      have HST := Lib.hid hst
      clear hst hb0
      go_enter Tryz.func54, Tryz.ntmps54
      go_wp2_with fail
      go_region_held3 (fun W => (W.cell? ⟨w.heap.size, 0, none⟩ = some (.int .i64 j) ∧ W.cell? ⟨w.heap.size, 1, none⟩ = some (.int .i64 y)) ∧ W.cell? ⟨b, o + j, none⟩ = some (.string d) ∧
  (W.cell? ⟨w.heap.size + 1, 0, none⟩ = some (cellAt W ⟨w.heap.size + 1, 0, none⟩) ∧ W.cell? ⟨w.heap.size + 1, 1, none⟩ = some (cellAt W ⟨w.heap.size + 1, 1, none⟩)) ∧ (W.frozen? ⟨w.heap.size + 1, 0, none⟩ = false ∧ W.frozen? ⟨w.heap.size + 1, 1, none⟩ = false) ∧ w.heap.size + 1 < W.heap.size ∧ b < w.heap.size ∧ Below w.heap.size w W)
        (first | with_reducible exact tn_call hb2 (by assumption) | with_reducible exact HST.out | with_reducible exact tn_set (by assumption) _ _)
        (first | (go_at_call 25; have hq : TnS w w.heap.size b o j j y d _ := (by assumption); (with_reducible refine (C2.out _ hq.2.2.2.2.2.2).mono ?_); rintro e w2 ⟨rfl, hb2⟩; have hq2 := tn_call hb2 hq; clear hq))
      rename_i hHeld
      clear hHeld
      have z0 : ((w2.setCell ⟨w.heap.size + 1, 0, none⟩ (.int .i64 p)).setCell ⟨w.heap.size + 1, 1, none⟩ (.int .i64 y)).cell? ⟨w.heap.size + 1, 0, none⟩ = some (.int .i64 p) := by
        rw [World.cell?_setCell_other _ _ _ _ (by simp)]
        exact World.cell?_setCell_same _ _ _ hq2.2.2.1.1
      have z1 : ((w2.setCell ⟨w.heap.size + 1, 0, none⟩ (.int .i64 p)).setCell ⟨w.heap.size + 1, 1, none⟩ (.int .i64 y)).cell? ⟨w.heap.size + 1, 1, none⟩ = some (.int .i64 y) :=
        World.cell?_setCell_same _ _ _ (cellAt_of (cellAt_set (of_cellAt hq2.2.2.1.2)))
      have HFIN := Lib.hid (tn_set hq2 (.int .i64 p) (.int .i64 y)).2.2.2.2.2.2
      clear hq2 hb2
      go_wp2_with fail
      exact bodyPost_ret (v := .agg #[.int .i64 p, .int .i64 y]) (by simp [results, Tryz.results54, go_sem, z0, z1]) rfl ⟨rfl, HFIN.out⟩
end Go.Proofs.YtgjcblginkdinaaGreatDoor
set_option linter.unusedVariables false
namespace Go.Proofs.YtgjcblginkdinaaGreatDoor
open Go.ChangeShapes Go.WideShapes Go.ChangeAt Go.RowKit

theorem InvW.off {Z : Nat → Prop} {w W W2 : World} {v0 v1 v2 : Value} (h : InvW w v0 v1 v2 W) (ho : Off Z W W2) (hz : ∀ i, Z i → w.heap.size + 1 < i) : InvW w v0 v1 v2 W2 := by
  have c : ∀ q j u, q ≤ w.heap.size + 1 → W.cell? ⟨q, j, none⟩ = some u → W2.cell? ⟨q, j, none⟩ = some u := fun q j u hq hu => (ho.cell (p := ⟨q, j, none⟩) (cell_lt hu) (fun z => by have := hz _ z; simp only at this; omega)).trans hu
  exact ⟨⟨c _ _ _ (by omega) h.p.1, c _ _ _ (by omega) h.p.2.1, c _ _ _ (by omega) h.p.2.2⟩, ⟨c _ _ _ (by omega) h.r.1, c _ _ _ (by omega) h.r.2.1, c _ _ _ (by omega) h.r.2.2⟩,
    fun j => (ho.frozen (p := ⟨w.heap.size + 1, j, none⟩) (cell_lt h.r.1) (fun z => by have := hz _ z; simp only at this; omega)).trans (h.f j), h.b.trans (ho.below (fun i hi => by have := hz i hi; omega) h.b.size)⟩

structure RI1 (w : World) (v0 v1 v2 : Value) (B : Nat) (qd : Lb) (qv : Value) (W : World) : Prop where
  i : InvW w v0 v1 v2 W
  lt : w.heap.size + 1 < B
  c0 : W.cell? ⟨B, 0, none⟩ = some (.string undoB)
  c1 : W.cell? ⟨B, 1, none⟩ = some qv
  c2 : W.cell? ⟨B, 2, none⟩ = some (.slice none 0 0)
  f : ∀ j, W.frozen? ⟨B, j, none⟩ = false
  rd : Reads W qv qd
  own : ∀ g, qv.ownBlock = some g → w.heap.size + 1 < g ∧ g ≠ B
theorem RI1.below {w W W2 : World} {v0 v1 v2 qv : Value} {B : Nat} {qd : Lb} (h : RI1 w v0 v1 v2 B qd qv W) (hb : Below W.heap.size W W2) : RI1 w v0 v1 v2 B qd qv W2 := by
  have c : ∀ j u, W.cell? ⟨B, j, none⟩ = some u → W2.cell? ⟨B, j, none⟩ = some u := fun j u hu => (hb.cell (p := ⟨B, j, none⟩) (cell_lt hu)).trans hu
  exact ⟨h.i.below hb, h.lt, c _ _ h.c0, c _ _ h.c1, c _ _ h.c2, fun j => (hb.frozen (p := ⟨B, j, none⟩) (cell_lt h.c0)).trans (h.f j), h.rd.below hb, h.own⟩
theorem RI1.store {w W : World} {v0 v1 v2 qv qv' : Value} {B : Nat} {qd qd' : Lb} (h : RI1 w v0 v1 v2 B qd qv W) (hr : Reads W qv' qd') (ho : ∀ g, qv'.ownBlock = some g → w.heap.size + 1 < g ∧ g ≠ B) : RI1 w v0 v1 v2 B qd' qv' (W.setCell ⟨B, 1, none⟩ qv') := by
  have c : ∀ j u, j ≠ 1 → W.cell? ⟨B, j, none⟩ = some u → (W.setCell ⟨B, 1, none⟩ qv').cell? ⟨B, j, none⟩ = some u := fun j u hj hu => by
    rw [World.cell?_setCell_other _ _ _ _ (by intro e; injection e with _ e; exact hj e.symm)]; exact hu
  exact ⟨h.i.set h.lt _ _, h.lt, c _ _ (by decide) h.c0, World.cell?_setCell_same _ _ _ h.c1, c _ _ (by decide) h.c2, fun j => by rw [World.frozen?_setCell]; exact h.f j,
    hr.offZ ((Off.refl (fun i => i = B) W).setCell (p := ⟨B, 1, none⟩) (.inr rfl) _) (fun g hg => (ho g hg).2), ho⟩

structure RB (w : World) (v0 v1 v2 : Value) (B Bo : Nat) (qd : Lb) (qv ov : Value) (W : World) : Prop where
  i : InvW w v0 v1 v2 W
  lt : w.heap.size + 1 < B
  lo : B < Bo
  sz : Bo ≤ W.heap.size
  c0 : W.cell? ⟨B, 0, none⟩ = some (.string undoB)
  c1 : W.cell? ⟨B, 1, none⟩ = some qv
  c2 : W.cell? ⟨B, 2, none⟩ = some ov
  f : ∀ j, W.frozen? ⟨B, j, none⟩ = false
  rd : Reads W qv qd
  own : ∀ g, qv.ownBlock = some g → w.heap.size + 1 < g ∧ g ≠ B ∧ g < Bo
theorem RB.off {Z : Nat → Prop} {w W W2 : World} {v0 v1 v2 qv ov : Value} {B Bo : Nat} {qd : Lb} (h : RB w v0 v1 v2 B Bo qd qv ov W) (ho : Off Z W W2) (hz : ∀ i, Z i → Bo ≤ i) : RB w v0 v1 v2 B Bo qd qv ov W2 := by
  have hB : ¬ Z B := fun z => by have := hz _ z; have := h.lo; omega
  have c : ∀ j u, W.cell? ⟨B, j, none⟩ = some u → W2.cell? ⟨B, j, none⟩ = some u := fun j u hu => (ho.cell (p := ⟨B, j, none⟩) (cell_lt hu) hB).trans hu
  exact ⟨h.i.off ho (fun i hi => by have := hz i hi; have := h.lo; have := h.lt; omega), h.lt, h.lo, Nat.le_trans h.sz ho.size, c _ _ h.c0, c _ _ h.c1, c _ _ h.c2, fun j => (ho.frozen (p := ⟨B, j, none⟩) (cell_lt h.c0) hB).trans (h.f j),
    h.rd.offZ ho (fun g hg z => by have := hz _ z; have := (h.own g hg).2.2; omega), h.own⟩
theorem RB.below {w W W2 : World} {v0 v1 v2 qv ov : Value} {B Bo : Nat} {qd : Lb} (h : RB w v0 v1 v2 B Bo qd qv ov W) (hb : Below W.heap.size W W2) : RB w v0 v1 v2 B Bo qd qv ov W2 :=
  h.off (Off.of_below (Z := fun i => W.heap.size ≤ i) hb) (fun i hi => Nat.le_trans h.sz hi)
theorem RB.store {w W : World} {v0 v1 v2 qv ov : Value} {B Bo : Nat} {qd : Lb} (h : RB w v0 v1 v2 B Bo qd qv ov W) (ov' : Value) : RB w v0 v1 v2 B Bo qd qv ov' (W.setCell ⟨B, 2, none⟩ ov') := by
  have c : ∀ j u, j ≠ 2 → W.cell? ⟨B, j, none⟩ = some u → (W.setCell ⟨B, 2, none⟩ ov').cell? ⟨B, j, none⟩ = some u := fun j u hj hu => by
    rw [World.cell?_setCell_other _ _ _ _ (by intro e; injection e with _ e; exact hj e.symm)]; exact hu
  exact ⟨h.i.set h.lt _ _, h.lt, h.lo, by simpa [World.setCell] using h.sz, c _ _ (by decide) h.c0, c _ _ (by decide) h.c1, World.cell?_setCell_same _ _ _ h.c2, fun j => by rw [World.frozen?_setCell]; exact h.f j,
    h.rd.offZ ((Off.refl (fun i => i = B) W).setCell (p := ⟨B, 2, none⟩) (.inr rfl) _) (fun g hg => (h.own g hg).2.1), h.own⟩
theorem RI1.next {w W : World} {v0 v1 v2 qv : Value} {B : Nat} {qd : Lb} (h : RI1 w v0 v1 v2 B qd qv W) (hq : qd ≠ []) : RB w v0 v1 v2 B W.heap.size qd qv (.slice none 0 0) W :=
  ⟨h.i, h.lt, cell_lt h.c0, Nat.le_refl _, h.c0, h.c1, h.c2, h.f, h.rd, fun g hg => ⟨(h.own g hg).1, (h.own g hg).2, reads_lt h.rd hq g hg⟩⟩

abbrev opCells (x : Opp) : Array Value := #[.int .i64 x.kind, .int .i64 x.a.at_, .int .i64 x.a.n, .int .i64 x.b.at_, .int .i64 x.b.n, .slice none 0 0]
theorem rb_push {w W w2 : World} {v0 v1 v2 qv : Value} {B Bo : Nat} {qd : Lb} {os : List Opp} {va : Option Addr} {ol vc : Nat} (x : Opp) (h : RB w v0 v1 v2 B Bo qd qv (.slice va ol vc) W) (ho : OutO Bo W (.slice va ol vc) os) (hol : ol = os.length) (hlen : os.length ≤ 1000000) (hb2 : Below W.heap.size W w2) :
    ∃ a6 c6 w6, (Builtin.append_ #[23, 23] 23 #[.slice va ol vc, .slice (some ⟨w2.heap.size, 0, none⟩) 1 1]).run Tryz.prog (w2.alloc (.cells (opCells x) 56)) = .ok (.slice a6 (ol + 1) c6) w6 ∧
      Off (fun i => (Value.slice va ol vc).ownBlock = some i) W w6 ∧ w6.cell? ⟨B, 2, none⟩ = some (.slice va ol vc) ∧ w6.frozen? ⟨B, 2, none⟩ = false ∧
      RB w v0 v1 v2 B Bo qd qv (.slice a6 (ol + 1) c6) (w6.setCell ⟨B, 2, none⟩ (.slice a6 (ol + 1) c6)) ∧ OutO Bo (w6.setCell ⟨B, 2, none⟩ (.slice a6 (ol + 1) c6)) (.slice a6 (ol + 1) c6) (os ++ [x]) ∧
      (∀ g, (Value.slice a6 (ol + 1) c6).ownBlock = some g → (Value.slice va ol vc).ownBlock = some g ∨ W.heap.size < g) := by
  have hb : Below W.heap.size W (w2.alloc (.cells (opCells x) 56)) := hb2.alloc hb2.size _
  have hA := h.below hb
  have hO := ho.below hb
  obtain ⟨W2, hW2⟩ : ∃ W2, W2 = w2.alloc (.cells (opCells x) 56) := ⟨_, rfl⟩
  have hsrc := src_new (P := Tryz.prog) (w := w2) (k := 6) Tryz.underlying23 [.int .i64 x.kind, .int .i64 x.a.at_, .int .i64 x.a.n, .int .i64 x.b.at_, .int .i64 x.b.n, .slice none 0 0] 1 56 1 rfl (by intro u hu; simp only [List.mem_cons, List.not_mem_nil, or_false] at hu; rcases hu with rfl | rfl | rfl | rfl | rfl | rfl <;> rfl)
  have hs2 : W.heap.size < W2.heap.size := by rw [hW2]; have := hb2.size; simp; omega
  have hsrc' : Src Tryz.prog 6 23 (.slice (some ⟨w2.heap.size, 0, none⟩) 1 1) 1 [.int .i64 x.kind, .int .i64 x.a.at_, .int .i64 x.a.n, .int .i64 x.b.at_, .int .i64 x.b.n, .slice none 0 0] W2 := by rw [hW2]; exact hsrc
  rw [← hW2] at hb hA hO ⊢
  clear hsrc hW2
  have hrow := hO.row
  rw [← hol] at hrow
  obtain ⟨v', w6, hr6, hrow6, ho6, hw6⟩ := run_append_row (P := Tryz.prog) (w := W2) 23 23 23 56 (.agg #[.int .i64 0, .int .i64 0, .int .i64 0, .int .i64 0, .int .i64 0, .slice none 0 0]) 64 Tryz.underlying23 Tryz.infoOp rfl hrow _ _ _ hsrc' hA.sz (by omega) (by decide)
  obtain ⟨a6, c6, hv6⟩ := hrow6.form
  subst hv6
  have hz : ∀ i, (Value.slice va ol vc).ownBlock = some i → Bo ≤ i := fun i hi => (hrow.lt i hi).1
  have hA6 := hA.off ho6 hz
  refine ⟨a6, c6, w6, hr6, (Off.of_below hb).trans ho6, hA6.c2, hA6.f 2, hA6.store _, OutO.push ?_, fun g hg => ?_⟩
  rotate_left
  · rcases hw6 with h | h
    · exact .inl (h ▸ hg)
    · rw [h] at hg; injection hg with hg; exact .inr (hg ▸ hs2)
  rw [← hol]
  exact hrow6.setOther (p := ⟨B, 2, none⟩) (fun e => by have h1 : Bo ≤ B := (hrow6.lt _ e).1; have := h.lo; omega) _
end Go.Proofs.YtgjcblginkdinaaGreatDoor
