/- The inverse: its mathematics; the contracts of line, ref and op. The contracts of the inverter's op and of named. -/
import Derived.Test.YtgjcblginkdinaaGreatDoorU26
import Derived.Test.YtgjcblginkdinaaGreatDoorU28
set_option linter.unusedVariables false
namespace Go.Proofs.YtgjcblginkdinaaGreatDoor
open Go.ChangeShapes Go.WideShapes Go.ChangeAt Go.RowKit

abbrev ivV (dv : Value) (nm : ByteArray) (nv : Value) : Value := .agg #[dv, .string nm, nv]

def lineI (needs : Lb) (x : ByteArray) (n : Int) : Rf := ⟨Lib.idxOfS needs x, n⟩
def refI (deps needs : Lb) (nm : ByteArray) (r : Rf) : Rf :=
  if r.at_ = -1 then r else if r.at_ = -2 then lineI needs nm r.n else lineI needs (deps.getD r.at_.toNat ByteArray.empty) r.n
def opI (deps needs : Lb) (nm : ByteArray) (o : Opp) : Opp :=
  if o.kind = 2 then ⟨3, refI deps needs nm o.a, refI deps needs nm o.b, []⟩
  else if o.kind = 3 then ⟨2, refI deps needs nm o.a, refI deps needs nm o.b, []⟩
  else if o.kind = 4 then ⟨5, refI deps needs nm o.a, ⟨0, 0⟩, []⟩
  else ⟨4, refI deps needs nm o.a, ⟨0, 0⟩, []⟩
def delI (needs : Lb) (nm : ByteArray) (i : Int) : Opp := ⟨4, lineI needs nm i, ⟨0, 0⟩, []⟩
def oneI (deps needs : Lb) (nm : ByteArray) (m : Nat) (o : Opp) : List Opp :=
  if o.kind = 1 then (List.range o.lines.length).map fun j => delI needs nm ((m + o.lines.length : Nat) - 1 - (j : Nat)) else [opI deps needs nm o]
def invI (deps needs : Lb) (nm : ByteArray) : Nat → List Opp → List Opp
  | _, [] => []
  | m, o :: r => invI deps needs nm (m + (if o.kind = 1 then o.lines.length else 0)) r ++ oneI deps needs nm m o

def Rf.okR (n : Nat) (r : Rf) : Prop := r.at_ = -1 ∨ r.at_ = -2 ∨ (0 ≤ r.at_ ∧ r.at_ < n)

set_option maxHeartbeats 2000000 in
theorem pline_any (needs : Lb) (da : Option Addr) (dn dc : Nat) (nv : Value) (nm x : ByteArray) (n : Int) (w : World) (hr : Reads w nv needs) :
    Calls Tryz.prog 125 #[ivV (.slice da dn dc) nm nv, .string x, .int .i64 n] w fun e w' => e = .returned (rfV (lineI needs x n)) ∧ Below w.heap.size w w' := by
  obtain ⟨na, nc, hnv, _⟩ := hr.form
  subst hnv
  obtain ⟨m, hm⟩ : ∃ m, m = needs.length := ⟨_, rfl⟩
  have hb2 : ∀ o1 o2, Below w.heap.size w ((w.alloc o1).alloc o2) := fun o1 o2 => ((Below.refl _ _).alloc (Nat.le_refl _) _).alloc (by simp) _
  have c1 : ∀ wz, Below w.heap.size w wz → Calls Tryz.prog 96 #[.slice na m nc, .string x] wz fun e w' => e = .returned (.int .i64 (Lib.idxOfS needs x)) ∧ w' = wz := fun wz hz => by
    rw [hm]; exact index_of needs _ x wz (hr.below hz)
  rw [← hm]
  unfold lineI
  obtain ⟨k, hk⟩ : ∃ k, k = Lib.idxOfS needs x := ⟨_, rfl⟩
  rw [← hk] at c1 ⊢
  have C1 := Lib.hid c1
  have HB2 := Lib.hid hb2
  clear c1 hb2 hm hk hr
  go_enter Tryz.func125, Tryz.ntmps125
  go_wp2_with fail
  refine (C1.out _ (HB2.out _ _)).mono ?_
  rintro e w1 ⟨rfl, rfl⟩
  go_wp2_with fail
  refine bodyPost_ret (v := .agg #[.int .i64 k, .int .i64 n]) ?_ rfl ⟨rfl, ?_⟩
  · simp [results, Tryz.results125, go_sem]
  · exact HB2.out _ _

abbrev ReS2 (w : World) (h b o j : Nat) (dv : Value) (nm : ByteArray) (nv : Value) (x y : Int) (d : ByteArray) (W : World) : Prop :=
  (W.cell? ⟨h, 0, none⟩ = some dv ∧ W.cell? ⟨h, 1, none⟩ = some (.string nm) ∧ W.cell? ⟨h, 2, none⟩ = some nv) ∧ (W.cell? ⟨h + 1, 0, none⟩ = some (.int .i64 x) ∧ W.cell? ⟨h + 1, 1, none⟩ = some (.int .i64 y)) ∧ W.cell? ⟨b, o + j, none⟩ = some (.string d) ∧
  (W.cell? ⟨h + 1 + 1, 0, none⟩ = some (cellAt W ⟨h + 1 + 1, 0, none⟩) ∧ W.cell? ⟨h + 1 + 1, 1, none⟩ = some (cellAt W ⟨h + 1 + 1, 1, none⟩)) ∧ (W.frozen? ⟨h + 1 + 1, 0, none⟩ = false ∧ W.frozen? ⟨h + 1 + 1, 1, none⟩ = false) ∧ h + 1 + 1 < W.heap.size ∧ b < h ∧ Below h w W
theorem re2_call {w W W2 : World} {h b o j : Nat} {dv nv : Value} {nm d : ByteArray} {x y : Int} (ho : Below W.heap.size W W2) (hs : ReS2 w h b o j dv nm nv x y d W) : ReS2 w h b o j dv nm nv x y d W2 := by
  obtain ⟨⟨a1, a2, a3⟩, ⟨b1, b2⟩, c1, ⟨d1, d2⟩, ⟨f1, f2⟩, hl, hb, hB⟩ := hs
  have c : ∀ q i, q < W.heap.size → W2.cell? ⟨q, i, none⟩ = W.cell? ⟨q, i, none⟩ := fun q i hq => ho.cell (p := ⟨q, i, none⟩) hq
  have f : ∀ q i, q < W.heap.size → W2.frozen? ⟨q, i, none⟩ = W.frozen? ⟨q, i, none⟩ := fun q i hq => ho.frozen (p := ⟨q, i, none⟩) hq
  refine ⟨⟨?_, ?_, ?_⟩, ⟨?_, ?_⟩, ?_, ⟨cellAt_of ?_, cellAt_of ?_⟩, ⟨?_, ?_⟩, Nat.lt_of_lt_of_le hl ho.size, hb, hB.trans (ho.mono (by omega))⟩
  all_goals first | rw [c _ _ (by omega)] | rw [f _ _ (by omega)]
  all_goals first | assumption | exact of_cellAt (by assumption)
theorem re2_set {w W : World} {h b o j : Nat} {dv nv : Value} {nm d : ByteArray} {x y : Int} (hs : ReS2 w h b o j dv nm nv x y d W) (u0 u1 : Value) : ReS2 w h b o j dv nm nv x y d ((W.setCell ⟨h + 1 + 1, 0, none⟩ u0).setCell ⟨h + 1 + 1, 1, none⟩ u1) := by
  obtain ⟨⟨a1, a2, a3⟩, ⟨b1, b2⟩, c1, ⟨d1, d2⟩, ⟨f1, f2⟩, hl, hb, hB⟩ := hs
  have c : ∀ q i, q ≠ h + 1 + 1 → ((W.setCell ⟨h + 1 + 1, 0, none⟩ u0).setCell ⟨h + 1 + 1, 1, none⟩ u1).cell? ⟨q, i, none⟩ = W.cell? ⟨q, i, none⟩ := fun q i hq => by
    rw [World.cell?_setCell_other _ _ _ _ (by intro e; injection e with e; exact hq e.symm), World.cell?_setCell_other _ _ _ _ (by intro e; injection e with e; exact hq e.symm)]
  refine ⟨⟨?_, ?_, ?_⟩, ⟨?_, ?_⟩, ?_, ⟨cellAt_of (cellAt_set (cellAt_set (of_cellAt d1))), cellAt_of (cellAt_set (cellAt_set (of_cellAt d2)))⟩, ⟨by rw [World.frozen?_setCell, World.frozen?_setCell]; exact f1, by rw [World.frozen?_setCell, World.frozen?_setCell]; exact f2⟩, by simpa [World.setCell] using hl, hb,
    (hB.setCell (p := ⟨h + 1 + 1, 0, none⟩) (by show h ≤ h + 1 + 1; omega) _).setCell (p := ⟨h + 1 + 1, 1, none⟩) (by show h ≤ h + 1 + 1; omega) _⟩
  all_goals (rw [c _ _ (by omega)]; assumption)

set_option maxHeartbeats 4000000 in
set_option maxRecDepth 100000 in
theorem piref_any (deps needs : Lb) (dv nv : Value) (nm : ByteArray) (r : Rf) (w : World) (hd : Reads w dv deps) (hr : Reads w nv needs) (hk : r.okR deps.length) :
    Calls Tryz.prog 95 #[ivV dv nm nv, rfV r] w fun e w' => e = .returned (rfV (refI deps needs nm r)) ∧ Below w.heap.size w w' := by
  obtain ⟨na, nc, hnv, _⟩ := hr.form
  obtain ⟨da, dc, hdv, hdn⟩ := hd.form
  subst hnv
  subst hdv
  obtain ⟨m, hm⟩ : ∃ m, m = needs.length := ⟨_, rfl⟩
  obtain ⟨dn, hdl⟩ : ∃ m, m = deps.length := ⟨_, rfl⟩
  have hb3 : ∀ o1 o2 o3, Below w.heap.size w (((w.alloc o1).alloc o2).alloc o3) := fun o1 o2 o3 => (((Below.refl _ _).alloc (Nat.le_refl _) _).alloc (by simp) _).alloc (by simp; omega) _
  have c1 : ∀ (x : ByteArray) (n : Int) wz, Below w.heap.size w wz → Calls Tryz.prog 125 #[ivV (.slice da dn dc) nm (.slice na m nc), .string x, .int .i64 n] wz fun e w' => e = .returned (rfV (lineI needs x n)) ∧ Below wz.heap.size wz w' := fun x n wz hz => by
    rw [hm]; exact pline_any needs da dn dc _ nm x n wz (hr.below hz)
  obtain ⟨x, y⟩ := r
  rw [← hdl] at hk hd hdn
  rw [← hm, ← hdl]
  have HD := Lib.hid hd
  have HDL := Lib.hid hdl
  have C1 := Lib.hid c1
  have HB3 := Lib.hid hb3
  clear c1 hb3 hm hd hr hdl
  by_cases h1 : x = -1
  · have e : refI deps needs nm ⟨x, y⟩ = ⟨x, y⟩ := if_pos h1
    rw [e]
    have e1 := eqI h1
    subst h1
    clear e hk
    go_enter Tryz.func95, Tryz.ntmps95
    go_wp2_with fail
    refine bodyPost_ret (v := .agg #[.int .i64 (-1), .int .i64 y]) ?_ rfl ⟨rfl, ?_⟩
    · simp [results, Tryz.results95, go_sem]
    · exact HB3.out _ _ _
  · by_cases h2 : x = -2
    · have e : refI deps needs nm ⟨x, y⟩ = lineI needs nm y := by unfold refI; rw [if_neg h1, if_pos h2]
      rw [e]
      have e1 := neI h1
      have e2 := eqI h2
      clear e hk h1
      obtain ⟨⟨p, q⟩, hpq⟩ : ∃ z, z = lineI needs nm y := ⟨_, rfl⟩
      have c2 := C1.out nm y
      rw [← hpq] at c2 ⊢
      have C2 := Lib.hid c2
      clear c2 hpq
      go_enter Tryz.func95, Tryz.ntmps95
      go_wp2_with fail
      refine (C2.out _ (HB3.out _ _ _)).mono ?_
      rintro e w1 ⟨rfl, hb⟩
      have fz : ∀ j, w1.frozen? ⟨w.heap.size + 1 + 1, j, none⟩ = false := fun j => (hb.frozen (p := ⟨w.heap.size + 1 + 1, j, none⟩) (by simp)).trans (World.frozen?_alloc_at _ _ _ _ (by simp))
      have f0 := fz 0
      have f1 := fz 1
      obtain ⟨q1, q2, q3, qb, qs⟩ := boxA3 hb
      have z0 := (q3 0).trans rfl
      have z1 := (q3 1).trans rfl
      have y0 := (q1 0).trans rfl
      have y1 := (q1 1).trans rfl
      have y2 := (q1 2).trans rfl
      have QB := Lib.hid qb
      clear hb qb q1 q2 q3 fz
      go_wp2_with fail
      refine bodyPost_ret (v := .agg #[.int .i64 p, .int .i64 q]) ?_ rfl ⟨rfl, ?_⟩
      · simp [results, Tryz.results95, go_sem, z0, z1]
      · exact (QB.out.setCell (p := ⟨w.heap.size + 1 + 1, 0, none⟩) (by simp; omega) _).setCell (p := ⟨w.heap.size + 1 + 1, 1, none⟩) (by simp; omega) _
    · have hk2 := (Or.resolve_left hk h1).resolve_left h2
      obtain ⟨j, rfl⟩ : ∃ j : Nat, x = (j : Nat) := ⟨x.toNat, (Int.toNat_of_nonneg hk2.1).symm⟩
      have hj : j < dn := Int.ofNat_lt.1 hk2.2
      obtain ⟨d, hdj⟩ : ∃ d, deps[j]? = some d := ⟨deps[j]'(by rw [← HDL.out]; exact hj), by simp⟩
      have e : refI deps needs nm ⟨j, y⟩ = lineI needs d y := by
        unfold refI; rw [if_neg h1, if_neg h2, Int.toNat_natCast, List.getD_eq_getElem?_getD, hdj]; rfl
      rw [e]
      have e1 := neI h1
      have e2 := neI h2
      obtain ⟨b, o, rfl, hnl, hb0, hx0⟩ := HD.out.at hdj
      clear hnl
      have hcd := hx0 j d hdj
      clear e hk hk2 h1 h2 hx0 hdj
      obtain ⟨⟨p, q⟩, hpq⟩ : ∃ z, z = lineI needs d y := ⟨_, rfl⟩
      have c2 := C1.out d y
      rw [← hpq] at c2 ⊢
      have C2 := Lib.hid c2
      clear c2 hpq
      have hst : ReS2 w w.heap.size b o j (.slice (some ⟨b, o, none⟩) dn dc) nm (.slice na m nc) j y d (((w.alloc (.cells #[.slice (some ⟨b, o, none⟩) dn dc, .string nm, .slice na m nc] 95)).alloc (.cells #[.int .i64 j, .int .i64 y] 54)).alloc (.cells #[.int .i64 0, .int .i64 0] 54)).drew := by
        have hc := boxA3 (Below.refl _ (((w.alloc (.cells #[.slice (some ⟨b, o, none⟩) dn dc, .string nm, .slice na m nc] 95)).alloc (.cells #[.int .i64 j, .int .i64 y] 54)).alloc (.cells #[.int .i64 0, .int .i64 0] 54)))
        obtain ⟨q1, q2, q3, qb, qs⟩ := hc
        refine ⟨⟨q1 0, q1 1, q1 2⟩, ⟨q2 0, q2 1⟩, ?_, ⟨cellAt_of ((congrArg Option.isSome (q3 0)).trans rfl), cellAt_of ((congrArg Option.isSome (q3 1)).trans rfl)⟩, ⟨?_, ?_⟩, by simp, hb0, qb.drew⟩
        · exact (qb.cell (p := ⟨b, o + j, none⟩) hb0).trans hcd
        · exact World.frozen?_alloc_at _ _ _ _ (by simp)
        · exact World.frozen?_alloc_at _ _ _ _ (by simp)
      have HST := Lib.hid hst
      have HB0 := Lib.hid hb0
      clear hst hb0
      go_enter Tryz.func95, Tryz.ntmps95
      go_wp2_with fail
      go_region_held3 (fun W => (W.cell? ⟨w.heap.size, 0, none⟩ = some (.slice (some ⟨b, o, none⟩) dn dc) ∧ W.cell? ⟨w.heap.size, 1, none⟩ = some (.string nm) ∧ W.cell? ⟨w.heap.size, 2, none⟩ = some (.slice na m nc)) ∧ (W.cell? ⟨w.heap.size + 1, 0, none⟩ = some (.int .i64 j) ∧ W.cell? ⟨w.heap.size + 1, 1, none⟩ = some (.int .i64 y)) ∧ W.cell? ⟨b, o + j, none⟩ = some (.string d) ∧
  (W.cell? ⟨w.heap.size + 1 + 1, 0, none⟩ = some (cellAt W ⟨w.heap.size + 1 + 1, 0, none⟩) ∧ W.cell? ⟨w.heap.size + 1 + 1, 1, none⟩ = some (cellAt W ⟨w.heap.size + 1 + 1, 1, none⟩)) ∧ (W.frozen? ⟨w.heap.size + 1 + 1, 0, none⟩ = false ∧ W.frozen? ⟨w.heap.size + 1 + 1, 1, none⟩ = false) ∧ w.heap.size + 1 + 1 < W.heap.size ∧ b < w.heap.size ∧ Below w.heap.size w W)
        (first | with_reducible exact re2_call hb2 (by assumption) | with_reducible exact HST.out | with_reducible exact re2_set (by assumption) _ _)
        (first | (go_at_call 125; have hq : ReS2 w w.heap.size b o j (.slice (some ⟨b, o, none⟩) dn dc) nm (.slice na m nc) j y d _ := (by assumption); (with_reducible refine (C2.out _ hq.2.2.2.2.2.2.2).mono ?_); rintro e w2 ⟨rfl, hb2⟩; have hq2 := re2_call hb2 hq; clear hq))
      rename_i hHeld
      clear hHeld
      have z0 : ((w2.setCell ⟨w.heap.size + 1 + 1, 0, none⟩ (.int .i64 p)).setCell ⟨w.heap.size + 1 + 1, 1, none⟩ (.int .i64 q)).cell? ⟨w.heap.size + 1 + 1, 0, none⟩ = some (.int .i64 p) := by
        rw [World.cell?_setCell_other _ _ _ _ (by simp)]
        exact World.cell?_setCell_same _ _ _ hq2.2.2.2.1.1
      have z1 : ((w2.setCell ⟨w.heap.size + 1 + 1, 0, none⟩ (.int .i64 p)).setCell ⟨w.heap.size + 1 + 1, 1, none⟩ (.int .i64 q)).cell? ⟨w.heap.size + 1 + 1, 1, none⟩ = some (.int .i64 q) :=
        World.cell?_setCell_same _ _ _ (cellAt_of (cellAt_set (of_cellAt hq2.2.2.2.1.2)))
      have HFIN := Lib.hid (re2_set hq2 (.int .i64 p) (.int .i64 q)).2.2.2.2.2.2.2
      clear hq2 hb2
      go_wp2_with fail
      exact bodyPost_ret (v := .agg #[.int .i64 p, .int .i64 q]) (by simp [results, Tryz.results95, go_sem, z0, z1]) rfl ⟨rfl, HFIN.out⟩
end Go.Proofs.YtgjcblginkdinaaGreatDoor
set_option linter.unusedVariables false
namespace Go.Proofs.YtgjcblginkdinaaGreatDoor
open Go.ChangeShapes Go.WideShapes Go.ChangeAt Go.RowKit

abbrev OpS (w : World) (h : Nat) (dv : Value) (nm : ByteArray) (nv : Value) (x y u v : Int) (W : World) : Prop :=
  (W.cell? ⟨h, 0, none⟩ = some dv ∧ W.cell? ⟨h, 1, none⟩ = some (.string nm) ∧ W.cell? ⟨h, 2, none⟩ = some nv) ∧ (W.cell? ⟨h + 1, 1, none⟩ = some (.int .i64 x) ∧ W.cell? ⟨h + 1, 2, none⟩ = some (.int .i64 y) ∧ W.cell? ⟨h + 1, 3, none⟩ = some (.int .i64 u) ∧ W.cell? ⟨h + 1, 4, none⟩ = some (.int .i64 v)) ∧
  (W.cell? ⟨h + 1 + 1, 0, none⟩ = some (cellAt W ⟨h + 1 + 1, 0, none⟩) ∧ W.cell? ⟨h + 1 + 1, 1, none⟩ = some (cellAt W ⟨h + 1 + 1, 1, none⟩) ∧ W.cell? ⟨h + 1 + 1, 2, none⟩ = some (cellAt W ⟨h + 1 + 1, 2, none⟩) ∧ W.cell? ⟨h + 1 + 1, 3, none⟩ = some (cellAt W ⟨h + 1 + 1, 3, none⟩) ∧ W.cell? ⟨h + 1 + 1, 4, none⟩ = some (cellAt W ⟨h + 1 + 1, 4, none⟩) ∧ W.cell? ⟨h + 1 + 1, 5, none⟩ = some (cellAt W ⟨h + 1 + 1, 5, none⟩)) ∧
  (W.frozen? ⟨h + 1 + 1, 0, none⟩ = false ∧ W.frozen? ⟨h + 1 + 1, 1, none⟩ = false ∧ W.frozen? ⟨h + 1 + 1, 2, none⟩ = false ∧ W.frozen? ⟨h + 1 + 1, 3, none⟩ = false ∧ W.frozen? ⟨h + 1 + 1, 4, none⟩ = false ∧ W.frozen? ⟨h + 1 + 1, 5, none⟩ = false) ∧ h + 1 + 1 < W.heap.size ∧ Below h w W
abbrev set6 (W : World) (b : Nat) (u0 u1 u2 u3 u4 u5 : Value) : World := (((((W.setCell ⟨b, 0, none⟩ u0).setCell ⟨b, 1, none⟩ u1).setCell ⟨b, 2, none⟩ u2).setCell ⟨b, 3, none⟩ u3).setCell ⟨b, 4, none⟩ u4).setCell ⟨b, 5, none⟩ u5
theorem set6_other (W : World) (b : Nat) (u0 u1 u2 u3 u4 u5 : Value) (q i : Nat) (hq : q ≠ b) : (set6 W b u0 u1 u2 u3 u4 u5).cell? ⟨q, i, none⟩ = W.cell? ⟨q, i, none⟩ := by
  have h : ∀ k, (⟨b, k, none⟩ : Addr) ≠ ⟨q, i, none⟩ := fun k e => by injection e with e; exact hq e.symm
  rw [World.cell?_setCell_other _ _ _ _ (h 5), World.cell?_setCell_other _ _ _ _ (h 4), World.cell?_setCell_other _ _ _ _ (h 3), World.cell?_setCell_other _ _ _ _ (h 2), World.cell?_setCell_other _ _ _ _ (h 1), World.cell?_setCell_other _ _ _ _ (h 0)]
theorem set6_some {W : World} {b : Nat} {u0 u1 u2 u3 u4 u5 : Value} {i : Nat} (h : (W.cell? ⟨b, i, none⟩).isSome = true) : ((set6 W b u0 u1 u2 u3 u4 u5).cell? ⟨b, i, none⟩).isSome = true :=
  cellAt_set (cellAt_set (cellAt_set (cellAt_set (cellAt_set (cellAt_set h)))))
theorem set6_frozen (W : World) (b : Nat) (u0 u1 u2 u3 u4 u5 : Value) (p : Addr) : (set6 W b u0 u1 u2 u3 u4 u5).frozen? p = W.frozen? p := by
  simp only [World.frozen?_setCell]
theorem set6_size (W : World) (b : Nat) (u0 u1 u2 u3 u4 u5 : Value) : (set6 W b u0 u1 u2 u3 u4 u5).heap.size = W.heap.size := by simp [World.setCell]
theorem set6_below {B : Nat} {w W : World} {b : Nat} {u0 u1 u2 u3 u4 u5 : Value} (h : Below B w W) (hb : B ≤ b) : Below B w (set6 W b u0 u1 u2 u3 u4 u5) :=
  ((((((h.setCell (p := ⟨b, 0, none⟩) hb _).setCell (p := ⟨b, 1, none⟩) hb _).setCell (p := ⟨b, 2, none⟩) hb _).setCell (p := ⟨b, 3, none⟩) hb _).setCell (p := ⟨b, 4, none⟩) hb _).setCell (p := ⟨b, 5, none⟩) hb _)
theorem set6_at {W : World} {b : Nat} {u0 u1 u2 u3 u4 u5 : Value} (h : ∀ i, i < 6 → (W.cell? ⟨b, i, none⟩).isSome = true) : (set6 W b u0 u1 u2 u3 u4 u5).cell? ⟨b, 0, none⟩ = some u0 ∧ (set6 W b u0 u1 u2 u3 u4 u5).cell? ⟨b, 1, none⟩ = some u1 ∧ (set6 W b u0 u1 u2 u3 u4 u5).cell? ⟨b, 2, none⟩ = some u2 ∧
    (set6 W b u0 u1 u2 u3 u4 u5).cell? ⟨b, 3, none⟩ = some u3 ∧ (set6 W b u0 u1 u2 u3 u4 u5).cell? ⟨b, 4, none⟩ = some u4 ∧ (set6 W b u0 u1 u2 u3 u4 u5).cell? ⟨b, 5, none⟩ = some u5 := by
  have hn : ∀ j k, j ≠ k → (⟨b, j, none⟩ : Addr) ≠ ⟨b, k, none⟩ := fun j k hjk e => by injection e with _ e; exact hjk e
  refine ⟨?_, ?_, ?_, ?_, ?_, ?_⟩
  · rw [World.cell?_setCell_other _ _ _ _ (hn 5 0 (by decide)), World.cell?_setCell_other _ _ _ _ (hn 4 0 (by decide)), World.cell?_setCell_other _ _ _ _ (hn 3 0 (by decide)), World.cell?_setCell_other _ _ _ _ (hn 2 0 (by decide)), World.cell?_setCell_other _ _ _ _ (hn 1 0 (by decide))]
    exact World.cell?_setCell_same _ _ _ (cellAt_of (h 0 (by decide)))
  · rw [World.cell?_setCell_other _ _ _ _ (hn 5 1 (by decide)), World.cell?_setCell_other _ _ _ _ (hn 4 1 (by decide)), World.cell?_setCell_other _ _ _ _ (hn 3 1 (by decide)), World.cell?_setCell_other _ _ _ _ (hn 2 1 (by decide))]
    exact World.cell?_setCell_same _ _ _ (cellAt_of (cellAt_set (h 1 (by decide))))
  · rw [World.cell?_setCell_other _ _ _ _ (hn 5 2 (by decide)), World.cell?_setCell_other _ _ _ _ (hn 4 2 (by decide)), World.cell?_setCell_other _ _ _ _ (hn 3 2 (by decide))]
    exact World.cell?_setCell_same _ _ _ (cellAt_of (cellAt_set (cellAt_set (h 2 (by decide)))))
  · rw [World.cell?_setCell_other _ _ _ _ (hn 5 3 (by decide)), World.cell?_setCell_other _ _ _ _ (hn 4 3 (by decide))]
    exact World.cell?_setCell_same _ _ _ (cellAt_of (cellAt_set (cellAt_set (cellAt_set (h 3 (by decide))))))
  · rw [World.cell?_setCell_other _ _ _ _ (hn 5 4 (by decide))]
    exact World.cell?_setCell_same _ _ _ (cellAt_of (cellAt_set (cellAt_set (cellAt_set (cellAt_set (h 4 (by decide)))))))
  · exact World.cell?_setCell_same _ _ _ (cellAt_of (cellAt_set (cellAt_set (cellAt_set (cellAt_set (cellAt_set (h 5 (by decide))))))))
theorem op_call {w W W2 : World} {h : Nat} {dv nv : Value} {nm : ByteArray} {x y u v : Int} (ho : Below W.heap.size W W2) (hs : OpS w h dv nm nv x y u v W) : OpS w h dv nm nv x y u v W2 := by
  obtain ⟨⟨a1, a2, a3⟩, ⟨b1, b2, b3, b4⟩, ⟨d1, d2, d3, d4, d5, d6⟩, ⟨f1, f2, f3, f4, f5, f6⟩, hl, hB⟩ := hs
  have c : ∀ q i, q < W.heap.size → W2.cell? ⟨q, i, none⟩ = W.cell? ⟨q, i, none⟩ := fun q i hq => ho.cell (p := ⟨q, i, none⟩) hq
  have f : ∀ q i, q < W.heap.size → W2.frozen? ⟨q, i, none⟩ = W.frozen? ⟨q, i, none⟩ := fun q i hq => ho.frozen (p := ⟨q, i, none⟩) hq
  refine ⟨⟨?_, ?_, ?_⟩, ⟨?_, ?_, ?_, ?_⟩, ⟨cellAt_of ?_, cellAt_of ?_, cellAt_of ?_, cellAt_of ?_, cellAt_of ?_, cellAt_of ?_⟩, ⟨?_, ?_, ?_, ?_, ?_, ?_⟩, Nat.lt_of_lt_of_le hl ho.size, hB.trans (ho.mono (by omega))⟩
  all_goals first | rw [c _ _ (by omega)] | rw [f _ _ (by omega)]
  all_goals first | assumption | exact of_cellAt (by assumption)
theorem op_set {w W : World} {h : Nat} {dv nv : Value} {nm : ByteArray} {x y u v : Int} (hs : OpS w h dv nm nv x y u v W) (u0 u1 u2 u3 u4 u5 : Value) : OpS w h dv nm nv x y u v (set6 W (h + 1 + 1) u0 u1 u2 u3 u4 u5) := by
  obtain ⟨⟨a1, a2, a3⟩, ⟨b1, b2, b3, b4⟩, ⟨d1, d2, d3, d4, d5, d6⟩, ⟨f1, f2, f3, f4, f5, f6⟩, hl, hB⟩ := hs
  refine ⟨⟨?_, ?_, ?_⟩, ⟨?_, ?_, ?_, ?_⟩, ⟨cellAt_of (set6_some (of_cellAt d1)), cellAt_of (set6_some (of_cellAt d2)), cellAt_of (set6_some (of_cellAt d3)), cellAt_of (set6_some (of_cellAt d4)), cellAt_of (set6_some (of_cellAt d5)), cellAt_of (set6_some (of_cellAt d6))⟩,
    ⟨by rw [set6_frozen]; exact f1, by rw [set6_frozen]; exact f2, by rw [set6_frozen]; exact f3, by rw [set6_frozen]; exact f4, by rw [set6_frozen]; exact f5, by rw [set6_frozen]; exact f6⟩, by rw [set6_size]; exact hl, set6_below hB (by omega)⟩
  all_goals (rw [set6_other _ _ _ _ _ _ _ _ _ _ (by omega)]; assumption)
theorem op_at {w W : World} {h : Nat} {dv nv : Value} {nm : ByteArray} {x y u v : Int} (hs : OpS w h dv nm nv x y u v W) : ∀ i, i < 6 → (W.cell? ⟨h + 1 + 1, i, none⟩).isSome = true := by
  obtain ⟨_, _, ⟨d1, d2, d3, d4, d5, d6⟩, _⟩ := hs
  intro i hi
  match i, hi with
  | 0, _ => exact of_cellAt d1
  | 1, _ => exact of_cellAt d2
  | 2, _ => exact of_cellAt d3
  | 3, _ => exact of_cellAt d4
  | 4, _ => exact of_cellAt d5
  | 5, _ => exact of_cellAt d6

theorem op_set' {w W : World} {h : Nat} {dv nv : Value} {nm : ByteArray} {x y u v : Int} (hs : OpS w h dv nm nv x y u v W) (u0 u1 u2 u3 u4 u5 : Value) : OpS w h dv nm nv x y u v ((((((W.setCell ⟨h + 1 + 1, 0, none⟩ u0).setCell ⟨h + 1 + 1, 1, none⟩ u1).setCell ⟨h + 1 + 1, 2, none⟩ u2).setCell ⟨h + 1 + 1, 3, none⟩ u3).setCell ⟨h + 1 + 1, 4, none⟩ u4).setCell ⟨h + 1 + 1, 5, none⟩ u5) := op_set hs u0 u1 u2 u3 u4 u5

set_option maxHeartbeats 4000000 in
set_option maxRecDepth 100000 in
theorem piop_any (deps needs : Lb) (dv nv : Value) (nm : ByteArray) (z : Opp) (la : Option Addr) (ln lc : Nat) (w : World) (hd : Reads w dv deps) (hr : Reads w nv needs) (ha : z.a.okR deps.length) (hb : z.kind = 2 ∨ z.kind = 3 → z.b.okR deps.length) :
    Calls Tryz.prog 94 #[ivV dv nm nv, opV z (.slice la ln lc)] w fun e w' => e = .returned (opV (opI deps needs nm z) (.slice none 0 0)) ∧ Below w.heap.size w w' := by
  obtain ⟨na, nc, hnv, _⟩ := hr.form
  obtain ⟨da, dc, hdv, _⟩ := hd.form
  subst hnv
  subst hdv
  obtain ⟨m, hm⟩ : ∃ m, m = needs.length := ⟨_, rfl⟩
  obtain ⟨dn, hdl⟩ : ∃ m, m = deps.length := ⟨_, rfl⟩
  have hb3 : ∀ o1 o2 o3, Below w.heap.size w (((w.alloc o1).alloc o2).alloc o3) := fun o1 o2 o3 => (((Below.refl _ _).alloc (Nat.le_refl _) _).alloc (by simp) _).alloc (by simp; omega) _
  have c1 : ∀ wz, Below w.heap.size w wz → Calls Tryz.prog 95 #[ivV (.slice da dn dc) nm (.slice na m nc), rfV z.a] wz fun e w' => e = .returned (rfV (refI deps needs nm z.a)) ∧ Below wz.heap.size wz w' := fun wz hz => by
    rw [hm, hdl]; exact piref_any deps needs _ _ nm z.a wz (hd.below hz) (hr.below hz) ha
  have c2 : z.kind = 2 ∨ z.kind = 3 → ∀ wz, Below w.heap.size w wz → Calls Tryz.prog 95 #[ivV (.slice da dn dc) nm (.slice na m nc), rfV z.b] wz fun e w' => e = .returned (rfV (refI deps needs nm z.b)) ∧ Below wz.heap.size wz w' := fun h wz hz => by
    rw [hm, hdl]; exact piref_any deps needs _ _ nm z.b wz (hd.below hz) (hr.below hz) (hb h)
  rw [← hm, ← hdl]
  obtain ⟨K, ⟨x, y⟩, ⟨u, v⟩, ls⟩ := z
  unfold opI
  simp only at c1 c2 ⊢
  obtain ⟨⟨p, q⟩, hpq⟩ : ∃ z, z = refI deps needs nm ⟨x, y⟩ := ⟨_, rfl⟩
  obtain ⟨⟨r, s⟩, hrs⟩ : ∃ z, z = refI deps needs nm ⟨u, v⟩ := ⟨_, rfl⟩
  rw [← hpq] at c1 ⊢
  rw [← hrs] at c2 ⊢
  have hst0 : OpS w w.heap.size (.slice da dn dc) nm (.slice na m nc) x y u v (((w.alloc (.cells #[.slice da dn dc, .string nm, .slice na m nc] 95)).alloc (.cells #[.int .i64 K, .int .i64 x, .int .i64 y, .int .i64 u, .int .i64 v, .slice la ln lc] 56)).alloc (.cells #[.int .i64 0, .int .i64 0, .int .i64 0, .int .i64 0, .int .i64 0, .slice none 0 0] 56)) := by
    have hc := boxA3 (Below.refl _ (((w.alloc (.cells #[.slice da dn dc, .string nm, .slice na m nc] 95)).alloc (.cells #[.int .i64 K, .int .i64 x, .int .i64 y, .int .i64 u, .int .i64 v, .slice la ln lc] 56)).alloc (.cells #[.int .i64 0, .int .i64 0, .int .i64 0, .int .i64 0, .int .i64 0, .slice none 0 0] 56)))
    obtain ⟨q1, q2, q3, qb, qs⟩ := hc
    refine ⟨⟨q1 0, q1 1, q1 2⟩, ⟨q2 1, q2 2, q2 3, q2 4⟩, ⟨cellAt_of ((congrArg Option.isSome (q3 0)).trans rfl), cellAt_of ((congrArg Option.isSome (q3 1)).trans rfl), cellAt_of ((congrArg Option.isSome (q3 2)).trans rfl), cellAt_of ((congrArg Option.isSome (q3 3)).trans rfl), cellAt_of ((congrArg Option.isSome (q3 4)).trans rfl), cellAt_of ((congrArg Option.isSome (q3 5)).trans rfl)⟩, ⟨?_, ?_, ?_, ?_, ?_, ?_⟩, by simp, qb⟩ <;>
    exact World.frozen?_alloc_at _ _ _ _ (by simp)
  have hst : OpS w w.heap.size (.slice da dn dc) nm (.slice na m nc) x y u v (((w.alloc (.cells #[.slice da dn dc, .string nm, .slice na m nc] 95)).alloc (.cells #[.int .i64 K, .int .i64 x, .int .i64 y, .int .i64 u, .int .i64 v, .slice la ln lc] 56)).alloc (.cells #[.int .i64 0, .int .i64 0, .int .i64 0, .int .i64 0, .int .i64 0, .slice none 0 0] 56)).drew := ⟨hst0.1, hst0.2.1, hst0.2.2.1, hst0.2.2.2.1, hst0.2.2.2.2.1, hst0.2.2.2.2.2.drew⟩
  have HST := Lib.hid hst
  have C1 := Lib.hid c1
  have C2 := Lib.hid c2
  have HB3 := Lib.hid hb3
  clear hst c1 c2 hb3 hm hd hr hdl ha hb hpq hrs
  have hfz : ∀ (w1 : World), Below ((((w.alloc (.cells #[.slice da dn dc, .string nm, .slice na m nc] 95)).alloc (.cells #[.int .i64 K, .int .i64 x, .int .i64 y, .int .i64 u, .int .i64 v, .slice la ln lc] 56)).alloc (.cells #[.int .i64 0, .int .i64 0, .int .i64 0, .int .i64 0, .int .i64 0, .slice none 0 0] 56))).heap.size (((w.alloc (.cells #[.slice da dn dc, .string nm, .slice na m nc] 95)).alloc (.cells #[.int .i64 K, .int .i64 x, .int .i64 y, .int .i64 u, .int .i64 v, .slice la ln lc] 56)).alloc (.cells #[.int .i64 0, .int .i64 0, .int .i64 0, .int .i64 0, .int .i64 0, .slice none 0 0] 56)) w1 →
      OpS w w.heap.size (.slice da dn dc) nm (.slice na m nc) x y u v w1 := fun w1 hb => op_call (W := (((w.alloc (.cells #[.slice da dn dc, .string nm, .slice na m nc] 95)).alloc (.cells #[.int .i64 K, .int .i64 x, .int .i64 y, .int .i64 u, .int .i64 v, .slice la ln lc] 56)).alloc (.cells #[.int .i64 0, .int .i64 0, .int .i64 0, .int .i64 0, .int .i64 0, .slice none 0 0] 56))) hb hst0
  have HFZ := Lib.hid hfz
  clear hfz hst0
  by_cases k2 : K = 2
  · subst k2
    have c2' := C2.out (.inl rfl)
    have C2' := Lib.hid c2'
    clear c2' C2
    rw [if_pos rfl]
    go_enter Tryz.func94, Tryz.ntmps94
    go_wp2_with fail
    go_region_held3 (fun W => (W.cell? ⟨w.heap.size, 0, none⟩ = some (.slice da dn dc) ∧ W.cell? ⟨w.heap.size, 1, none⟩ = some (.string nm) ∧ W.cell? ⟨w.heap.size, 2, none⟩ = some (.slice na m nc)) ∧ (W.cell? ⟨w.heap.size + 1, 1, none⟩ = some (.int .i64 x) ∧ W.cell? ⟨w.heap.size + 1, 2, none⟩ = some (.int .i64 y) ∧ W.cell? ⟨w.heap.size + 1, 3, none⟩ = some (.int .i64 u) ∧ W.cell? ⟨w.heap.size + 1, 4, none⟩ = some (.int .i64 v)) ∧
  (W.cell? ⟨w.heap.size + 1 + 1, 0, none⟩ = some (cellAt W ⟨w.heap.size + 1 + 1, 0, none⟩) ∧ W.cell? ⟨w.heap.size + 1 + 1, 1, none⟩ = some (cellAt W ⟨w.heap.size + 1 + 1, 1, none⟩) ∧ W.cell? ⟨w.heap.size + 1 + 1, 2, none⟩ = some (cellAt W ⟨w.heap.size + 1 + 1, 2, none⟩) ∧ W.cell? ⟨w.heap.size + 1 + 1, 3, none⟩ = some (cellAt W ⟨w.heap.size + 1 + 1, 3, none⟩) ∧ W.cell? ⟨w.heap.size + 1 + 1, 4, none⟩ = some (cellAt W ⟨w.heap.size + 1 + 1, 4, none⟩) ∧ W.cell? ⟨w.heap.size + 1 + 1, 5, none⟩ = some (cellAt W ⟨w.heap.size + 1 + 1, 5, none⟩)) ∧
  (W.frozen? ⟨w.heap.size + 1 + 1, 0, none⟩ = false ∧ W.frozen? ⟨w.heap.size + 1 + 1, 1, none⟩ = false ∧ W.frozen? ⟨w.heap.size + 1 + 1, 2, none⟩ = false ∧ W.frozen? ⟨w.heap.size + 1 + 1, 3, none⟩ = false ∧ W.frozen? ⟨w.heap.size + 1 + 1, 4, none⟩ = false ∧ W.frozen? ⟨w.heap.size + 1 + 1, 5, none⟩ = false) ∧ w.heap.size + 1 + 1 < W.heap.size ∧ Below w.heap.size w W)
      (first | with_reducible exact op_set' hq3 _ _ _ _ _ _ | with_reducible exact hq3 | with_reducible exact hq2 | with_reducible exact HST.out)
      (first
        | (go_at_call 95; have hq : OpS w w.heap.size (.slice da dn dc) nm (.slice na m nc) x y u v _ := (by assumption); (with_reducible refine (C1.out _ hq.2.2.2.2.2).mono ?_); rintro e w2 ⟨rfl, hb2⟩; have hq2 := op_call hb2 hq; clear hq)
        | (go_at_call 95; have hq : OpS w w.heap.size (.slice da dn dc) nm (.slice na m nc) x y u v _ := (by assumption); (with_reducible refine (C2'.out _ hq.2.2.2.2.2).mono ?_); rintro e w3 ⟨rfl, hb3⟩; have hq3 := op_call hb3 hq; clear hq))
    rename_i hHeld
    clear hHeld
    obtain ⟨z0, z1, z2, z3, z4, z5⟩ := set6_at (op_at hq3) (u0 := .int .i64 3) (u1 := .int .i64 p) (u2 := .int .i64 q) (u3 := .int .i64 r) (u4 := .int .i64 s) (u5 := .slice none 0 0)
    have HFIN := Lib.hid (op_set hq3 (.int .i64 3) (.int .i64 p) (.int .i64 q) (.int .i64 r) (.int .i64 s) (.slice none 0 0)).2.2.2.2.2
    clear hq3 hq2 hb2 hb3
    unfold set6 at z0 z1 z2 z3 z4 z5 HFIN
    go_wp2_with fail
    exact bodyPost_ret (v := .agg #[.int .i64 3, .int .i64 p, .int .i64 q, .int .i64 r, .int .i64 s, .slice none 0 0]) (by simp [results, Tryz.results94, go_sem, z0, z1, z2, z3, z4, z5]) rfl ⟨rfl, HFIN.out⟩
  rw [if_neg k2]
  have n2 := neI k2
  by_cases k3 : K = 3
  · subst k3
    have c2' := C2.out (.inr rfl)
    have C2' := Lib.hid c2'
    clear c2' C2 k2
    rw [if_pos rfl]
    go_enter Tryz.func94, Tryz.ntmps94
    go_wp2_with fail
    go_region_held3 (fun W => (W.cell? ⟨w.heap.size, 0, none⟩ = some (.slice da dn dc) ∧ W.cell? ⟨w.heap.size, 1, none⟩ = some (.string nm) ∧ W.cell? ⟨w.heap.size, 2, none⟩ = some (.slice na m nc)) ∧ (W.cell? ⟨w.heap.size + 1, 1, none⟩ = some (.int .i64 x) ∧ W.cell? ⟨w.heap.size + 1, 2, none⟩ = some (.int .i64 y) ∧ W.cell? ⟨w.heap.size + 1, 3, none⟩ = some (.int .i64 u) ∧ W.cell? ⟨w.heap.size + 1, 4, none⟩ = some (.int .i64 v)) ∧
  (W.cell? ⟨w.heap.size + 1 + 1, 0, none⟩ = some (cellAt W ⟨w.heap.size + 1 + 1, 0, none⟩) ∧ W.cell? ⟨w.heap.size + 1 + 1, 1, none⟩ = some (cellAt W ⟨w.heap.size + 1 + 1, 1, none⟩) ∧ W.cell? ⟨w.heap.size + 1 + 1, 2, none⟩ = some (cellAt W ⟨w.heap.size + 1 + 1, 2, none⟩) ∧ W.cell? ⟨w.heap.size + 1 + 1, 3, none⟩ = some (cellAt W ⟨w.heap.size + 1 + 1, 3, none⟩) ∧ W.cell? ⟨w.heap.size + 1 + 1, 4, none⟩ = some (cellAt W ⟨w.heap.size + 1 + 1, 4, none⟩) ∧ W.cell? ⟨w.heap.size + 1 + 1, 5, none⟩ = some (cellAt W ⟨w.heap.size + 1 + 1, 5, none⟩)) ∧
  (W.frozen? ⟨w.heap.size + 1 + 1, 0, none⟩ = false ∧ W.frozen? ⟨w.heap.size + 1 + 1, 1, none⟩ = false ∧ W.frozen? ⟨w.heap.size + 1 + 1, 2, none⟩ = false ∧ W.frozen? ⟨w.heap.size + 1 + 1, 3, none⟩ = false ∧ W.frozen? ⟨w.heap.size + 1 + 1, 4, none⟩ = false ∧ W.frozen? ⟨w.heap.size + 1 + 1, 5, none⟩ = false) ∧ w.heap.size + 1 + 1 < W.heap.size ∧ Below w.heap.size w W)
      (first | with_reducible exact op_set' hq3 _ _ _ _ _ _ | with_reducible exact hq3 | with_reducible exact hq2 | with_reducible exact HST.out)
      (first
        | (go_at_call 95; have hq : OpS w w.heap.size (.slice da dn dc) nm (.slice na m nc) x y u v _ := (by assumption); (with_reducible refine (C1.out _ hq.2.2.2.2.2).mono ?_); rintro e w2 ⟨rfl, hb2⟩; have hq2 := op_call hb2 hq; clear hq)
        | (go_at_call 95; have hq : OpS w w.heap.size (.slice da dn dc) nm (.slice na m nc) x y u v _ := (by assumption); (with_reducible refine (C2'.out _ hq.2.2.2.2.2).mono ?_); rintro e w3 ⟨rfl, hb3⟩; have hq3 := op_call hb3 hq; clear hq))
    rename_i hHeld
    clear hHeld
    obtain ⟨z0, z1, z2, z3, z4, z5⟩ := set6_at (op_at hq3) (u0 := .int .i64 2) (u1 := .int .i64 p) (u2 := .int .i64 q) (u3 := .int .i64 r) (u4 := .int .i64 s) (u5 := .slice none 0 0)
    have HFIN := Lib.hid (op_set hq3 (.int .i64 2) (.int .i64 p) (.int .i64 q) (.int .i64 r) (.int .i64 s) (.slice none 0 0)).2.2.2.2.2
    clear hq3 hq2 hb2 hb3
    unfold set6 at z0 z1 z2 z3 z4 z5 HFIN
    go_wp2_with fail
    exact bodyPost_ret (v := .agg #[.int .i64 2, .int .i64 p, .int .i64 q, .int .i64 r, .int .i64 s, .slice none 0 0]) (by simp [results, Tryz.results94, go_sem, z0, z1, z2, z3, z4, z5]) rfl ⟨rfl, HFIN.out⟩
  rw [if_neg k3]
  have n3 := neI k3
  clear C2
  by_cases k4 : K = 4
  · subst k4
    clear k2 k3
    rw [if_pos rfl]
    go_enter Tryz.func94, Tryz.ntmps94
    go_wp2_with fail
    refine (C1.out _ (HB3.out _ _ _)).mono ?_
    rintro e w1 ⟨rfl, hb⟩
    have hq := HFZ.out _ hb
    obtain ⟨z0, z1, z2, z3, z4, z5⟩ := set6_at (op_at hq) (u0 := .int .i64 5) (u1 := .int .i64 p) (u2 := .int .i64 q) (u3 := .int .i64 0) (u4 := .int .i64 0) (u5 := .slice none 0 0)
    have HFIN := Lib.hid (op_set hq (.int .i64 5) (.int .i64 p) (.int .i64 q) (.int .i64 0) (.int .i64 0) (.slice none 0 0)).2.2.2.2.2
    obtain ⟨_, _, ⟨d1, d2, d3, d4, d5, d6⟩, ⟨f1, f2, f3, f4, f5, f6⟩, _, _⟩ := hq
    unfold set6 at z0 z1 z2 z3 z4 z5 HFIN
    clear hb
    go_wp2_with fail
    exact bodyPost_ret (v := .agg #[.int .i64 5, .int .i64 p, .int .i64 q, .int .i64 0, .int .i64 0, .slice none 0 0]) (by simp [results, Tryz.results94, go_sem, z0, z1, z2, z3, z4, z5]) rfl ⟨rfl, HFIN.out⟩
  · rw [if_neg k4]
    have n4 := neI k4
    clear k2 k3 k4
    go_enter Tryz.func94, Tryz.ntmps94
    go_wp2_with fail
    refine (C1.out _ (HB3.out _ _ _)).mono ?_
    rintro e w1 ⟨rfl, hb⟩
    have hq := HFZ.out _ hb
    obtain ⟨z0, z1, z2, z3, z4, z5⟩ := set6_at (op_at hq) (u0 := .int .i64 4) (u1 := .int .i64 p) (u2 := .int .i64 q) (u3 := .int .i64 0) (u4 := .int .i64 0) (u5 := .slice none 0 0)
    have HFIN := Lib.hid (op_set hq (.int .i64 4) (.int .i64 p) (.int .i64 q) (.int .i64 0) (.int .i64 0) (.slice none 0 0)).2.2.2.2.2
    obtain ⟨_, _, ⟨d1, d2, d3, d4, d5, d6⟩, ⟨f1, f2, f3, f4, f5, f6⟩, _, _⟩ := hq
    unfold set6 at z0 z1 z2 z3 z4 z5 HFIN
    clear hb
    go_wp2_with fail
    exact bodyPost_ret (v := .agg #[.int .i64 4, .int .i64 p, .int .i64 q, .int .i64 0, .int .i64 0, .slice none 0 0]) (by simp [results, Tryz.results94, go_sem, z0, z1, z2, z3, z4, z5]) rfl ⟨rfl, HFIN.out⟩
end Go.Proofs.YtgjcblginkdinaaGreatDoor
