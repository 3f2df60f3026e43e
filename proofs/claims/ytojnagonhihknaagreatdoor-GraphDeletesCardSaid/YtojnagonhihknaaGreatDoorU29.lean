/- Names as9 they are compared: the order of lists of bytes. Mathematics alone. lay$1: the names of two patches compared. A vertex compared with an id. slices.SortFunc of named patches by lay$1: by their names. slices.Values over named patches: the iterator's contract. -/
import Derived.Lib.Bytealg
import Derived.Sort.Statements
import Derived.Shelf.SlSortCmp.Insertion
import Derived.RangeFuncNested
import Derived.RangeFuncBound
import Derived.RangeFuncCalls
import Derived.RangeFuncLeaves
import Derived.Shelf.Abstract
import Derived.Shelf.RegionOpen
import Derived.WalkKit
import Derived.OwnWalkIn
import Derived.TacticsInMore
import Derived.LoopNIn
import Derived.LoopIn
import Derived.Test.YtojnagonhihknaaGreatDoorShelfB
import Derived.Test.YtojnagonhihknaaGreatDoorShelfN
import Derived.Test.YtojnagonhihknaaGreatDoorU15
import Derived.Test.YtojnagonhihknaaGreatDoorU18
import Derived.Test.YtojnagonhihknaaGreatDoorU19
import Derived.Test.YtojnagonhihknaaGreatDoorU28
import Derived.Test.YtojnagonhihknaaGreatDoorU3
import Derived.Test.YtojnagonhihknaaGreatDoorU4
set_option linter.unusedVariables false
namespace Go.Proofs.YtojnagonhihknaaGreatDoor
open Go.Lib Go.Sort Go.Shelf

theorem cmpB_lt : ∀ a b : List UInt8, compareBytes a b < 0 ↔ a < b
  | [], [] => by simp [compareBytes]
  | [], b :: bs => by simp [compareBytes]
  | a :: la, [] => by simp [compareBytes]
  | a :: la, b :: lb => by
    rw [List.cons_lt_cons_iff]
    unfold compareBytes
    by_cases h1 : a < b
    · rw [if_pos h1]
      exact ⟨fun _ => .inl h1, fun _ => by decide⟩
    · rw [if_neg h1]
      by_cases h2 : b < a
      · rw [if_pos h2]
        exact ⟨fun h => absurd h (by decide), fun h => h.elim (fun h => absurd h h1) fun h => absurd h.1 (fun e => h1 (by rw [e] at h2; exact absurd h2 (UInt8.lt_irrefl _)))⟩
      · rw [if_neg h2, cmpB_lt la lb]
        have e : a = b := UInt8.le_antisymm (UInt8.not_lt.1 h2) (UInt8.not_lt.1 h1)
        exact ⟨fun h => .inr ⟨e, h⟩, fun h => h.elim (fun h => absurd h h1) (·.2)⟩
def cmpN (x y : ByteArray) : Int := compareBytes x.data.toList y.data.toList
theorem cmpN_lt (x y : ByteArray) : ltOf cmpN x y = true ↔ x.data.toList < y.data.toList := by
  unfold ltOf cmpN
  rw [decide_eq_true_iff, cmpB_lt]
theorem cmpN_not (x y : ByteArray) : ltOf cmpN x y = false ↔ ¬ x.data.toList < y.data.toList := by rw [← cmpN_lt, Bool.not_eq_true]
theorem swoN : SWO (ltOf cmpN) where
  irrefl x := by rw [cmpN_not]; exact List.lt_irrefl _
  trans x y z h1 h2 := by rw [cmpN_lt] at *; exact List.lt_trans h1 h2
  ntrans x y z h1 h2 := by
    rw [cmpN_not] at *
    rw [List.not_lt] at *
    exact List.le_trans h2 h1
theorem totN (x y : ByteArray) (h1 : ltOf cmpN x y = false) (h2 : ltOf cmpN y x = false) : x = y := by
  rw [cmpN_not] at *
  rw [List.not_lt] at *
  exact ba_ext (List.le_antisymm h2 h1)
theorem sortN_pairwise (L : List ByteArray) : (L.mergeSort fun x y => !(ltOf cmpN) y x).Pairwise fun x y => ¬ y.data.toList < x.data.toList := by
  have h := List.pairwise_mergeSort (le := fun x y : ByteArray => !(ltOf cmpN) y x) (fun a b c h1 h2 => by
    rw [Bool.not_eq_true'] at *
    exact swoN.ntrans c b a h2 h1) (fun a b => by
    rw [Bool.or_eq_true, Bool.not_eq_true', Bool.not_eq_true', cmpN_not, cmpN_not, List.not_lt, List.not_lt]
    exact List.le_total _ _) L
  exact h.imp fun h => by rwa [Bool.not_eq_true', cmpN_not] at h
end Go.Proofs.YtojnagonhihknaaGreatDoor
set_option linter.unusedVariables false
namespace Go.Proofs.YtojnagonhihknaaGreatDoor
open Go.ChangeShapes Go.WideShapes Go.ChangeAt Go.RowKit

set_option maxHeartbeats 1000000 in
set_option maxRecDepth 100000 in
theorem gless_any (x y tx ty : ByteArray) (dx ox dy oy : Value) (W : World) : Calls Tryz.prog 48 #[npV x tx dx ox, npV y ty dy oy] W fun e w' => e = .returned (.int .i64 (cmpN x y)) ∧ ∃ q os', w' = Go.Sort.grow (W.drewN q) os' := by
  have H := Lib.hid (fun w => Tryz.strings_Compare x y w)
  obtain ⟨r, hr⟩ : ∃ r, r = cmpN x y := ⟨_, rfl⟩
  have hr2 : r = Lib.compareBytes x.data.toList y.data.toList := hr
  rw [← hr2] at H
  rw [← hr]
  clear hr hr2
  obtain ⟨W2, hW2⟩ : ∃ W2, W2 = (W.alloc (.cells #[.string x, .string tx, dx, ox] 49)).alloc (.cells #[.string y, .string ty, dy, oy] 49) := ⟨_, rfl⟩
  have HW2 := Lib.hid hW2
  clear hW2
  go_enter Tryz.func48, Tryz.ntmps48
  go_wp2_with fail
  refine (H.out _).mono ?_
  rintro e w7 ⟨rfl, rfl⟩
  go_wp2_with fail
  go_ret
  refine ⟨rfl, 0, #[.cells #[.string x, .string tx, dx, ox] 49] ++ #[.cells #[.string y, .string ty, dy, oy] 49], ?_⟩
  rw [Go.Sort.alloc_eq_grow, Go.Sort.alloc_eq_grow, Go.Sort.grow_grow]
  rfl
end Go.Proofs.YtojnagonhihknaaGreatDoor
set_option linter.unusedVariables false
set_option linter.unusedSimpArgs false
namespace Go.Proofs.YtojnagonhihknaaGreatDoor
open Go.ChangeShapes Go.WideShapes Go.ChangeAt Go.RowKit

def cmpV (x : Vx) (p : ByteArray) (n : Int) : Int := if cmpN x.pn p = 0 then cmpI x.n n else cmpN x.pn p
set_option maxHeartbeats 2000000 in
set_option maxRecDepth 100000 in
theorem gcompare_any (x : Vx) (p : ByteArray) (n : Int) (W : World) : Calls Tryz.prog 36 #[.agg #[.string x.pn, .int .i64 x.n, .string x.line, .int .i64 x.del, .string x.ap, .int .i64 x.an, .string x.bp, .int .i64 x.bn], .agg #[.string p, .int .i64 n]] W fun e w' => e = .returned (.int .i64 (cmpV x p n)) ∧ ∃ q os', w' = Go.Sort.grow (W.drewN q) os' := by
  obtain ⟨xp, xn, xl, xd, xa, xan, xb, xbn⟩ := x
  unfold cmpV
  simp only
  have H1 := Lib.hid (fun w => Tryz.strings_Compare xp p w)
  have H2 := Lib.hid (fun w => compare_any xn n w)
  obtain ⟨a, ha⟩ : ∃ a, a = cmpN xp p := ⟨_, rfl⟩
  have ha2 : a = Lib.compareBytes xp.data.toList p.data.toList := ha
  obtain ⟨b, hb⟩ : ∃ b, b = cmpI xn n := ⟨_, rfl⟩
  rw [← ha2] at H1
  rw [← ha]
  rw [← hb] at H2 ⊢
  clear ha ha2 hb
  obtain ⟨r, hr⟩ : ∃ r, r = if a = 0 then b else a := ⟨_, rfl⟩
  obtain ⟨W2, hW2⟩ : ∃ W2, W2 = (W.alloc (.cells #[.string xp, .int .i64 xn, .string xl, .int .i64 xd, .string xa, .int .i64 xan, .string xb, .int .i64 xbn] 42)).alloc (.cells #[.string p, .int .i64 n] 24) := ⟨_, rfl⟩
  have HO2 : Hid (∀ t, Calls Tryz.prog 74 #[.slice (some ⟨W2.heap.size, 0, none⟩) 2 2] (W2.alloc (.cells #[.int .i64 a, .int .i64 b] t)).drew fun e w' => e = .returned (.int .i64 r) ∧ w' = (W2.alloc (.cells #[.int .i64 a, .int .i64 b] t)).drew) := Lib.hid (fun t => by
    rw [hr]
    exact or_any a b W2.heap.size _ (show (W2.alloc (.cells #[.int .i64 a, .int .i64 b] t)).cell? ⟨W2.heap.size, 0, none⟩ = some (.int .i64 a) from World.cell?_alloc_at _ _ _ _ rfl) (show (W2.alloc (.cells #[.int .i64 a, .int .i64 b] t)).cell? ⟨W2.heap.size, 1, none⟩ = some (.int .i64 b) from World.cell?_alloc_at _ _ _ _ rfl))
  rw [← hr]
  clear hr
  obtain ⟨s, hs⟩ : ∃ s, s = W.heap.size := ⟨_, rfl⟩
  have hs2 : W2.heap.size = s + 2 := by rw [hW2, hs]; simp
  have hcz : ∀ j, W2.cell? ⟨s, j, none⟩ = #[Value.string xp, .int .i64 xn, .string xl, .int .i64 xd, .string xa, .int .i64 xan, .string xb, .int .i64 xbn][j]? := fun j => by
    have hl : s < (W.alloc (.cells #[.string xp, .int .i64 xn, .string xl, .int .i64 xd, .string xa, .int .i64 xan, .string xb, .int .i64 xbn] 42)).heap.size := by rw [hs]; simp
    rw [hW2, ((Below.refl _ _).alloc (Nat.le_refl _) _ : Below (W.alloc (.cells #[.string xp, .int .i64 xn, .string xl, .int .i64 xd, .string xa, .int .i64 xan, .string xb, .int .i64 xbn] 42)).heap.size _ _).cell (p := ⟨s, j, none⟩) hl, hs, World.cell?_alloc_at _ _ _ _ rfl]
  have hdz : ∀ j, W2.cell? ⟨s + 1, j, none⟩ = #[Value.string p, .int .i64 n][j]? := fun j => by
    rw [hW2, World.cell?_alloc_at _ _ _ _ (by rw [hs]; simp)]
  have a0 : W2.cell? ⟨s, 0, none⟩ = some (.string xp) := hcz 0
  have a1 : W2.cell? ⟨s, 1, none⟩ = some (.int .i64 xn) := hcz 1
  have b0 : W2.cell? ⟨s + 1, 0, none⟩ = some (.string p) := hdz 0
  have b1 : W2.cell? ⟨s + 1, 1, none⟩ = some (.int .i64 n) := hdz 1
  have HW2 := Lib.hid hW2
  clear hcz hdz
  go_enter Tryz.func36, Tryz.ntmps36
  go_wp2_with fail
  rw [← hs, ← hW2]
  rw [hs2] at HO2
  have HS2 := Lib.hid hs2
  clear hs hW2
  go_region_law (first
    | (go_simp; with_reducible refine (H1.out _).mono ?_; rintro e w7 ⟨rfl, rfl⟩)
    | (go_simp; with_reducible refine (H2.out _).mono ?_; rintro e w7 ⟨rfl, rfl⟩)
    | (go_simp; with_reducible refine (HO2.out _).mono ?_; rintro e w7 ⟨rfl, rfl⟩))
  all_goals
    go_wp2_with fail
    go_ret
    refine ⟨rfl, 1, #[.cells #[.string xp, .int .i64 xn, .string xl, .int .i64 xd, .string xa, .int .i64 xan, .string xb, .int .i64 xbn] 42] ++ (#[.cells #[.string p, .int .i64 n] 24] ++ #[.cells #[.int .i64 a, .int .i64 b] 3]), ?_⟩
    rw [HW2.out, Go.Sort.alloc_eq_grow, Go.Sort.alloc_eq_grow, Go.Sort.alloc_eq_grow, Go.Sort.grow_grow, Go.Sort.grow_grow]
    first | rfl | (rw [Array.append_assoc]; rfl) | (rw [← Array.append_assoc]; rfl)
end Go.Proofs.YtojnagonhihknaaGreatDoor
set_option linter.unusedVariables false
set_option linter.unusedSimpArgs false
namespace Go.Proofs.YtojnagonhihknaaGreatDoor
open Go.ChangeShapes Go.WideShapes Go.ChangeAt Go.RowKit Go.Shelf Go.Sort Go.Lib

theorem Row.cellN {k B b n cap j : Nat} {w : World} {cs : List Value} {u : Value} (h : Row k B w (.slice (some ⟨b, 0, none⟩) n cap) n cs) (hj : cs[j]? = some u) : w.cell? ⟨b, j, none⟩ = some u ∧ w.frozen? ⟨b, j, none⟩ = false ∧ B ≤ b ∧ b < w.heap.size ∧ n ≤ cap ∧ cap ≤ maxLen := by
  obtain ⟨h0, ⟨h, _⟩ | ⟨b', cap', h1, h2, h3, h4, h5, h6, h7⟩⟩ := h
  · cases h
  · injection h1 with e1 e2 e3
    injection e1 with e1
    injection e1 with e1
    subst e1; subst e3
    have hl := (List.getElem?_eq_some_iff.1 hj).1
    exact ⟨h7 j u hj, (h6 j (by rw [h0] at hl; exact Nat.lt_of_lt_of_le hl (Nat.mul_le_mul_right k h4))).2, h2, h3, h4, h5⟩
abbrev Bes := ByteArray → ByteArray × Value × Value
def encN (E : Bes) (x : ByteArray) : List Value := [.string x, .string (E x).1, (E x).2.1, (E x).2.2]
def NA (w : World) (b : Nat) (E : Bes) (L : Lb) : Prop := ∀ j x, L[j]? = some x → ∀ i v, (encN E x)[i]? = some v → w.cell? ⟨b, j * 4 + i, none⟩ = some v ∧ w.frozen? ⟨b, j * 4 + i, none⟩ = false
theorem encN_flat {E : Bes} : ∀ {L : Lb} {j : Nat} {x : ByteArray} {i : Nat} {v : Value}, L[j]? = some x → (encN E x)[i]? = some v → (L.flatMap (encN E))[j * 4 + i]? = some v
  | [], j, x, i, v, h, _ => by simp at h
  | y :: r, 0, x, i, v, h, hi => by
    simp at h
    subst h
    have hl : i < (encN E y).length := (List.getElem?_eq_some_iff.1 hi).1
    rw [List.flatMap_cons, List.getElem?_append_left (by simpa using hl)]
    simpa using hi
  | y :: r, j + 1, x, i, v, h, hi => by
    have ih := encN_flat (E := E) (L := r) (j := j) (by simpa using h) hi
    have hl : (encN E y).length = 4 := rfl
    rw [List.flatMap_cons, List.getElem?_append_right (by rw [hl]; omega), hl, show (j + 1) * 4 + i - 4 = j * 4 + i by omega]
    exact ih
theorem NA.ofRow {B n b cap : Nat} {w : World} {E : Bes} {L : Lb} (h : Row 4 B w (.slice (some ⟨b, 0, none⟩) n cap) n (L.flatMap (encN E))) : NA w b E L := fun j x hx i v hv => by
  obtain ⟨c0, f0, _⟩ := h.cellN (encN_flat hx hv)
  exact ⟨c0, f0⟩
theorem NA.holds {w : World} {b : Nat} {E : Bes} {L : Lb} (h : NA w b E L) : HoldsK (encN E) 4 w b 0 L.toArray := by
  intro t ht
  rw [size_flatK] at ht
  rw [get_flatK _ _ _ t ht, Nat.zero_add]
  have hj : t / 4 < L.length := by simp at ht; omega
  have he : L[t / 4]? = some L[t / 4] := List.getElem?_eq_getElem hj
  have hg : L.toArray[t / 4]! = L[t / 4] := by rw [getElem!_pos _ _ (by simpa using hj)]; simp
  rw [hg]
  have hm : t % 4 < 4 := Nat.mod_lt _ (by decide)
  have hi : (encN E L[t / 4])[t % 4]? = some ((encN E L[t / 4])[t % 4]!) := by
    have hl : t % 4 < (encN E L[t / 4]).length := hm
    rw [List.getElem?_eq_getElem hl, getElem!_pos (encN E L[t / 4]) (t % 4) hl]
  have := h (t / 4) _ he (t % 4) _ hi
  rw [show t / 4 * 4 + t % 4 = t by omega] at this
  exact this
theorem NA.ofHolds {w : World} {b : Nat} {E : Bes} {L : Lb} (h : HoldsK (encN E) 4 w b 0 L.toArray) : NA w b E L := fun j x hx i v hv => by
  have hj := (List.getElem?_eq_some_iff.1 hx).1
  have hi : i < 4 := (List.getElem?_eq_some_iff.1 hv).1
  have hg : L.toArray[j]! = x := by
    rw [getElem!_pos _ _ (by simpa using hj)]
    simpa using (List.getElem?_eq_some_iff.1 hx).2
  have h0 := h (j * 4 + i) (by rw [size_flatK]; simp; omega)
  rw [get_flatK _ _ _ _ (by simp; omega), Nat.zero_add, show (j * 4 + i) / 4 = j by omega, show (j * 4 + i) % 4 = i by omega, hg] at h0
  have hv2 : (encN E x)[i]! = v := by
    rw [getElem!_pos (encN E x) i (show i < (encN E x).length from hi)]
    exact (List.getElem?_eq_some_iff.1 hv).2
  rw [hv2] at h0
  exact h0
theorem offN_sorted {w : World} {g n : Nat} {os : Array Obj} {E : Bes} (d : Array ByteArray) : Off (fun i => i = g) w (sortWorldK (encN E) 4 w g 0 n d os) := by
  unfold sortWorldK putRowK
  refine ⟨rfl, rfl, rfl, by simp, fun k hk hne => ?_⟩
  rw [Go.Sort.heap_grow_old _ _ (by simpa using hk)]
  have : g ≠ k := fun e => hne e.symm
  simp [Go.Sort.putRow, Go.Sort.mapBlock, Go.Sort.ahead, Array.getElem?_modify, this]
theorem sortN_any {S n b cap : Nat} (E : Bes) (hE : ∀ x, (E x).2.1.oneCell' = true ∧ (E x).2.2.oneCell' = true) (L : Lb) (w : World) (h : Row 4 S w (.slice (some ⟨b, 0, none⟩) n cap) n (L.flatMap (encN E))) (hl : L.length = n) (hn : n ≤ 1000000) :
    Calls Tryz.prog 83 #[.slice (some ⟨b, 0, none⟩) n cap, .func (.func 48) #[] #[]] w fun e w' => e = .returned (.tuple #[]) ∧ ∃ M : Lb, M.Perm L ∧ M.Pairwise (fun x y => ¬ y.data.toList < x.data.toList) ∧ NA w' b E M ∧ Off (fun i => i = b) w w' := by
  obtain ⟨h1, h2⟩ := h.lt b rfl
  have hP := NA.ofRow h
  have eg : ∀ args w, (callFunc 48 args).run Tryz.prog w = .ok (.enter 48 args) w := enters_of Tryz.func48 (by kernel_rfl) rfl
  have hc := Tryz.slices_SortFuncN_total 4 (fun w => Tryz.isAgg49 w) (fun w => Tryz.sizeOf49 w) (encN E) (fun _ => rfl) (fun x v hv => by
      simp [encN] at hv
      rcases hv with rfl | rfl | rfl | rfl
      · rfl
      · rfl
      · exact (hE x).1
      · exact (hE x).2) cmpN swoN 48 #[] b 0 cap L.toArray w eg
    (fun _ _ _ _ x y => gless_any x y _ _ _ _ _ _ _) hP.holds h2 (by simp; omega) totN
  have hs : L.toArray.size = n := by simpa using hl
  rw [hs] at hc
  refine hc.mono ?_
  rintro e w' ⟨rfl, nn, os, rfl⟩
  have hp : (L.mergeSort fun x y => !(ltOf cmpN) y x).Perm L := List.mergeSort_perm _ _
  refine ⟨rfl, L.mergeSort fun x y => !(ltOf cmpN) y x, hp, sortN_pairwise L, NA.ofHolds ?_, offN_sorted _⟩
  have := holdsK_sortWorldK_c (enc := encN E) (k := 4) (w := w) (blk := b) (off := 0) L.toArray (L.mergeSort fun x y => !(ltOf cmpN) y x).toArray nn os hP.holds h2 (by simp [hp.length_eq])
  exact this
theorem sortN_none (p : Option Addr) (cap : Nat) (w : World) : Calls Tryz.prog 83 #[.slice p 0 cap, .func (.func 48) #[] #[]] w fun e w' => e = .returned (.tuple #[]) ∧ w' = w :=
  Tryz.slices_SortFuncN_none (α := ByteArray) p cap _ w
end Go.Proofs.YtojnagonhihknaaGreatDoor
set_option linter.unusedVariables false
namespace Go.Proofs.YtojnagonhihknaaGreatDoor
open Go.ChangeShapes Go.WideShapes Go.ChangeAt Go.RowKit Go.Shelf
attribute [local go_sem] Oper.semAt_some

theorem nvalues_in (a : Option Addr) (len cap : Nat) (w : World) :
    Calls Tryz.prog 47 #[.slice a len cap] w fun e w' => e = .returned (.func (.func 84) #[] #[.pointer (some ⟨w.heap.size, 0, none⟩)]) ∧ w' = w.alloc (.cells #[.slice a len cap] 22) := by
  go_enter Tryz.func47, Tryz.ntmps47
  go_wp2_with fail
  go_ret
  exact ⟨rfl, rfl⟩

abbrev NX (zs : Lb) := { k : Nat // k < zs.length }
def npE (E : Bes) (x : ByteArray) : Value := npV x (E x).1 (E x).2.1 (E x).2.2
abbrev encVN (E : Bes) (zs : Lb) (x : NX zs) : Array Value := #[npE E (zs[x.1]'x.2)]
def SlE (E : Bes) : Prop := ∀ x, (∃ a n c, (E x).2.1 = .slice a n c) ∧ ∃ a n c, (E x).2.2 = .slice a n c
def EntAt (w : World) (b o : Nat) (E : Bes) (x : ByteArray) : Prop := ∀ i v, (encN E x)[i]? = some v → w.cell? ⟨b, o + i, none⟩ = some v
theorem EntAt.four {w : World} {b o : Nat} {E : Bes} {x : ByteArray} (h : EntAt w b o E x) : w.cell? ⟨b, o, none⟩ = some (.string x) ∧ w.cell? ⟨b, o + 1, none⟩ = some (.string (E x).1) ∧ w.cell? ⟨b, o + 2, none⟩ = some (E x).2.1 ∧ w.cell? ⟨b, o + 3, none⟩ = some (E x).2.2 := ⟨h 0 _ rfl, h 1 _ rfl, h 2 _ rfl, h 3 _ rfl⟩
def nxs (zs : Lb) (k : Nat) : List (NX zs) := (List.range k).filterMap fun j => if h : j < zs.length then some ⟨j, h⟩ else none
theorem nxs_succ (zs : Lb) (k : Nat) (h : k < zs.length) : nxs zs (k + 1) = nxs zs k ++ [⟨k, h⟩] := by
  unfold nxs
  rw [List.range_succ, List.filterMap_append]
  simp [h]
theorem nxs_len (zs : Lb) : ∀ k, k ≤ zs.length → (nxs zs k).length = k
  | 0, _ => rfl
  | k + 1, h => by rw [nxs_succ zs k (by omega), List.length_append, nxs_len zs k (by omega)]; rfl
theorem nxs_map (zs : Lb) : (nxs zs zs.length).map (fun x => zs[x.1]'x.2) = zs := by
  have h : ∀ k, k ≤ zs.length → (nxs zs k).map (fun x => zs[x.1]'x.2) = zs.take k := by
    intro k
    induction k with
    | zero => intro _; rfl
    | succ k ih =>
      intro hk
      rw [nxs_succ zs k (by omega), List.map_append, ih (by omega), List.take_add_one, List.getElem?_eq_getElem (by omega)]
      rfl
  rw [h _ (Nat.le_refl _), List.take_length]

set_option maxRecDepth 100000 in
set_option maxHeartbeats 4000000 in
theorem nvalues1_in (F : Fence) (n : Nat) (h7 : F.fn 84) (hro : F.round = none) (hn : 1 ≤ n) (l Bs n₀ b off cap : Nat) (E : Bes) (hE : SlE E) (zs : Lb) (hreach : zs.length ≤ 4611686018427387904) (hb : b < n₀) (J Jx : List (NX zs) → World → Prop) (B₀ : Nat) (hJ : AbidesFrom B₀ J)
    (hY : ∀ pre x W, J pre W → pre.length < zs.length → YieldAt F (n - 1) Tryz.prog l (encVN E zs x) W fun e W' =>
      (e = .returned (.bool true) ∧ J (pre ++ [x]) W' ∧ Off (fun i => n₀ ≤ i ∧ i ≠ Bs) W W') ∨ (e = .returned (.bool false) ∧ Jx (pre ++ [x]) W'))
    (W : World) (hBs : W.cell? ⟨Bs, 0, none⟩ = some (.slice (some ⟨b, off, none⟩) zs.length cap))
    (hc : ∀ j x, zs[j]? = some x → EntAt W b (off + j * 4) E x) (h0 : J [] W) :
    CallsIn F n Tryz.prog 84 #[.func (.yield l) #[] #[], .pointer (some ⟨Bs, 0, none⟩)] W fun e W' => (∃ v, e = .returned v) ∧
      ((∃ ys, ys = nxs zs zs.length ∧ J ys W') ∨ (∃ pre, True ∧ Jx pre W')) := by
  obtain ⟨len, hlen⟩ : ∃ len, len = zs.length := ⟨_, rfl⟩
  rw [← hlen] at hBs hreach hY ⊢
  have HLEN := Lib.hid hlen
  clear hlen
  refine callsIn_of_wp Tryz.func84 rfl h7 ?_ hro
  simp only [Tryz.ntmps84, List.size_toArray, List.length_cons, List.length_nil, Nat.reduceAdd, Nat.reduceSub, Array.replicate_succ, Array.replicate_zero, List.push_toArray, List.append_toArray, List.nil_append, List.cons_append]
  gi_wp2
  gi_loopw [7] (fun i wr => ∃ k : Nat, k ≤ len ∧ i = .int .i64 (k : Nat) ∧ Hid (J (nxs zs k) wr) ∧ Hid (Off (fun i => n₀ ≤ i ∧ i ≠ Bs) W wr)) (fun i _ => len - (intOf i).toNat)
  case atStart => exact ⟨0, Nat.zero_le _, rfl, Lib.hid h0, Lib.hid (Off.refl _ _)⟩
  case round =>
    obtain ⟨k, hk, rfl, HJS, HNX⟩ := hrel
    by_cases hkl : k < len
    · have hq : k < zs.length := by rw [← HLEN.out]; exact hkl
      obtain ⟨x, hx⟩ : ∃ x, x = zs[k]'hq := ⟨_, rfl⟩
      have c0 := hc k _ (List.getElem?_eq_getElem hq)
      rw [← hx] at c0
      obtain ⟨d0, d1, d2, d3⟩ := EntAt.four (w := wr) (b := b) (o := off + k * 4) (E := E) (x := x) (fun i v hv => (HNX.out.cell (p := ⟨b, off + k * 4 + i, none⟩) (cell_lt (c0 i v hv)) (fun h' => Nat.not_le.2 hb h'.1)).trans (c0 i v hv))
      obtain ⟨t, ht⟩ : ∃ t, t = (E x).1 := ⟨_, rfl⟩
      obtain ⟨⟨a1, n1, c1, hdv⟩, a2, n2, c2, hov⟩ := hE x
      rw [← ht] at d1
      rw [hdv] at d2
      rw [hov] at d3
      obtain ⟨fn, tmps, assign, body, hy, hR⟩ := hY _ ⟨k, hq⟩ (wr.alloc (.cells #[.string x, .string t, .slice a1 n1 c1, .slice a2 n2 c2] 49)) (hJ _ _ _ none HJS.out (World.grownBy_alloc wr _ none) (fun r e => by cases e)) (by rw [nxs_len _ _ (by rw [← HLEN.out]; omega)]; omega)
      have hee : encVN E zs ⟨k, hq⟩ = #[npV x (E x).1 (E x).2.1 (E x).2.2] := by rw [hx]; rfl
      rw [hee] at hy
      rw [← ht, hdv, hov] at hy
      clear ht hdv hov
      have HR := Lib.hid hR
      have HQ := Lib.hid hq
      clear hR c0 hx hee
      gi_wp2
      refine HR.out.mono ?_
      rintro e W3 (⟨rfl, hJ3, hk3⟩ | ⟨rfl, hJx3⟩)
      · have HJ3 := Lib.hid hJ3
        have HK3 := Lib.hid hk3
        clear hJ3 hk3
        gi_wp2
        go_roundw
        case rel => exact ⟨k + 1, by omega, by go_num, Lib.hid (by rw [nxs_succ zs k HQ.out]; exact HJ3.out), Lib.hid ((HNX.out.trans (Off.of_below ((Below.refl _ _).alloc (Nat.le_refl _) _))).trans HK3.out)⟩
        case measure => simp [intOf]; omega
      · have HJX := Lib.hid hJx3
        clear hJx3
        gi_wp2
        refine bodyPost_ret (results_none rfl _ _ _) rfl ?_
        exact ⟨⟨_, rfl⟩, .inr ⟨_, trivial, HJX.out⟩⟩
    · obtain rfl : k = len := by omega
      gi_wp2
      go_end0
      exact ⟨⟨_, rfl⟩, .inl ⟨_, by rw [HLEN.out], HJS.out⟩⟩

set_option maxRecDepth 100000 in
set_option maxHeartbeats 1000000 in
theorem nvalues1_nil_in (F : Fence) (n : Nat) (h7 : F.fn 84) (hro : F.round = none) (l Bs : Nat) (a : Option Addr) (c : Nat) (R : World → Prop) (W : World) (hBs : W.cell? ⟨Bs, 0, none⟩ = some (.slice a 0 c)) (h0 : R W) :
    CallsIn F n Tryz.prog 84 #[.func (.yield l) #[] #[], .pointer (some ⟨Bs, 0, none⟩)] W fun e W' => (∃ v, e = .returned v) ∧ R W' := by
  refine callsIn_of_wp Tryz.func84 rfl h7 ?_ hro
  simp only [Tryz.ntmps84, List.size_toArray, List.length_cons, List.length_nil, Nat.reduceAdd, Nat.reduceSub, Array.replicate_succ, Array.replicate_zero, List.push_toArray, List.append_toArray, List.nil_append, List.cons_append]
  gi_wp2
  gi_loopw [7] (fun i wr => i = .int .i64 0 ∧ R wr) (fun _ _ => 0)
  case atStart => exact ⟨rfl, h0⟩
  case round =>
    obtain ⟨rfl, hJs⟩ := hrel
    gi_wp2
    go_end0
    exact ⟨⟨_, rfl⟩, hJs⟩

theorem nvalues_stops (F : Fence) (n : Nat) (h7 : F.fn 84) (hro : F.round = none) (hn : 1 ≤ n) (Bs n₀ : Nat) (a : Option Addr) (m c : Nat) (E : Bes) (hE : SlE E) (zs : Lb) (hm : m = zs.length) (hreach : zs.length ≤ 4611686018427387904) (w : World) (hn₀ : n₀ ≤ w.heap.size)
    (hc : w.cell? ⟨Bs, 0, none⟩ = some (.slice a m c))
    (hI : ∀ j x, zs[j]? = some x → ∃ b o, a = some ⟨b, o, none⟩ ∧ b < n₀ ∧ EntAt w b (o + j * 4) E x) :
    SeqStopsK F n Tryz.prog 84 #[.pointer (some ⟨Bs, 0, none⟩)] (fun x : NX zs => encVN E zs x) (Off (fun i => n₀ ≤ i ∧ i ≠ Bs)) (fun ys => ys = nxs zs zs.length) (fun _ => True) zs.length w := fun l J Jx W hW hJ _ hY h0 => by
  subst hm
  have hc' := (hW.cell (p := ⟨Bs, 0, none⟩) (cell_lt hc)).trans hc
  by_cases e : zs = []
  · subst e
    exact (nvalues1_nil_in F n h7 hro l Bs a c (J []) W hc' h0).mono fun e W' ⟨he, hj⟩ => ⟨he, .inl ⟨_, rfl, hj⟩⟩
  · obtain ⟨x, hx⟩ : ∃ x, zs[0]? = some x := ⟨zs[0]'(List.length_pos_iff.2 e), by simp⟩
    obtain ⟨b, o, rfl, hb, _⟩ := hI 0 x hx
    refine (nvalues1_in F n h7 hro hn l Bs n₀ b o c E hE zs hreach hb J Jx _ hJ hY W hc' (fun j x hx => ?_) h0).mono ?_
    · obtain ⟨b', o', hbo, _, c0⟩ := hI j x hx
      injection hbo with hbo
      injection hbo with hb1 hb2
      subst hb1; subst hb2
      exact fun i v hv => (hW.cell (p := ⟨b, o + j * 4 + i, none⟩) (by show b < _; omega)).trans (c0 i v hv)
    · rintro e W' ⟨he, ⟨ys, hys, hj⟩ | ⟨pre, _, hj⟩⟩
      · exact ⟨he, .inl ⟨ys, hys, hj⟩⟩
      · exact ⟨he, .inr ⟨pre, trivial, hj⟩⟩
end Go.Proofs.YtojnagonhihknaaGreatDoor
