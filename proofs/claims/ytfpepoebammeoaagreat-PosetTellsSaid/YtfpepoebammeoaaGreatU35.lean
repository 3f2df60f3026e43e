/- slices.Backward over ints and over pairs: the iterators' contracts. -/
import Derived.RangeFuncNested
import Derived.RangeFuncBound
import Derived.RangeFuncCalls
import Derived.RangeFuncLeaves
import Derived.Shelf.Abstract
import Derived.Shelf.RegionOpen
import Derived.WalkKit
import Derived.OwnWalkIn
import Derived.TacticsInMore
import Derived.LoopNIn
import Derived.LoopIn
import Derived.Test.YtfpepoebammeoaaGreatU34
set_option linter.unusedVariables false
namespace Go.Proofs.YtfpepoebammeoaaGreat
open Go.ChangeShapes Go.WideShapes Go.ChangeAt Go.RowKit Go.Shelf
attribute [local go_sem] Oper.semAt_some

abbrev IXL {α : Type} (zs : List α) := { k : Nat // k < zs.length }
def ixl {α : Type} (zs : List α) (k : Nat) : List (IXL zs) := (List.range k).filterMap fun j => if h : zs.length - 1 - j < zs.length then some ⟨zs.length - 1 - j, h⟩ else none
theorem ixl_succ {α : Type} (zs : List α) (k : Nat) (h : zs.length - 1 - k < zs.length) : ixl zs (k + 1) = ixl zs k ++ [⟨zs.length - 1 - k, h⟩] := by
  unfold ixl
  rw [List.range_succ, List.filterMap_append]
  simp [h]
theorem ixl_len {α : Type} (zs : List α) : ∀ k, k ≤ zs.length → (ixl zs k).length = k
  | 0, _ => rfl
  | k + 1, h => by rw [ixl_succ zs k (by omega), List.length_append, ixl_len zs k (by omega)]; rfl
theorem ixl_map {α : Type} (zs : List α) : ∀ k, k ≤ zs.length → (ixl zs k).map (fun x => zs[x.1]'x.2) = (zs.drop (zs.length - k)).reverse
  | 0, _ => by simp [ixl]
  | k + 1, h => by
    rw [ixl_succ zs k (by omega), List.map_append, ixl_map zs k (by omega)]
    have e : zs.drop (zs.length - (k + 1)) = zs[zs.length - 1 - k]'(by omega) :: zs.drop (zs.length - k) := by
      rw [List.drop_eq_getElem_cons (by omega)]
      congr 1
      · congr 1; omega
      · congr 1; omega
    rw [e, List.reverse_cons]
    rfl
abbrev encI (zs : List Int) (x : IXL zs) : Array Value := #[.int .i64 (x.1 : Nat), .int .i64 (zs[x.1]'x.2)]
theorem backwardI_in (a : Option Addr) (len cap : Nat) (w : World) :
    Calls Tryz.prog 90 #[.slice a len cap] w fun e w' => e = .returned (.func (.func 111) #[] #[.pointer (some ⟨w.heap.size, 0, none⟩)]) ∧ w' = w.alloc (.cells #[.slice a len cap] 23) := by
  go_enter Tryz.func90, Tryz.ntmps90
  go_wp2_with fail
  go_ret
  exact ⟨rfl, rfl⟩
set_option maxRecDepth 100000 in
set_option maxHeartbeats 4000000 in
theorem back1I_in (F : Fence) (n : Nat) (h7 : F.fn 111) (hro : F.round = none) (hn : 1 ≤ n) (l Bs n₀ b off cap : Nat) (zs : List Int) (hreach : zs.length ≤ 4611686018427387904) (hb : b < n₀) (J Jx : List (IXL zs) → World → Prop)
    (hY : ∀ pre x W, J pre W → pre.length < zs.length → YieldAt F (n - 1) Tryz.prog l (encI zs x) W fun e W' =>
      (e = .returned (.bool true) ∧ J (pre ++ [x]) W' ∧ Off (fun i => n₀ ≤ i ∧ i ≠ Bs) W W') ∨ (e = .returned (.bool false) ∧ Jx (pre ++ [x]) W'))
    (W : World) (hBs : W.cell? ⟨Bs, 0, none⟩ = some (.slice (some ⟨b, off, none⟩) zs.length cap))
    (hc : ∀ j x, zs[j]? = some x → W.cell? ⟨b, off + j, none⟩ = some (.int .i64 x)) (h0 : J [] W) :
    CallsIn F n Tryz.prog 111 #[.func (.yield l) #[] #[], .pointer (some ⟨Bs, 0, none⟩)] W fun e W' => (∃ v, e = .returned v) ∧
      ((∃ ys, ys = ixl zs zs.length ∧ J ys W') ∨ (∃ pre, True ∧ Jx pre W')) := by
  obtain ⟨len, hlen⟩ : ∃ len, len = zs.length := ⟨_, rfl⟩
  rw [← hlen] at hBs hreach hY ⊢
  have HLEN := Lib.hid hlen
  clear hlen
  refine callsIn_of_wp Tryz.func111 rfl h7 ?_ hro
  simp only [Tryz.ntmps111, List.size_toArray, List.length_cons, List.length_nil, Nat.reduceAdd, Nat.reduceSub, Array.replicate_succ, Array.replicate_zero, List.push_toArray, List.append_toArray, List.nil_append, List.cons_append]
  gi_wp2
  gi_loopw [3] (fun i wr => ∃ k r : Nat, k + r = len ∧ i = .int .i64 ((r : Int) - 1) ∧ Hid (J (ixl zs k) wr) ∧ Hid (Off (fun i => n₀ ≤ i ∧ i ≠ Bs) W wr)) (fun i _ => (intOf i + 1).toNat)
  case atStart => exact ⟨0, len, by omega, by go_num, Lib.hid h0, Lib.hid (Off.refl _ _)⟩
  case round =>
    obtain ⟨k, r, hk, rfl, HJS, HNX⟩ := hrel
    have hBx : wr.cell? ⟨Bs, 0, none⟩ = some (.slice (some ⟨b, off, none⟩) len cap) := (HNX.out.cell (p := ⟨Bs, 0, none⟩) (cell_lt hBs) (fun h => h.2 rfl)).trans hBs
    cases r with
    | zero =>
      obtain rfl : k = len := by omega
      gi_wp2
      go_end0
      exact ⟨⟨_, rfl⟩, .inl ⟨_, by rw [HLEN.out], HJS.out⟩⟩
    | succ q =>
      have hq : q < zs.length := by rw [← HLEN.out]; omega
      have hidx : zs.length - 1 - k = q := by rw [← HLEN.out]; omega
      have e1 : ((q + 1 : Nat) : Int) - 1 = (q : Nat) := by omega
      rw [e1]
      have hzq : zs[q]? = some (zs[q]'hq) := List.getElem?_eq_getElem hq
      obtain ⟨x, hx⟩ : ∃ x, x = zs[q]'hq := ⟨_, rfl⟩
      have c0 := hc q _ hzq
      rw [← hx] at c0
      have hcx : ∀ j v, W.cell? ⟨b, j, none⟩ = some v → wr.cell? ⟨b, j, none⟩ = some v := fun j v h => (HNX.out.cell (p := ⟨b, j, none⟩) (cell_lt h) (fun h' => Nat.not_le.2 hb h'.1)).trans h
      have d0 := hcx _ _ c0
      obtain ⟨fn, tmps, assign, body, hy, hR⟩ := hY _ ⟨q, hq⟩ wr HJS.out (by rw [ixl_len _ _ (by rw [← HLEN.out]; omega)]; omega)
      have hee : encI zs ⟨q, hq⟩ = #[.int .i64 (q : Nat), .int .i64 x] := by rw [hx]
      rw [hee] at hy
      have HR := Lib.hid hR
      have HQ := Lib.hid hq
      clear hR hzq hcx c0 hx hee e1
      have hql : q < len := by omega
      gi_wp2
      refine HR.out.mono ?_
      rintro e W3 (⟨rfl, hJ3, hk3⟩ | ⟨rfl, hJx3⟩)
      · have HJ3 := Lib.hid hJ3
        have HK3 := Lib.hid hk3
        clear hJ3 hk3
        gi_wp2
        go_roundw
        case rel => exact ⟨k + 1, q, by omega, rfl, Lib.hid (by rw [ixl_succ zs k (by rw [hidx]; exact HQ.out)]; have h := HJ3.out; have e : (⟨q, HQ.out⟩ : IXL zs) = ⟨zs.length - 1 - k, by rw [hidx]; exact HQ.out⟩ := Subtype.ext hidx.symm; rw [← e]; exact h), Lib.hid (HNX.out.trans HK3.out)⟩
        case measure => simp [intOf]
      · have HJX := Lib.hid hJx3
        clear hJx3
        gi_wp2
        refine bodyPost_ret (results_none rfl _ _ _) rfl ?_
        exact ⟨⟨_, rfl⟩, .inr ⟨_, trivial, HJX.out⟩⟩

set_option maxRecDepth 100000 in
set_option maxHeartbeats 1000000 in
theorem back1I_nil_in (F : Fence) (n : Nat) (h7 : F.fn 111) (hro : F.round = none) (l Bs : Nat) (a : Option Addr) (c : Nat) (R : World → Prop) (W : World) (hBs : W.cell? ⟨Bs, 0, none⟩ = some (.slice a 0 c)) (h0 : R W) :
    CallsIn F n Tryz.prog 111 #[.func (.yield l) #[] #[], .pointer (some ⟨Bs, 0, none⟩)] W fun e W' => (∃ v, e = .returned v) ∧ R W' := by
  refine callsIn_of_wp Tryz.func111 rfl h7 ?_ hro
  simp only [Tryz.ntmps111, List.size_toArray, List.length_cons, List.length_nil, Nat.reduceAdd, Nat.reduceSub, Array.replicate_succ, Array.replicate_zero, List.push_toArray, List.append_toArray, List.nil_append, List.cons_append]
  gi_wp2
  gi_loopw [3] (fun i wr => i = .int .i64 (-1) ∧ R wr) (fun _ _ => 0)
  case atStart => exact ⟨rfl, h0⟩
  case round =>
    obtain ⟨rfl, hJs⟩ := hrel
    gi_wp2
    go_end0
    exact ⟨⟨_, rfl⟩, hJs⟩

theorem backI_stops (F : Fence) (n : Nat) (h7 : F.fn 111) (hro : F.round = none) (hn : 1 ≤ n) (Bs n₀ : Nat) (a : Option Addr) (m c : Nat) (zs : List Int) (hm : m = zs.length) (hreach : zs.length ≤ 4611686018427387904) (w : World) (hn₀ : n₀ ≤ w.heap.size)
    (hc : w.cell? ⟨Bs, 0, none⟩ = some (.slice a m c))
    (hI : ∀ j x, zs[j]? = some x → ∃ b o, a = some ⟨b, o, none⟩ ∧ b < n₀ ∧ w.cell? ⟨b, o + j, none⟩ = some (.int .i64 x)) :
    SeqStopsK F n Tryz.prog 111 #[.pointer (some ⟨Bs, 0, none⟩)] (fun x : IXL zs => encI zs x) (Off (fun i => n₀ ≤ i ∧ i ≠ Bs)) (fun ys => ys = ixl zs zs.length) (fun _ => True) zs.length w := fun l J Jx W hW _ _ hY h0 => by
  subst hm
  have hc' := (hW.cell (p := ⟨Bs, 0, none⟩) (cell_lt hc)).trans hc
  by_cases e : zs = []
  · subst e
    exact (back1I_nil_in F n h7 hro l Bs a c (J []) W hc' h0).mono fun e W' ⟨he, hj⟩ => ⟨he, .inl ⟨_, rfl, hj⟩⟩
  · obtain ⟨x, hx⟩ : ∃ x, zs[0]? = some x := ⟨zs[0]'(List.length_pos_iff.2 e), by simp⟩
    obtain ⟨b, o, rfl, hb, _⟩ := hI 0 x hx
    refine (back1I_in F n h7 hro hn l Bs n₀ b o c zs hreach hb J Jx hY W hc' (fun j x hx => ?_) h0).mono ?_
    · obtain ⟨b', o', hbo, _, c0⟩ := hI j x hx
      injection hbo with hbo
      injection hbo with hb1 hb2
      subst hb1; subst hb2
      have k : ∀ i, W.cell? ⟨b, i, none⟩ = w.cell? ⟨b, i, none⟩ := fun i => hW.cell (p := ⟨b, i, none⟩) (by show b < _; omega)
      exact (k _).trans c0
    · rintro e W' ⟨he, ⟨ys, hys, hj⟩ | ⟨pre, _, hj⟩⟩
      · exact ⟨he, .inl ⟨ys, hys, hj⟩⟩
      · exact ⟨he, .inr ⟨pre, trivial, hj⟩⟩

abbrev encE (zs : List (Int × Int)) (x : IXL zs) : Array Value := #[.int .i64 (x.1 : Nat), .agg #[.int .i64 (zs[x.1]'x.2).1, .int .i64 (zs[x.1]'x.2).2]]
theorem backwardE_in (a : Option Addr) (len cap : Nat) (w : World) :
    Calls Tryz.prog 92 #[.slice a len cap] w fun e w' => e = .returned (.func (.func 113) #[] #[.pointer (some ⟨w.heap.size, 0, none⟩)]) ∧ w' = w.alloc (.cells #[.slice a len cap] 22) := by
  go_enter Tryz.func92, Tryz.ntmps92
  go_wp2_with fail
  go_ret
  exact ⟨rfl, rfl⟩
set_option maxRecDepth 100000 in
set_option maxHeartbeats 4000000 in
theorem back1E_in (F : Fence) (n : Nat) (h7 : F.fn 113) (hro : F.round = none) (hn : 1 ≤ n) (l Bs n₀ b off cap : Nat) (zs : List (Int × Int)) (hreach : zs.length ≤ 4611686018427387904) (hb : b < n₀) (J Jx : List (IXL zs) → World → Prop)
    (hY : ∀ pre x W, J pre W → pre.length < zs.length → YieldAt F (n - 1) Tryz.prog l (encE zs x) W fun e W' =>
      (e = .returned (.bool true) ∧ J (pre ++ [x]) W' ∧ Off (fun i => n₀ ≤ i ∧ i ≠ Bs) W W') ∨ (e = .returned (.bool false) ∧ Jx (pre ++ [x]) W'))
    (W : World) (hBs : W.cell? ⟨Bs, 0, none⟩ = some (.slice (some ⟨b, off, none⟩) zs.length cap))
    (hc : ∀ j x, zs[j]? = some x → W.cell? ⟨b, off + j * 2, none⟩ = some (.int .i64 x.1) ∧ W.cell? ⟨b, off + j * 2 + 1, none⟩ = some (.int .i64 x.2)) (h0 : J [] W) :
    CallsIn F n Tryz.prog 113 #[.func (.yield l) #[] #[], .pointer (some ⟨Bs, 0, none⟩)] W fun e W' => (∃ v, e = .returned v) ∧
      ((∃ ys, ys = ixl zs zs.length ∧ J ys W') ∨ (∃ pre, True ∧ Jx pre W')) := by
  obtain ⟨len, hlen⟩ : ∃ len, len = zs.length := ⟨_, rfl⟩
  rw [← hlen] at hBs hreach hY ⊢
  have HLEN := Lib.hid hlen
  clear hlen
  refine callsIn_of_wp Tryz.func113 rfl h7 ?_ hro
  simp only [Tryz.ntmps113, List.size_toArray, List.length_cons, List.length_nil, Nat.reduceAdd, Nat.reduceSub, Array.replicate_succ, Array.replicate_zero, List.push_toArray, List.append_toArray, List.nil_append, List.cons_append]
  gi_wp2
  gi_loopw [3] (fun i wr => ∃ k r : Nat, k + r = len ∧ i = .int .i64 ((r : Int) - 1) ∧ Hid (J (ixl zs k) wr) ∧ Hid (Off (fun i => n₀ ≤ i ∧ i ≠ Bs) W wr)) (fun i _ => (intOf i + 1).toNat)
  case atStart => exact ⟨0, len, by omega, by go_num, Lib.hid h0, Lib.hid (Off.refl _ _)⟩
  case round =>
    obtain ⟨k, r, hk, rfl, HJS, HNX⟩ := hrel
    have hBx : wr.cell? ⟨Bs, 0, none⟩ = some (.slice (some ⟨b, off, none⟩) len cap) := (HNX.out.cell (p := ⟨Bs, 0, none⟩) (cell_lt hBs) (fun h => h.2 rfl)).trans hBs
    cases r with
    | zero =>
      obtain rfl : k = len := by omega
      gi_wp2
      go_end0
      exact ⟨⟨_, rfl⟩, .inl ⟨_, by rw [HLEN.out], HJS.out⟩⟩
    | succ q =>
      have hq : q < zs.length := by rw [← HLEN.out]; omega
      have hidx : zs.length - 1 - k = q := by rw [← HLEN.out]; omega
      have e1 : ((q + 1 : Nat) : Int) - 1 = (q : Nat) := by omega
      rw [e1]
      have hzq : zs[q]? = some (zs[q]'hq) := List.getElem?_eq_getElem hq
      obtain ⟨x, hx⟩ : ∃ x, x = zs[q]'hq := ⟨_, rfl⟩
      obtain ⟨c0, c1⟩ := hc q _ hzq
      rw [← hx] at c0 c1
      have hcx : ∀ j v, W.cell? ⟨b, j, none⟩ = some v → wr.cell? ⟨b, j, none⟩ = some v := fun j v h => (HNX.out.cell (p := ⟨b, j, none⟩) (cell_lt h) (fun h' => Nat.not_le.2 hb h'.1)).trans h
      have d0 := hcx _ _ c0
      have d1 := hcx _ _ c1
      obtain ⟨fn, tmps, assign, body, hy, hR⟩ := hY _ ⟨q, hq⟩ wr HJS.out (by rw [ixl_len _ _ (by rw [← HLEN.out]; omega)]; omega)
      have hee : encE zs ⟨q, hq⟩ = #[.int .i64 (q : Nat), .agg #[.int .i64 x.1, .int .i64 x.2]] := by rw [hx]
      rw [hee] at hy
      have HR := Lib.hid hR
      have HQ := Lib.hid hq
      clear hR hzq hcx c0 c1 hx hee e1
      have hql : q < len := by omega
      gi_wp2
      refine HR.out.mono ?_
      rintro e W3 (⟨rfl, hJ3, hk3⟩ | ⟨rfl, hJx3⟩)
      · have HJ3 := Lib.hid hJ3
        have HK3 := Lib.hid hk3
        clear hJ3 hk3
        gi_wp2
        go_roundw
        case rel => exact ⟨k + 1, q, by omega, rfl, Lib.hid (by rw [ixl_succ zs k (by rw [hidx]; exact HQ.out)]; have h := HJ3.out; have e : (⟨q, HQ.out⟩ : IXL zs) = ⟨zs.length - 1 - k, by rw [hidx]; exact HQ.out⟩ := Subtype.ext hidx.symm; rw [← e]; exact h), Lib.hid (HNX.out.trans HK3.out)⟩
        case measure => simp [intOf]
      · have HJX := Lib.hid hJx3
        clear hJx3
        gi_wp2
        refine bodyPost_ret (results_none rfl _ _ _) rfl ?_
        exact ⟨⟨_, rfl⟩, .inr ⟨_, trivial, HJX.out⟩⟩

set_option maxRecDepth 100000 in
set_option maxHeartbeats 1000000 in
theorem back1E_nil_in (F : Fence) (n : Nat) (h7 : F.fn 113) (hro : F.round = none) (l Bs : Nat) (a : Option Addr) (c : Nat) (R : World → Prop) (W : World) (hBs : W.cell? ⟨Bs, 0, none⟩ = some (.slice a 0 c)) (h0 : R W) :
    CallsIn F n Tryz.prog 113 #[.func (.yield l) #[] #[], .pointer (some ⟨Bs, 0, none⟩)] W fun e W' => (∃ v, e = .returned v) ∧ R W' := by
  refine callsIn_of_wp Tryz.func113 rfl h7 ?_ hro
  simp only [Tryz.ntmps113, List.size_toArray, List.length_cons, List.length_nil, Nat.reduceAdd, Nat.reduceSub, Array.replicate_succ, Array.replicate_zero, List.push_toArray, List.append_toArray, List.nil_append, List.cons_append]
  gi_wp2
  gi_loopw [3] (fun i wr => i = .int .i64 (-1) ∧ R wr) (fun _ _ => 0)
  case atStart => exact ⟨rfl, h0⟩
  case round =>
    obtain ⟨rfl, hJs⟩ := hrel
    gi_wp2
    go_end0
    exact ⟨⟨_, rfl⟩, hJs⟩

theorem backE_stops (F : Fence) (n : Nat) (h7 : F.fn 113) (hro : F.round = none) (hn : 1 ≤ n) (Bs n₀ : Nat) (a : Option Addr) (m c : Nat) (zs : List (Int × Int)) (hm : m = zs.length) (hreach : zs.length ≤ 4611686018427387904) (w : World) (hn₀ : n₀ ≤ w.heap.size)
    (hc : w.cell? ⟨Bs, 0, none⟩ = some (.slice a m c))
    (hI : ∀ j x, zs[j]? = some x → ∃ b o, a = some ⟨b, o, none⟩ ∧ b < n₀ ∧ w.cell? ⟨b, o + j * 2, none⟩ = some (.int .i64 x.1) ∧ w.cell? ⟨b, o + j * 2 + 1, none⟩ = some (.int .i64 x.2)) :
    SeqStopsK F n Tryz.prog 113 #[.pointer (some ⟨Bs, 0, none⟩)] (fun x : IXL zs => encE zs x) (Off (fun i => n₀ ≤ i ∧ i ≠ Bs)) (fun ys => ys = ixl zs zs.length) (fun _ => True) zs.length w := fun l J Jx W hW _ _ hY h0 => by
  subst hm
  have hc' := (hW.cell (p := ⟨Bs, 0, none⟩) (cell_lt hc)).trans hc
  by_cases e : zs = []
  · subst e
    exact (back1E_nil_in F n h7 hro l Bs a c (J []) W hc' h0).mono fun e W' ⟨he, hj⟩ => ⟨he, .inl ⟨_, rfl, hj⟩⟩
  · obtain ⟨x, hx⟩ : ∃ x, zs[0]? = some x := ⟨zs[0]'(List.length_pos_iff.2 e), by simp⟩
    obtain ⟨b, o, rfl, hb, _⟩ := hI 0 x hx
    refine (back1E_in F n h7 hro hn l Bs n₀ b o c zs hreach hb J Jx hY W hc' (fun j x hx => ?_) h0).mono ?_
    · obtain ⟨b', o', hbo, _, c0, c1⟩ := hI j x hx
      injection hbo with hbo
      injection hbo with hb1 hb2
      subst hb1; subst hb2
      have k : ∀ i, W.cell? ⟨b, i, none⟩ = w.cell? ⟨b, i, none⟩ := fun i => hW.cell (p := ⟨b, i, none⟩) (by show b < _; omega)
      exact ⟨(k _).trans c0, (k _).trans c1⟩
    · rintro e W' ⟨he, ⟨ys, hys, hj⟩ | ⟨pre, _, hj⟩⟩
      · exact ⟨he, .inl ⟨ys, hys, hj⟩⟩
      · exact ⟨he, .inr ⟨pre, trivial, hj⟩⟩

end Go.Proofs.YtfpepoebammeoaaGreat
