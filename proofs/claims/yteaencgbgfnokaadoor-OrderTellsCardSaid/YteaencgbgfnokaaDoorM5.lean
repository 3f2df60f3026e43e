/- slices.Values over texts: the iterator's contract. -/
import Derived.RangeFuncNested
import Derived.RangeFuncBound
import Derived.RangeFuncCalls
import Derived.RangeFuncLeaves
import Derived.Shelf.Abstract
import Derived.Shelf.RegionOpen
import Derived.WalkKit
import Derived.OwnWalkIn
import Derived.TacticsInMore
import Derived.LoopNIn
import Derived.LoopIn
import Derived.Test.YteaencgbgfnokaaDoorM2
set_option linter.unusedVariables false
namespace Go.Proofs.YteaencgbgfnokaaDoor
open Go.ChangeShapes Go.WideShapes Go.ChangeAt Go.RowKit Go.Shelf
attribute [local go_sem] Oper.semAt_some

theorem values_in (a : Option Addr) (len cap : Nat) (w : World) :
    Calls Tryd.prog 23 #[.slice a len cap] w fun e w' => e = .returned (.func (.func 43) #[] #[.pointer (some ⟨w.heap.size, 0, none⟩)]) ∧ w' = w.alloc (.cells #[.slice a len cap] 23) := by
  go_enter Tryd.func23, Tryd.ntmps23
  go_wp2_with fail
  go_ret
  exact ⟨rfl, rfl⟩

abbrev VX (zs : Lb) := { k : Nat // k < zs.length }
abbrev encV (zs : Lb) (x : VX zs) : Array Value := #[.string (zs[x.1]'x.2)]
def vxs (zs : Lb) (k : Nat) : List (VX zs) := (List.range k).filterMap fun j => if h : j < zs.length then some ⟨j, h⟩ else none
theorem vxs_succ (zs : Lb) (k : Nat) (h : k < zs.length) : vxs zs (k + 1) = vxs zs k ++ [⟨k, h⟩] := by
  unfold vxs
  rw [List.range_succ, List.filterMap_append]
  simp [h]
theorem vxs_len (zs : Lb) : ∀ k, k ≤ zs.length → (vxs zs k).length = k
  | 0, _ => rfl
  | k + 1, h => by rw [vxs_succ zs k (by omega), List.length_append, vxs_len zs k (by omega)]; rfl
theorem vxs_map (zs : Lb) : (vxs zs zs.length).map (fun x => zs[x.1]'x.2) = zs := by
  have h : ∀ k, k ≤ zs.length → (vxs zs k).map (fun x => zs[x.1]'x.2) = zs.take k := by
    intro k
    induction k with
    | zero => intro _; rfl
    | succ k ih =>
      intro hk
      rw [vxs_succ zs k (by omega), List.map_append, ih (by omega), List.take_add_one, List.getElem?_eq_getElem (by omega)]
      rfl
  rw [h _ (Nat.le_refl _), List.take_length]

set_option maxRecDepth 100000 in
set_option maxHeartbeats 4000000 in
theorem values1_in (F : Fence) (n : Nat) (h7 : F.fn 43) (hro : F.round = none) (hn : 1 ≤ n) (l Bs n₀ b off cap : Nat) (zs : Lb) (hreach : zs.length ≤ 4611686018427387904) (hb : b < n₀) (J Jx : List (VX zs) → World → Prop)
    (hY : ∀ pre x W, J pre W → pre.length < zs.length → YieldAt F (n - 1) Tryd.prog l (encV zs x) W fun e W' =>
      (e = .returned (.bool true) ∧ J (pre ++ [x]) W' ∧ Off (fun i => n₀ ≤ i ∧ i ≠ Bs) W W') ∨ (e = .returned (.bool false) ∧ Jx (pre ++ [x]) W'))
    (W : World) (hBs : W.cell? ⟨Bs, 0, none⟩ = some (.slice (some ⟨b, off, none⟩) zs.length cap))
    (hc : ∀ j x, zs[j]? = some x → W.cell? ⟨b, off + j, none⟩ = some (.string x)) (h0 : J [] W) :
    CallsIn F n Tryd.prog 43 #[.func (.yield l) #[] #[], .pointer (some ⟨Bs, 0, none⟩)] W fun e W' => (∃ v, e = .returned v) ∧
      ((∃ ys, ys = vxs zs zs.length ∧ J ys W') ∨ (∃ pre, True ∧ Jx pre W')) := by
  obtain ⟨len, hlen⟩ : ∃ len, len = zs.length := ⟨_, rfl⟩
  rw [← hlen] at hBs hreach hY ⊢
  have HLEN := Lib.hid hlen
  clear hlen
  refine callsIn_of_wp Tryd.func43 rfl h7 ?_ hro
  simp only [Tryd.ntmps43, List.size_toArray, List.length_cons, List.length_nil, Nat.reduceAdd, Nat.reduceSub, Array.replicate_succ, Array.replicate_zero, List.push_toArray, List.append_toArray, List.nil_append, List.cons_append]
  gi_wp2
  gi_loopw [7] (fun i wr => ∃ k : Nat, k ≤ len ∧ i = .int .i64 (k : Nat) ∧ Hid (J (vxs zs k) wr) ∧ Hid (Off (fun i => n₀ ≤ i ∧ i ≠ Bs) W wr)) (fun i _ => len - (intOf i).toNat)
  case atStart => exact ⟨0, Nat.zero_le _, rfl, Lib.hid h0, Lib.hid (Off.refl _ _)⟩
  case round =>
    obtain ⟨k, hk, rfl, HJS, HNX⟩ := hrel
    by_cases hkl : k < len
    · have hq : k < zs.length := by rw [← HLEN.out]; exact hkl
      obtain ⟨x, hx⟩ : ∃ x, x = zs[k]'hq := ⟨_, rfl⟩
      have c0 := hc k _ (List.getElem?_eq_getElem hq)
      rw [← hx] at c0
      have d0 := (HNX.out.cell (p := ⟨b, off + k, none⟩) (cell_lt c0) (fun h' => Nat.not_le.2 hb h'.1)).trans c0
      obtain ⟨fn, tmps, assign, body, hy, hR⟩ := hY _ ⟨k, hq⟩ wr HJS.out (by rw [vxs_len _ _ (by rw [← HLEN.out]; omega)]; omega)
      have hee : encV zs ⟨k, hq⟩ = #[.string x] := by rw [hx]
      rw [hee] at hy
      have HR := Lib.hid hR
      have HQ := Lib.hid hq
      clear hR c0 hx hee
      gi_wp2
      refine HR.out.mono ?_
      rintro e W3 (⟨rfl, hJ3, hk3⟩ | ⟨rfl, hJx3⟩)
      · have HJ3 := Lib.hid hJ3
        have HK3 := Lib.hid hk3
        clear hJ3 hk3
        gi_wp2
        go_roundw
        case rel => exact ⟨k + 1, by omega, by go_num, Lib.hid (by rw [vxs_succ zs k HQ.out]; exact HJ3.out), Lib.hid (HNX.out.trans HK3.out)⟩
        case measure => simp [intOf]; omega
      · have HJX := Lib.hid hJx3
        clear hJx3
        gi_wp2
        refine bodyPost_ret (results_none rfl _ _ _) rfl ?_
        exact ⟨⟨_, rfl⟩, .inr ⟨_, trivial, HJX.out⟩⟩
    · obtain rfl : k = len := by omega
      gi_wp2
      go_end0
      exact ⟨⟨_, rfl⟩, .inl ⟨_, by rw [HLEN.out], HJS.out⟩⟩

set_option maxRecDepth 100000 in
set_option maxHeartbeats 1000000 in
theorem values1_nil_in (F : Fence) (n : Nat) (h7 : F.fn 43) (hro : F.round = none) (l Bs : Nat) (a : Option Addr) (c : Nat) (R : World → Prop) (W : World) (hBs : W.cell? ⟨Bs, 0, none⟩ = some (.slice a 0 c)) (h0 : R W) :
    CallsIn F n Tryd.prog 43 #[.func (.yield l) #[] #[], .pointer (some ⟨Bs, 0, none⟩)] W fun e W' => (∃ v, e = .returned v) ∧ R W' := by
  refine callsIn_of_wp Tryd.func43 rfl h7 ?_ hro
  simp only [Tryd.ntmps43, List.size_toArray, List.length_cons, List.length_nil, Nat.reduceAdd, Nat.reduceSub, Array.replicate_succ, Array.replicate_zero, List.push_toArray, List.append_toArray, List.nil_append, List.cons_append]
  gi_wp2
  gi_loopw [7] (fun i wr => i = .int .i64 0 ∧ R wr) (fun _ _ => 0)
  case atStart => exact ⟨rfl, h0⟩
  case round =>
    obtain ⟨rfl, hJs⟩ := hrel
    gi_wp2
    go_end0
    exact ⟨⟨_, rfl⟩, hJs⟩

theorem values_stops (F : Fence) (n : Nat) (h7 : F.fn 43) (hro : F.round = none) (hn : 1 ≤ n) (Bs n₀ : Nat) (a : Option Addr) (m c : Nat) (zs : Lb) (hm : m = zs.length) (hreach : zs.length ≤ 4611686018427387904) (w : World) (hn₀ : n₀ ≤ w.heap.size)
    (hc : w.cell? ⟨Bs, 0, none⟩ = some (.slice a m c))
    (hI : ∀ j x, zs[j]? = some x → ∃ b o, a = some ⟨b, o, none⟩ ∧ b < n₀ ∧ w.cell? ⟨b, o + j, none⟩ = some (.string x)) :
    SeqStopsK F n Tryd.prog 43 #[.pointer (some ⟨Bs, 0, none⟩)] (fun x : VX zs => encV zs x) (Off (fun i => n₀ ≤ i ∧ i ≠ Bs)) (fun ys => ys = vxs zs zs.length) (fun _ => True) zs.length w := fun l J Jx W hW _ _ hY h0 => by
  subst hm
  have hc' := (hW.cell (p := ⟨Bs, 0, none⟩) (cell_lt hc)).trans hc
  by_cases e : zs = []
  · subst e
    exact (values1_nil_in F n h7 hro l Bs a c (J []) W hc' h0).mono fun e W' ⟨he, hj⟩ => ⟨he, .inl ⟨_, rfl, hj⟩⟩
  · obtain ⟨x, hx⟩ : ∃ x, zs[0]? = some x := ⟨zs[0]'(List.length_pos_iff.2 e), by simp⟩
    obtain ⟨b, o, rfl, hb, _⟩ := hI 0 x hx
    refine (values1_in F n h7 hro hn l Bs n₀ b o c zs hreach hb J Jx hY W hc' (fun j x hx => ?_) h0).mono ?_
    · obtain ⟨b', o', hbo, _, c0⟩ := hI j x hx
      injection hbo with hbo
      injection hbo with hb1 hb2
      subst hb1; subst hb2
      exact (hW.cell (p := ⟨b, o + j, none⟩) (by show b < _; omega)).trans c0
    · rintro e W' ⟨he, ⟨ys, hys, hj⟩ | ⟨pre, _, hj⟩⟩
      · exact ⟨he, .inl ⟨ys, hys, hj⟩⟩
      · exact ⟨he, .inr ⟨pre, trivial, hj⟩⟩
end Go.Proofs.YteaencgbgfnokaaDoor
