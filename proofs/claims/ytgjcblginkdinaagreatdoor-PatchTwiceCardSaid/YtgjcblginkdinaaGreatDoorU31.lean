/- slices.Backward over ops: the iterator's contract; the inverse's ops as a fold. -/
import Derived.RangeFuncNested
import Derived.RangeFuncBound
import Derived.RangeFuncCalls
import Derived.RangeFuncLeaves
import Derived.Shelf.Abstract
import Derived.Shelf.RegionOpen
import Derived.WalkKit
import Derived.OwnWalkIn
import Derived.TacticsInMore
import Derived.LoopNIn
import Derived.LoopIn
import Derived.Test.YtgjcblginkdinaaGreatDoorU30
set_option linter.unusedVariables false
namespace Go.Proofs.YtgjcblginkdinaaGreatDoor
open Go.ChangeShapes Go.WideShapes Go.ChangeAt Go.RowKit Go.Shelf
attribute [local go_sem] Oper.semAt_some

structure OpI (w : World) (z : Opp) (lv : Option Addr × Nat) : Prop where
  lines : Reads w (.slice lv.1 z.lines.length lv.2) z.lines

theorem oreads_list {w : World} {a : Option Addr} {n c : Nat} {zs : List Opp} (h : OReads w (.slice a n c) zs) : n = zs.length ∧ ∃ lvs : List (Option Addr × Nat), lvs.length = zs.length ∧
    ∀ (j : Nat) z lv, zs[j]? = some z → lvs[j]? = some lv → ∃ b o, a = some ⟨b, o, none⟩ ∧ b < w.heap.size ∧ Reads w (.slice lv.1 z.lines.length lv.2) z.lines ∧ z.lines.length ≤ 9223372036854775807 ∧
      w.cell? ⟨b, o + j * 6, none⟩ = some (.int .i64 z.kind) ∧ w.cell? ⟨b, o + j * 6 + 1, none⟩ = some (.int .i64 z.a.at_) ∧ w.cell? ⟨b, o + j * 6 + 2, none⟩ = some (.int .i64 z.a.n) ∧
      w.cell? ⟨b, o + j * 6 + 3, none⟩ = some (.int .i64 z.b.at_) ∧ w.cell? ⟨b, o + j * 6 + 4, none⟩ = some (.int .i64 z.b.n) ∧ w.cell? ⟨b, o + j * 6 + 5, none⟩ = some (.slice lv.1 z.lines.length lv.2) := by
  rcases h with ⟨rfl, a', c', e⟩ | ⟨hn, b, o, c', e, hc, hm, hx⟩
  · simp only [Value.slice.injEq] at e
    exact ⟨e.2.1, [], rfl, fun j z lv h => by simp at h⟩
  · simp only [Value.slice.injEq] at e
    obtain ⟨rfl, rfl, rfl⟩ := e
    refine ⟨rfl, ?_⟩
    obtain ⟨lvs, hl, hq⟩ := list_of (fun j (lv : Option Addr × Nat) => ∀ z, zs[j]? = some z → Reads w (.slice lv.1 z.lines.length lv.2) z.lines ∧ z.lines.length ≤ 9223372036854775807 ∧
      w.cell? ⟨b, o + j * 6, none⟩ = some (.int .i64 z.kind) ∧ w.cell? ⟨b, o + j * 6 + 1, none⟩ = some (.int .i64 z.a.at_) ∧ w.cell? ⟨b, o + j * 6 + 2, none⟩ = some (.int .i64 z.a.n) ∧
      w.cell? ⟨b, o + j * 6 + 3, none⟩ = some (.int .i64 z.b.at_) ∧ w.cell? ⟨b, o + j * 6 + 4, none⟩ = some (.int .i64 z.b.n) ∧ w.cell? ⟨b, o + j * 6 + 5, none⟩ = some (.slice lv.1 z.lines.length lv.2)) zs.length (fun j hj => by
        obtain ⟨lv, d0, d1, d2, d3, d4, d5, d6⟩ := hx.2 j zs[j] (List.getElem?_eq_getElem hj)
        obtain ⟨la, lc, hlv, hln⟩ := d6.form
        subst hlv
        refine ⟨(la, lc), fun z hz => ?_⟩
        rw [List.getElem?_eq_getElem hj] at hz
        injection hz with hz
        subst hz
        exact ⟨d6, hln, d0, d1, d2, d3, d4, d5⟩)
    exact ⟨lvs, hl, fun j z lv hz hlv => ⟨b, o, rfl, hx.1, hq j lv hlv z hz⟩⟩

theorem backward_in (a : Option Addr) (len cap : Nat) (w : World) :
    Calls Tryz.prog 93 #[.slice a len cap] w fun e w' => e = .returned (.func (.func 124) #[] #[.pointer (some ⟨w.heap.size, 0, none⟩)]) ∧ w' = w.alloc (.cells #[.slice a len cap] 23) := by
  go_enter Tryz.func93, Tryz.ntmps93
  go_wp2_with fail
  go_ret
  exact ⟨rfl, rfl⟩

abbrev OV := Opp × (Option Addr × Nat)
abbrev ovV (x : OV) : Value := opV x.1 (.slice x.2.1 x.1.lines.length x.2.2)
abbrev IX (zs : List OV) := { k : Nat // k < zs.length }
abbrev encI (zs : List OV) (x : IX zs) : Array Value := #[.int .i64 (x.1 : Nat), ovV (zs[x.1]'x.2)]

def ixs (zs : List OV) (k : Nat) : List (IX zs) := (List.range k).filterMap fun j => if h : zs.length - 1 - j < zs.length then some ⟨zs.length - 1 - j, h⟩ else none
theorem ixs_succ (zs : List OV) (k : Nat) (h : zs.length - 1 - k < zs.length) : ixs zs (k + 1) = ixs zs k ++ [⟨zs.length - 1 - k, h⟩] := by
  unfold ixs
  rw [List.range_succ, List.filterMap_append]
  simp [h]
theorem ixs_len (zs : List OV) : ∀ k, k ≤ zs.length → (ixs zs k).length = k
  | 0, _ => rfl
  | k + 1, h => by rw [ixs_succ zs k (by omega), List.length_append, ixs_len zs k (by omega)]; rfl

set_option maxRecDepth 100000 in
set_option maxHeartbeats 4000000 in
theorem back1_in (F : Fence) (n : Nat) (h7 : F.fn 124) (hro : F.round = none) (hn : 1 ≤ n) (l Bs n₀ b off cap : Nat) (zs : List OV) (hreach : zs.length ≤ 4611686018427387904) (hb : b < n₀) (J Jx : List (IX zs) → World → Prop)
    (hY : ∀ pre x W, J pre W → pre.length < zs.length → YieldAt F (n - 1) Tryz.prog l (encI zs x) W fun e W' =>
      (e = .returned (.bool true) ∧ J (pre ++ [x]) W' ∧ Off (fun i => n₀ ≤ i ∧ i ≠ Bs) W W') ∨ (e = .returned (.bool false) ∧ Jx (pre ++ [x]) W'))
    (W : World) (hBs : W.cell? ⟨Bs, 0, none⟩ = some (.slice (some ⟨b, off, none⟩) zs.length cap))
    (hc : ∀ j x, zs[j]? = some x → W.cell? ⟨b, off + j * 6, none⟩ = some (.int .i64 x.1.kind) ∧ W.cell? ⟨b, off + j * 6 + 1, none⟩ = some (.int .i64 x.1.a.at_) ∧ W.cell? ⟨b, off + j * 6 + 2, none⟩ = some (.int .i64 x.1.a.n) ∧
      W.cell? ⟨b, off + j * 6 + 3, none⟩ = some (.int .i64 x.1.b.at_) ∧ W.cell? ⟨b, off + j * 6 + 4, none⟩ = some (.int .i64 x.1.b.n) ∧ W.cell? ⟨b, off + j * 6 + 5, none⟩ = some (.slice x.2.1 x.1.lines.length x.2.2)) (h0 : J [] W) :
    CallsIn F n Tryz.prog 124 #[.func (.yield l) #[] #[], .pointer (some ⟨Bs, 0, none⟩)] W fun e W' => (∃ v, e = .returned v) ∧
      ((∃ ys, ys = ixs zs zs.length ∧ J ys W') ∨ (∃ pre, True ∧ Jx pre W')) := by
  obtain ⟨len, hlen⟩ : ∃ len, len = zs.length := ⟨_, rfl⟩
  rw [← hlen] at hBs hreach hY ⊢
  have HLEN := Lib.hid hlen
  clear hlen
  refine callsIn_of_wp Tryz.func124 rfl h7 ?_ hro
  simp only [Tryz.ntmps124, List.size_toArray, List.length_cons, List.length_nil, Nat.reduceAdd, Nat.reduceSub, Array.replicate_succ, Array.replicate_zero, List.push_toArray, List.append_toArray, List.nil_append, List.cons_append]
  gi_wp2
  gi_loopw [3] (fun i wr => ∃ k r : Nat, k + r = len ∧ i = .int .i64 ((r : Int) - 1) ∧ Hid (J (ixs zs k) wr) ∧ Hid (Off (fun i => n₀ ≤ i ∧ i ≠ Bs) W wr)) (fun i _ => (intOf i + 1).toNat)
  case atStart => exact ⟨0, len, by omega, by go_num, Lib.hid h0, Lib.hid (Off.refl _ _)⟩
  case round =>
    obtain ⟨k, r, hk, rfl, HJS, HNX⟩ := hrel
    have hBx : wr.cell? ⟨Bs, 0, none⟩ = some (.slice (some ⟨b, off, none⟩) len cap) := (HNX.out.cell (p := ⟨Bs, 0, none⟩) (cell_lt hBs) (fun h => h.2 rfl)).trans hBs
    cases r with
    | zero =>
      obtain rfl : k = len := by omega
      gi_wp2
      go_end0
      exact ⟨⟨_, rfl⟩, .inl ⟨_, by rw [HLEN.out], HJS.out⟩⟩
    | succ q =>
      have hq : q < zs.length := by rw [← HLEN.out]; omega
      have hidx : zs.length - 1 - k = q := by rw [← HLEN.out]; omega
      have e1 : ((q + 1 : Nat) : Int) - 1 = (q : Nat) := by omega
      rw [e1]
      have hzq : zs[q]? = some (zs[q]'hq) := List.getElem?_eq_getElem hq
      obtain ⟨x, hx⟩ : ∃ x, x = zs[q]'hq := ⟨_, rfl⟩
      obtain ⟨c0, c1, c2, c3, c4, c5⟩ := hc q _ hzq
      rw [← hx] at c0 c1 c2 c3 c4 c5
      have hcx : ∀ j v, W.cell? ⟨b, j, none⟩ = some v → wr.cell? ⟨b, j, none⟩ = some v := fun j v h => (HNX.out.cell (p := ⟨b, j, none⟩) (cell_lt h) (fun h' => Nat.not_le.2 hb h'.1)).trans h
      have d0 := hcx _ _ c0
      have d1 := hcx _ _ c1
      have d2 := hcx _ _ c2
      have d3 := hcx _ _ c3
      have d4 := hcx _ _ c4
      have d5 := hcx _ _ c5
      obtain ⟨fn, tmps, assign, body, hy, hR⟩ := hY _ ⟨q, hq⟩ wr HJS.out (by rw [ixs_len _ _ (by rw [← HLEN.out]; omega)]; omega)
      have hee : encI zs ⟨q, hq⟩ = #[.int .i64 (q : Nat), .agg #[.int .i64 x.1.kind, .int .i64 x.1.a.at_, .int .i64 x.1.a.n, .int .i64 x.1.b.at_, .int .i64 x.1.b.n, .slice x.2.1 x.1.lines.length x.2.2]] := by rw [hx]
      rw [hee] at hy
      have HR := Lib.hid hR
      have HQ := Lib.hid hq
      clear hR hzq hcx c0 c1 c2 c3 c4 c5 hx hee e1
      have hql : q < len := by omega
      gi_wp2
      refine HR.out.mono ?_
      rintro e W3 (⟨rfl, hJ3, hk3⟩ | ⟨rfl, hJx3⟩)
      · have HJ3 := Lib.hid hJ3
        have HK3 := Lib.hid hk3
        clear hJ3 hk3
        gi_wp2
        go_roundw
        case rel => exact ⟨k + 1, q, by omega, rfl, Lib.hid (by rw [ixs_succ zs k (by rw [hidx]; exact HQ.out)]; have h := HJ3.out; have e : (⟨q, HQ.out⟩ : IX zs) = ⟨zs.length - 1 - k, by rw [hidx]; exact HQ.out⟩ := Subtype.ext hidx.symm; rw [← e]; exact h), Lib.hid (HNX.out.trans HK3.out)⟩
        case measure => simp [intOf]
      · have HJX := Lib.hid hJx3
        clear hJx3
        gi_wp2
        refine bodyPost_ret (results_none rfl _ _ _) rfl ?_
        exact ⟨⟨_, rfl⟩, .inr ⟨_, trivial, HJX.out⟩⟩

set_option maxRecDepth 100000 in
set_option maxHeartbeats 1000000 in
theorem back1_nil_in (F : Fence) (n : Nat) (h7 : F.fn 124) (hro : F.round = none) (l Bs : Nat) (a : Option Addr) (c : Nat) (R : World → Prop) (W : World) (hBs : W.cell? ⟨Bs, 0, none⟩ = some (.slice a 0 c)) (h0 : R W) :
    CallsIn F n Tryz.prog 124 #[.func (.yield l) #[] #[], .pointer (some ⟨Bs, 0, none⟩)] W fun e W' => (∃ v, e = .returned v) ∧ R W' := by
  refine callsIn_of_wp Tryz.func124 rfl h7 ?_ hro
  simp only [Tryz.ntmps124, List.size_toArray, List.length_cons, List.length_nil, Nat.reduceAdd, Nat.reduceSub, Array.replicate_succ, Array.replicate_zero, List.push_toArray, List.append_toArray, List.nil_append, List.cons_append]
  gi_wp2
  gi_loopw [3] (fun i wr => i = .int .i64 (-1) ∧ R wr) (fun _ _ => 0)
  case atStart => exact ⟨rfl, h0⟩
  case round =>
    obtain ⟨rfl, hJs⟩ := hrel
    gi_wp2
    go_end0
    exact ⟨⟨_, rfl⟩, hJs⟩

theorem back_stops (F : Fence) (n : Nat) (h7 : F.fn 124) (hro : F.round = none) (hn : 1 ≤ n) (Bs n₀ : Nat) (a : Option Addr) (m c : Nat) (zs : List OV) (hm : m = zs.length) (hreach : zs.length ≤ 4611686018427387904) (w : World) (hn₀ : n₀ ≤ w.heap.size)
    (hc : w.cell? ⟨Bs, 0, none⟩ = some (.slice a m c))
    (hI : ∀ j x, zs[j]? = some x → ∃ b o, a = some ⟨b, o, none⟩ ∧ b < n₀ ∧ w.cell? ⟨b, o + j * 6, none⟩ = some (.int .i64 x.1.kind) ∧ w.cell? ⟨b, o + j * 6 + 1, none⟩ = some (.int .i64 x.1.a.at_) ∧ w.cell? ⟨b, o + j * 6 + 2, none⟩ = some (.int .i64 x.1.a.n) ∧
      w.cell? ⟨b, o + j * 6 + 3, none⟩ = some (.int .i64 x.1.b.at_) ∧ w.cell? ⟨b, o + j * 6 + 4, none⟩ = some (.int .i64 x.1.b.n) ∧ w.cell? ⟨b, o + j * 6 + 5, none⟩ = some (.slice x.2.1 x.1.lines.length x.2.2)) :
    SeqStopsK F n Tryz.prog 124 #[.pointer (some ⟨Bs, 0, none⟩)] (fun x : IX zs => encI zs x) (Off (fun i => n₀ ≤ i ∧ i ≠ Bs)) (fun ys => ys = ixs zs zs.length) (fun _ => True) zs.length w := fun l J Jx W hW _ _ hY h0 => by
  subst hm
  have hc' := (hW.cell (p := ⟨Bs, 0, none⟩) (cell_lt hc)).trans hc
  by_cases e : zs = []
  · subst e
    exact (back1_nil_in F n h7 hro l Bs a c (J []) W hc' h0).mono fun e W' ⟨he, hj⟩ => ⟨he, .inl ⟨_, rfl, hj⟩⟩
  · obtain ⟨x, hx⟩ : ∃ x, zs[0]? = some x := ⟨zs[0]'(List.length_pos_iff.2 e), by simp⟩
    obtain ⟨b, o, rfl, hb, _⟩ := hI 0 x hx
    refine (back1_in F n h7 hro hn l Bs n₀ b o c zs hreach hb J Jx hY W hc' (fun j x hx => ?_) h0).mono ?_
    · obtain ⟨b', o', hbo, _, c0, c1, c2, c3, c4, c5⟩ := hI j x hx
      injection hbo with hbo
      injection hbo with hb1 hb2
      subst hb1; subst hb2
      have k : ∀ i, W.cell? ⟨b, i, none⟩ = w.cell? ⟨b, i, none⟩ := fun i => hW.cell (p := ⟨b, i, none⟩) (by show b < _; omega)
      exact ⟨(k _).trans c0, (k _).trans c1, (k _).trans c2, (k _).trans c3, (k _).trans c4, (k _).trans c5⟩
    · rintro e W' ⟨he, ⟨ys, hys, hj⟩ | ⟨pre, _, hj⟩⟩
      · exact ⟨he, .inl ⟨ys, hys, hj⟩⟩
      · exact ⟨he, .inr ⟨pre, trivial, hj⟩⟩

def stepI (deps needs : Lb) (nm : ByteArray) (st : List Opp × Int) (z : Opp) : List Opp × Int :=
  if z.kind = 1 then (st.1 ++ (List.range z.lines.length).map (fun j => delI needs nm (st.2 - 1 - (j : Nat))), st.2 - z.lines.length) else (st.1 ++ [opI deps needs nm z], st.2)
theorem foldI (deps needs : Lb) (nm : ByteArray) : ∀ (l : List Opp) (m : Nat), l.reverse.foldl (stepI deps needs nm) ([], ((m + madeN l : Nat) : Int)) = (invI deps needs nm m l, (m : Int))
  | [], m => by simp [invI, madeN]
  | o :: r, m => by
    have ih := foldI deps needs nm r (m + (if o.kind = 1 then o.lines.length else 0))
    have e : m + madeN (o :: r) = (m + (if o.kind = 1 then o.lines.length else 0)) + madeN r := by simp only [madeN]; omega
    rw [List.reverse_cons, List.foldl_append, e, ih]
    by_cases h : o.kind = 1
    · simp only [List.foldl_cons, List.foldl_nil, stepI, invI, oneI, if_pos h]
      refine Prod.ext rfl ?_
      simp only [Int.natCast_add]
      omega
    · simp only [List.foldl_cons, List.foldl_nil, stepI, invI, oneI, if_neg h, Nat.add_zero]
theorem st_bounds0 (deps needs : Lb) (nm : ByteArray) : ∀ (l : List Opp) (st : List Opp × Int), (∀ z ∈ l, z.lines.length ≤ 300) → ((l.foldl (stepI deps needs nm) st).1.length ≤ st.1.length + 301 * l.length ∧ st.2 - 300 * l.length ≤ (l.foldl (stepI deps needs nm) st).2 ∧ (l.foldl (stepI deps needs nm) st).2 ≤ st.2)
  | [], st, _ => by simp
  | z :: r, st, h => by
    have ih := st_bounds0 deps needs nm r (stepI deps needs nm st z) (fun y hy => h y (by simp [hy]))
    have hz := h z (by simp)
    rw [List.foldl_cons, List.length_cons]
    by_cases k : z.kind = 1
    · simp only [stepI, if_pos k, List.length_append, List.length_map, List.length_range] at ih ⊢
      omega
    · simp only [stepI, if_neg k, List.length_append, List.length_singleton] at ih ⊢
      omega
theorem st_bounds (deps needs : Lb) (nm : ByteArray) (M : Int) (l : List Opp) (h : ∀ z ∈ l, z.lines.length ≤ 300) : (l.foldl (stepI deps needs nm) ([], M)).1.length ≤ 301 * l.length ∧ M - 300 * l.length ≤ (l.foldl (stepI deps needs nm) ([], M)).2 ∧ (l.foldl (stepI deps needs nm) ([], M)).2 ≤ M := by
  have := st_bounds0 deps needs nm l ([], M) h
  simpa using this
theorem ixs_map (zs : List OV) : (ixs zs zs.length).map (fun x => (zs[x.1]'x.2).1) = (zs.map (·.1)).reverse := by
  have h : ∀ k, k ≤ zs.length → (ixs zs k).map (fun x => (zs[x.1]'x.2).1) = ((zs.map (·.1)).reverse).take k := by
    intro k
    induction k with
    | zero => intro _; rfl
    | succ k ih =>
      intro hk
      rw [ixs_succ zs k (by omega), List.map_append, ih (by omega)]
      have e : ((zs.map (·.1)).reverse)[k]? = some (zs[zs.length - 1 - k]'(by omega)).1 := by
        rw [List.getElem?_reverse (by simp; omega), List.getElem?_map, List.length_map, List.getElem?_eq_getElem (by omega)]
        rfl
      rw [take_snoc e]
      rfl
  rw [h _ (Nat.le_refl _), List.take_of_length_le (by simp)]
end Go.Proofs.YtgjcblginkdinaaGreatDoor
