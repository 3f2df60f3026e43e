/- What the program's reader takes of forms; the contracts of its small functions. The contracts of the reader's parts, ref and texts. -/
import Derived.Test.YtgjcblginkdinaaGreatDoorU19
import Derived.Test.YtgjcblginkdinaaGreatDoorU26
import Derived.Test.YtgjcblginkdinaaGreatDoorU5
set_option linter.unusedVariables false
namespace Go.Proofs.YtgjcblginkdinaaGreatDoor
open Go.ChangeShapes Go.WideShapes Go.ChangeAt Go.RowKit
open Go.Lib (itoa)

def Tm.l : Tm → Bool | .mk l _ _ => l
def Tm.t : Tm → ByteArray | .mk _ t _ => t
def Tm.xs : Tm → List Tm | .mk _ _ xs => xs
theorem Tm.eta (T : Tm) : T = .mk T.l T.t T.xs := by cases T; rfl
def zT : Tm := .mk false noText []
noncomputable def rdNum (T : Tm) : Int × Bool :=
  @dite _ (T.l = false ∧ ∃ n, isNum T.t (-9223372036854775808) 9223372036854775807 n) (Classical.propDecidable _) (fun h => (Classical.choose h.2, false)) (fun _ => (0, true))
def rdParts (T : Tm) (k : Nat) : List Tm × Bool := if T.xs.length = k then (T.xs, !T.l) else (List.replicate k zT, true)
def nth (l : List Tm) (j : Nat) : Tm := l.getD j zT
noncomputable def rdRef (T : Tm) : Rf × Bool :=
  (⟨(rdNum (nth (rdParts T 2).1 0)).1, (rdNum (nth (rdParts T 2).1 1)).1⟩, (rdParts T 2).2 || (rdNum (nth (rdParts T 2).1 0)).2 || (rdNum (nth (rdParts T 2).1 1)).2)
def rdTexts (T : Tm) : Lb × Bool := (T.xs.map Tm.t, !T.l || T.xs.any Tm.l)
noncomputable def rdOp (T : Tm) : Opp × Bool :=
  (⟨(rdNum (nth (rdParts T 4).1 0)).1, (rdRef (nth (rdParts T 4).1 1)).1, (rdRef (nth (rdParts T 4).1 2)).1, (rdTexts (nth (rdParts T 4).1 3)).1⟩,
    (rdParts T 4).2 || (rdNum (nth (rdParts T 4).1 0)).2 || (rdRef (nth (rdParts T 4).1 1)).2 || (rdRef (nth (rdParts T 4).1 2)).2 || (rdTexts (nth (rdParts T 4).1 3)).2)
noncomputable def rdOps (T : Tm) : List Opp × Bool := (T.xs.map fun x => (rdOp x).1, !T.l || T.xs.any fun x => (rdOp x).2)
noncomputable def rdPt (T : Tm) : Pt × Bool :=
  (⟨(nth (rdParts T 4).1 1).t, (rdTexts (nth (rdParts T 4).1 2)).1, (rdOps (nth (rdParts T 4).1 3)).1⟩,
    (rdParts T 4).2 || (nth (rdParts T 4).1 0).l || !decide ((nth (rdParts T 4).1 0).t = headB) || (nth (rdParts T 4).1 1).l || (rdTexts (nth (rdParts T 4).1 2)).2 || (rdOps (nth (rdParts T 4).1 3)).2)

structure RdI (R : Nat) (b : Bool) (w : World) : Prop where
  cell : w.cell? ⟨R, 0, none⟩ = some (.bool b)
  free : w.frozen? ⟨R, 0, none⟩ = false
theorem RdI.lt {R : Nat} {b : Bool} {w : World} (h : RdI R b w) : R < w.heap.size := cell_lt h.cell
theorem RdI.below {R : Nat} {b : Bool} {w w' : World} (h : RdI R b w) (hb : Below w.heap.size w w') : RdI R b w' :=
  ⟨(hb.cell (p := ⟨R, 0, none⟩) h.lt).trans h.cell, (hb.frozen (p := ⟨R, 0, none⟩) h.lt).trans h.free⟩
theorem RdI.set {R : Nat} {b : Bool} {w : World} (h : RdI R b w) (u : Bool) : RdI R u (w.setCell ⟨R, 0, none⟩ (.bool u)) :=
  ⟨World.cell?_setCell_same _ _ _ h.cell, by rw [World.frozen?_setCell]; exact h.free⟩
def RdO (R : Nat) (b bad : Bool) (w w' : World) : Prop := RdI R (b || bad) w' ∧ Off (· = R) w w'
theorem RdO.of_below {R : Nat} {b : Bool} {w w' : World} (h : RdI R b w) (hb : Below w.heap.size w w') : RdO R b false w w' := ⟨by rw [Bool.or_false]; exact h.below hb, Off.of_below hb⟩
theorem RdO.bad {R : Nat} {b : Bool} {w w' : World} (h : RdI R b w) (hb : Below w.heap.size w w') : RdO R b true w (w'.setCell ⟨R, 0, none⟩ (.bool true)) :=
  ⟨by rw [Bool.or_true]; exact (h.below hb).set true, Off.setCell (Z := fun i => i = R) (Off.of_below hb) (p := ⟨R, 0, none⟩) (.inr rfl) _⟩
theorem RdO.bad_al {R : Nat} {b : Bool} {w : World} (h : RdI R b w) (o : Obj) : RdO R b true w ((w.setCell ⟨R, 0, none⟩ (.bool true)).alloc o) :=
  ⟨by rw [Bool.or_true]; exact (h.set true).below ((Below.refl _ _).alloc (Nat.le_refl _) _), (Off.setCell (Z := fun i => i = R) (Off.refl _ _) (p := ⟨R, 0, none⟩) (.inr rfl) _).alloc _⟩
theorem RdO.trans {R : Nat} {b x y : Bool} {u v w : World} (h : RdO R b x u v) (k : RdO R (b || x) y v w) : RdO R b (x || y) u w := ⟨by rw [← Bool.or_assoc]; exact k.1, h.2.trans k.2⟩

set_option maxHeartbeats 1000000 in
theorem plist_any (R : Nat) (b l : Bool) (t : ByteArray) (sv : Value) (a : Option Addr) (n c : Nat) (w : World) (hsv : sv = .slice a n c) (hr : RdI R b w) :
    Calls Tryz.prog 119 #[.pointer (some ⟨R, 0, none⟩), fv l t sv] w fun e w' => e = .returned sv ∧ RdO R b (!l) w w' := by
  subst hsv
  have hb1 : ∀ o, Below w.heap.size w (w.alloc o) := fun o => (Below.refl _ _).alloc (Nat.le_refl _) _
  have hr1 : ∀ o, RdI R b (w.alloc o) := fun o => hr.below (hb1 o)
  have hlt := hr.lt
  have HB1 := Lib.hid hb1
  have HR := Lib.hid hr
  have k1 := (hr1 (.cells #[.bool l, .string t, .slice a n c] 61)).cell
  have k2 := (hr1 (.cells #[.bool l, .string t, .slice a n c] 61)).free
  clear hb1 hr hr1
  cases l with
  | true =>
    go_enter Tryz.func119, Tryz.ntmps119
    go_wp2_with fail
    go_ret
    exact ⟨rfl, RdO.of_below HR.out (HB1.out _)⟩
  | false =>
    go_enter Tryz.func119, Tryz.ntmps119
    go_wp2_with fail
    go_ret
    exact ⟨rfl, RdO.bad_al HR.out _⟩

set_option maxHeartbeats 1000000 in
theorem ptext_any (R : Nat) (b l : Bool) (t : ByteArray) (sv : Value) (a : Option Addr) (n c : Nat) (w : World) (hsv : sv = .slice a n c) (hr : RdI R b w) :
    Calls Tryz.prog 82 #[.pointer (some ⟨R, 0, none⟩), fv l t sv] w fun e w' => e = .returned (.string t) ∧ RdO R b l w w' := by
  subst hsv
  have hb1 : ∀ o, Below w.heap.size w (w.alloc o) := fun o => (Below.refl _ _).alloc (Nat.le_refl _) _
  have hr1 : ∀ o, RdI R b (w.alloc o) := fun o => hr.below (hb1 o)
  have hlt := hr.lt
  have HB1 := Lib.hid hb1
  have HR := Lib.hid hr
  have k1 := (hr1 (.cells #[.bool l, .string t, .slice a n c] 61)).cell
  have k2 := (hr1 (.cells #[.bool l, .string t, .slice a n c] 61)).free
  clear hb1 hr hr1
  cases l with
  | true =>
    go_enter Tryz.func82, Tryz.ntmps82
    go_wp2_with fail
    go_ret
    exact ⟨rfl, RdO.bad_al HR.out _⟩
  | false =>
    go_enter Tryz.func82, Tryz.ntmps82
    go_wp2_with fail
    go_ret
    exact ⟨rfl, RdO.of_below HR.out (HB1.out _)⟩

theorem rdNum_yes {T : Tm} {n : Int} (hl : T.l = false) (h : isNum T.t (-9223372036854775808) 9223372036854775807 n) : rdNum T = (n, false) := by
  have hx : T.l = false ∧ ∃ n, isNum T.t (-9223372036854775808) 9223372036854775807 n := ⟨hl, n, h⟩
  unfold rdNum
  rw [dif_pos hx]
  have hc := Classical.choose_spec hx.2
  have e : tx (itoa (Classical.choose hx.2)) = tx (itoa n) := by rw [← hc.2.2.1, ← h.2.2.1]
  rw [itoa_inj hc.1 hc.2.1 h.1 h.2.1 (tx_inj e)]
theorem rdNum_no {T : Tm} (h : ¬ (T.l = false ∧ ∃ n, isNum T.t (-9223372036854775808) 9223372036854775807 n)) : rdNum T = (0, true) := by
  unfold rdNum
  rw [dif_neg h]
theorem atoi_none : ∀ v, Lib.atoiAll ([] : List UInt8) ≠ .ok v := fun v h => by cases h

theorem number_of (T : Tm) (hok : T.ok = true) (hs : T.t.size ≤ 140737488355328) (a : Option Addr) (c : Nat) (w : World) (hv : HasSents w) (ht : HasTab w) :
    Calls Tryz.prog 136 #[fv T.l T.t (.slice a T.xs.length c), .int .i64 (-9223372036854775808), .int .i64 9223372036854775807] w fun e w' => e = .returned (.tuple #[.int .i64 (rdNum T).1, if (rdNum T).2 then .iface 47 (.int .i64 5) else .nilIface]) ∧ Below w.heap.size w w' := by
  obtain ⟨l, t, xs⟩ := T
  simp only [Tm.l, Tm.t, Tm.xs] at hs ⊢
  cases l with
  | true =>
    rw [Tm.ok_list] at hok
    simp only [Bool.and_eq_true, decide_eq_true_eq] at hok
    have ht0 : t = ⟨#[]⟩ := size0 hok.1
    have hbad : ∀ v, Lib.atoiAll t.data.toList ≠ .ok v := by rw [ht0]; exact atoi_none
    rw [rdNum_no (by simp [Tm.l])]
    exact number_bad true t _ _ _ w hs hv hbad
  | false =>
    rw [Tm.ok_text] at hok
    have hx0 : xs.length = 0 := of_decide_eq_true hok
    rw [hx0]
    refine (number_gen a c t (-9223372036854775808) 9223372036854775807 w hs hv ht (by omega) (by omega) (by omega) (by omega)).mono ?_
    rintro e w' ⟨n, x, rfl, hb, ⟨hn, rfl⟩ | ⟨rfl, rfl, hn⟩⟩
    · rw [rdNum_yes (T := .mk false t xs) rfl hn]
      exact ⟨rfl, hb⟩
    · rw [rdNum_no (fun h => by obtain ⟨_, n, h⟩ := h; exact hn n h)]
      exact ⟨rfl, hb⟩

set_option maxHeartbeats 2000000 in
theorem pnumber_any (R : Nat) (b : Bool) (T : Tm) (hok : T.ok = true) (hs : T.t.size ≤ 140737488355328) (a : Option Addr) (c : Nat) (w : World) (hr : RdI R b w) (hv : HasSents w) (ht : HasTab w) :
    Calls Tryz.prog 120 #[.pointer (some ⟨R, 0, none⟩), fv T.l T.t (.slice a T.xs.length c)] w fun e w' => e = .returned (.int .i64 (rdNum T).1) ∧ RdO R b (rdNum T).2 w w' := by
  have hb1 : ∀ o, Below w.heap.size w (w.alloc o) := fun o => (Below.refl _ _).alloc (Nat.le_refl _) _
  have hc : ∀ wz, Below w.heap.size w wz → Calls Tryz.prog 136 #[fv T.l T.t (.slice a T.xs.length c), .int .i64 (-9223372036854775808), .int .i64 9223372036854775807] wz fun e w' => e = .returned (.tuple #[.int .i64 (rdNum T).1, if (rdNum T).2 then .iface 47 (.int .i64 5) else .nilIface]) ∧ Below wz.heap.size wz w' := fun wz hz =>
    number_of T hok hs a c wz (hv.below hz) (ht.below hz)
  obtain ⟨l, hl⟩ : ∃ l, l = T.l := ⟨_, rfl⟩
  obtain ⟨t, ht'⟩ : ∃ t, t = T.t := ⟨_, rfl⟩
  obtain ⟨n, hn⟩ : ∃ n, n = T.xs.length := ⟨_, rfl⟩
  obtain ⟨x, hx⟩ : ∃ x, x = (rdNum T).1 := ⟨_, rfl⟩
  obtain ⟨y, hy⟩ : ∃ y, y = (rdNum T).2 := ⟨_, rfl⟩
  rw [← hl, ← ht', ← hn, ← hx, ← hy] at hc
  rw [← hl, ← ht', ← hn, ← hx, ← hy]
  have HC := Lib.hid hc
  have HB1 := Lib.hid hb1
  have HR := Lib.hid hr
  clear hc hb1 hl ht' hn hx hy hok hs hv ht hr
  cases y with
  | true =>
    go_enter Tryz.func120, Tryz.ntmps120
    go_wp2_with fail
    refine (HC.out _ (HB1.out _)).mono ?_
    rintro e w1 ⟨rfl, hb⟩
    have hbw := (HB1.out _).trans (hb.mono (HB1.out _).size)
    have hri := HR.out.below hbw
    have k1 := hri.cell
    have k2 := hri.free
    have HBW := Lib.hid hbw
    clear hb hbw hri
    go_wp2_with fail
    go_ret
    exact ⟨rfl, RdO.bad HR.out HBW.out⟩
  | false =>
    go_enter Tryz.func120, Tryz.ntmps120
    go_wp2_with fail
    refine (HC.out _ (HB1.out _)).mono ?_
    rintro e w1 ⟨rfl, hb⟩
    have HBW := Lib.hid ((HB1.out _).trans (hb.mono (HB1.out _).size))
    clear hb
    go_wp2_with fail
    go_ret
    exact ⟨rfl, RdO.of_below HR.out HBW.out⟩

theorem zT_sl (Z : Nat → Prop) (w : World) (k : Nat) (o : Obj) (h : ∀ j, j < k * 3 → (w.alloc o).cell? ⟨w.heap.size, j, none⟩ = some ((#[Value.bool false, .string ⟨#[]⟩, .slice none 0 0] : Array Value)[j % 3]!)) (hz : Z w.heap.size) (hk : k ≤ 1000) :
    SlL Z (w.alloc o) (.slice (some ⟨w.heap.size, 0, none⟩) k k) (List.replicate k zT) := by
  by_cases e : k = 0
  · subst e; exact .nil _ _ (Nat.zero_le _)
  · have := SlL.of_row (Z := Z) (w := w.alloc o) (b := w.heap.size) (o := 0) (c := k) (xs := List.replicate k zT) ⟨hz, by simp, fun j l t ys hj => by
      have hjk : j < k := by have := (List.getElem?_eq_some_iff.1 hj).1; simpa using this
      rw [List.getElem?_replicate, if_pos hjk] at hj
      injection hj with hj
      unfold zT at hj
      injection hj with e1 e2 e3
      subst e1; subst e2; subst e3
      rw [Nat.zero_add]
      refine ⟨none, 0, ?_, ?_, ?_, by decide, .nil none 0 (Nat.zero_le _)⟩
      · rw [h _ (by omega), show j * 3 % 3 = 0 by omega]; rfl
      · rw [h _ (by omega), show (j * 3 + 1) % 3 = 1 by omega]; rfl
      · rw [h _ (by omega), show (j * 3 + 2) % 3 = 2 by omega]; rfl⟩ (by simp [e]) (by simp) (by unfold maxLen; omega)
    rw [List.length_replicate] at this
    exact this

theorem make_zeros (Z : Nat → Prop) (k : Nat) (hk : k ≤ 1000) (w : World) (hz : Z w.heap.size) : ∃ o : Obj, (Instr.makeSlice 59 (.int .i64 (k : Nat)) (.int .i64 (k : Nat))).run Tryz.prog w = .ok (.slice (some ⟨w.heap.size, 0, none⟩) k k) (w.alloc o) ∧ SlL Z (w.alloc o) (.slice (some ⟨w.heap.size, 0, none⟩) k k) (List.replicate k zT) := by
  obtain ⟨i, hi, hzz⟩ := Option.map_eq_some_iff.1 Tryz.infoForm
  simp only [Prod.mk.injEq] at hzz
  obtain ⟨hzz, hsz, hby⟩ := hzz
  have hr := run_make (P := Tryz.prog) w 59 61 i _ Tryz.underlying59 hi hzz .i64 .i64 k k (by omega) (Int.le_refl _) (by rw [hby]; omega) (by omega)
  simp only [Int.toNat_natCast, hsz] at hr
  refine ⟨_, hr, zT_sl Z w k _ (fun j hj => ?_) hz hk⟩
  rw [World.cell?_alloc_at _ _ _ _ rfl]
  simp [madeCells, Value.cells, hj]
  rfl
end Go.Proofs.YtgjcblginkdinaaGreatDoor
set_option linter.unusedVariables false
namespace Go.Proofs.YtgjcblginkdinaaGreatDoor
open Go.ChangeShapes Go.WideShapes Go.ChangeAt Go.RowKit
open Go.Lib (itoa)

attribute [local go_sem ↓] Go.wp_at_zero Go.wp_at_succ

def PartsP (Z : Nat → Prop) (R : Nat) (b : Bool) (T : Tm) (k : Nat) (w : World) (e : Ending) (w' : World) : Prop :=
  ∃ a c, e = .returned (.slice a k c) ∧ (rdParts T k).1.length = k ∧ SlL Z w' (.slice a k c) (rdParts T k).1 ∧ RdO R b (rdParts T k).2 w w'

theorem parts_len (T : Tm) (k : Nat) : (rdParts T k).1.length = k := by
  unfold rdParts
  by_cases h : T.xs.length = k
  · rw [if_pos h]; exact h
  · rw [if_neg h]; simp

set_option maxHeartbeats 2000000 in
set_option maxRecDepth 100000 in
theorem pparts_any (Z : Nat → Prop) (R : Nat) (b : Bool) (T : Tm) (k : Nat) (hk : k ≤ 1000) (a : Option Addr) (c : Nat) (w : World) (hr : RdI R b w) (hsl : SlL Z w (.slice a T.xs.length c) T.xs) (hzr : ¬ Z R) (hzn : ∀ i, w.heap.size ≤ i → Z i) :
    Calls Tryz.prog 81 #[.pointer (some ⟨R, 0, none⟩), fv T.l T.t (.slice a T.xs.length c), .int .i64 (k : Nat)] w (PartsP Z R b T k w) := by
  have hb1 : ∀ o, Below w.heap.size w (w.alloc o) := fun o => (Below.refl _ _).alloc (Nat.le_refl _) _
  have hlt := hr.lt
  obtain ⟨_, _, _, hxc, hcm⟩ := hsl.form
  obtain ⟨l, t, xs⟩ := T
  simp only [Tm.l, Tm.t, Tm.xs] at hsl ⊢
  obtain ⟨n, hn⟩ : ∃ n, n = xs.length := ⟨_, rfl⟩
  rw [← hn] at hsl ⊢
  have hnm : n ≤ 9223372036854775807 := by
    obtain ⟨_, _, e, h1, h2⟩ := hsl.form
    injection e with _ e2 _
    unfold maxLen at h2
    omega
  have hc : ∀ wz, Below w.heap.size w wz → Calls Tryz.prog 119 #[.pointer (some ⟨R, 0, none⟩), fv l t (.slice a n c)] wz fun e w' => e = .returned (.slice a n c) ∧ RdO R b (!l) wz w' := fun wz hz => plist_any R b l t _ a n c wz rfl (hr.below hz)
  have hmk : ∀ wz : World, w.heap.size ≤ wz.heap.size → ∃ o : Obj, (Instr.makeSlice 59 (.int .i64 (k : Nat)) (.int .i64 (k : Nat))).run Tryz.prog wz = .ok (.slice (some ⟨wz.heap.size, 0, none⟩) k k) (wz.alloc o) ∧ SlL Z (wz.alloc o) (.slice (some ⟨wz.heap.size, 0, none⟩) k k) (List.replicate k zT) := fun wz hz => make_zeros Z k hk wz (hzn _ hz)
  have HC := Lib.hid hc
  have HB1 := Lib.hid hb1
  have HS := Lib.hid hsl
  have HN := Lib.hid hn
  have HMK := Lib.hid hmk
  have HR := Lib.hid hr
  have HZR := Lib.hid hzr
  clear hc hb1 hsl hn hmk hr hzr hzn hxc hcm
  by_cases hnk : n = k
  · have hp : rdParts (.mk l t xs) k = (xs, !l) := by unfold rdParts; rw [if_pos (by simp only [Tm.xs]; rw [← HN.out]; exact hnk)]; rfl
    have HP := Lib.hid hp
    subst hnk
    clear hp
    go_enter Tryz.func81, Tryz.ntmps81
    go_wp2_with fail
    refine (HC.out _ (HB1.out _)).mono ?_
    rintro e w1 ⟨rfl, ho⟩
    have HO := Lib.hid ho
    clear ho
    go_wp2_with fail
    go_ret
    refine ⟨a, c, rfl, parts_len _ _, ?_, ?_⟩
    · rw [HP.out]
      exact ((HS.out.keep (HB1.out _)).off HO.out.2 (fun i hz e => HZR.out (e ▸ hz)))
    · rw [HP.out]
      have := (RdO.of_below HR.out (HB1.out (.cells #[.bool l, .string t, .slice a n c] 61))).trans (by rw [Bool.or_false]; exact HO.out)
      rw [Bool.false_or] at this
      exact this
  · have hnk' : ((n : Int) == (k : Int)) = false := by rw [beq_eq_false_iff_ne]; omega
    have hp : rdParts (.mk l t xs) k = (List.replicate k zT, true) := by unfold rdParts; rw [if_neg (by simp only [Tm.xs]; rw [← HN.out]; exact hnk)]
    have HP := Lib.hid hp
    clear hp hnk
    go_enter Tryz.func81, Tryz.ntmps81
    go_wp2_with fail
    refine (HC.out _ (HB1.out _)).mono ?_
    rintro e w1 ⟨rfl, ho⟩
    have hri := ho.1
    have k1 := hri.cell
    have k2 := hri.free
    have hsz : w.heap.size ≤ (w1.setCell ⟨R, 0, none⟩ (.bool true)).heap.size := by have := (HB1.out (.cells #[.bool l, .string t, .slice a n c] 61)).size; have := ho.2.size; simp [World.setCell]; omega
    obtain ⟨o, hmk, hzs⟩ := HMK.out _ hsz
    have HO := Lib.hid ho
    have HZS := Lib.hid hzs
    have hsz1 : (w1.setCell ⟨R, 0, none⟩ (.bool true)).heap.size = w1.heap.size := by simp [World.setCell]
    have hro : RdO R b true w ((w1.setCell ⟨R, 0, none⟩ (.bool true)).alloc o) :=
      ⟨by rw [Bool.or_true]; exact (hri.set true).below ((Below.refl _ _).alloc (Nat.le_refl _) _), (Off.setCell (Z := fun i => i = R) (((Off.of_below (Z := fun i => i = R) (HB1.out _))).trans ho.2) (p := ⟨R, 0, none⟩) (.inr rfl) _).alloc _⟩
    have HRO := Lib.hid hro
    clear ho hri hzs hsz hro
    go_wp2_with fail
    go_ret
    have hz := HZS.out
    rw [hsz1] at hz
    refine ⟨some ⟨w1.heap.size, 0, none⟩, k, rfl, parts_len _ _, ?_, ?_⟩
    · rw [HP.out]; exact hz
    · rw [HP.out]; exact HRO.out
end Go.Proofs.YtgjcblginkdinaaGreatDoor
