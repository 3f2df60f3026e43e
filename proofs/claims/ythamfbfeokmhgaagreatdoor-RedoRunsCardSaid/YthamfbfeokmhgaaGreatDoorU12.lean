/- The mathematics of numbers' texts: what is written of a number is read as it; how long it is. What strconv.Atoi leaves, of any text: a number, or an error that is not nil. The contract of Number. -/
import Derived.Lib.AtoiAllCases
import Derived.StillTailTactics
import Derived.Deep.RegionHeld3
import Derived.Test.YthamfbfeokmhgaaGreatDoorU6
import Derived.Test.YthamfbfeokmhgaaGreatDoorU7
import Derived.Test.YthamfbfeokmhgaaGreatDoorU8
set_option linter.unusedVariables false
namespace Go.Proofs.YthamfbfeokmhgaaGreatDoor
open Go.Lib (decDigits itoa)

theorem parse_digits : ∀ (r l : List UInt8), (∀ c ∈ r, isDig c) → val (l ++ r) < 18446744073709551616 → Lib.parseUint10 (val l) r = .ok (val (l ++ r))
  | [], l, _, _ => by simp [Lib.parseUint10]
  | c :: r, l, hd, hv => by
    have h1 := hd c (by simp)
    have h2 := parse_digits r (l ++ [c]) (fun x hx => hd x (by simp [hx])) (by rw [List.append_assoc]; exact hv)
    have h3 := val_app_le (l ++ [c]) r
    rw [List.append_assoc] at h3 h2
    have h4 : val ([c] ++ r) = val (c :: r) := rfl
    have h5 := val_snoc l c
    unfold isDig at h1
    simp only [Lib.parseUint10]
    have e : l ++ ([c] ++ r) = l ++ c :: r := rfl
    rw [e] at h3 h2
    rw [if_pos h1, if_neg (by omega), if_neg (by omega), ← h2, h5, Nat.mul_comm]

theorem parseMag_dec (u : Nat) (h : u < 18446744073709551616) : Lib.parseMag (decDigits u) = .ok u := by
  unfold Lib.parseMag
  rw [if_neg (decDigits_ne u)]
  have := parse_digits (decDigits u) [] (fun c hc => decDigits_dig u c hc) (by rw [List.nil_append, val_decDigits]; exact h)
  rw [List.nil_append, val_decDigits] at this
  exact this

theorem atoi_itoa (n : Int) (h0 : -9223372036854775808 ≤ n) (h1 : n ≤ 9223372036854775807) : Lib.atoiAll (itoa n) = .ok n := by
  by_cases hneg : n < 0
  · obtain ⟨u, hu⟩ : ∃ u : Nat, n = -(u : Int) := ⟨n.natAbs, by omega⟩
    subst hu
    rw [Lib.itoa_neg u (by omega), Lib.atoiAll_minus, parseMag_dec u (by omega)]
    simp only [Lib.signed]
    rw [if_neg (by omega)]
  · obtain ⟨u, hu⟩ : ∃ u : Nat, n = (u : Int) := ⟨n.toNat, by omega⟩
    subst hu
    rw [itoa_nat]
    obtain ⟨c, r, hcr⟩ : ∃ c r, decDigits u = c :: r := by
      cases h : decDigits u with
      | nil => exact absurd h (decDigits_ne u)
      | cons c r => exact ⟨c, r, rfl⟩
    have hc : isDig c := decDigits_dig u c (by rw [hcr]; simp)
    unfold isDig at hc
    have hp := parseMag_dec u (by omega)
    rw [hcr] at hp ⊢
    rw [Lib.atoiAll_plain c r (by omega) (by omega), hp]
    simp only [Lib.signless]
    rw [if_neg (by omega)]

theorem dec_len : ∀ (k u : Nat), u < 10 ^ (k + 1) → (decDigits u).length ≤ k + 1
  | 0, u, h => by
    rw [decDigits]
    rw [dif_pos (by omega)]
    simp
  | k + 1, u, h => by
    rw [decDigits]
    split
    · simp
    · have h1 : u / 10 < 10 ^ (k + 1) := by
        rw [Nat.div_lt_iff_lt_mul (by decide)]
        rw [Nat.pow_succ] at h
        exact h
      have := dec_len k (u / 10) h1
      rw [List.length_append, List.length_singleton]
      omega

theorem itoa_len (n : Int) (h0 : -9223372036854775808 ≤ n) (h1 : n ≤ 9223372036854775807) : (itoa n).length ≤ 20 := by
  by_cases hneg : n < 0
  · obtain ⟨u, hu⟩ : ∃ u : Nat, n = -(u : Int) := ⟨n.natAbs, by omega⟩
    subst hu
    rw [Lib.itoa_neg u (by omega)]
    have := dec_len 18 u (by simp; omega)
    simp; omega
  · obtain ⟨u, hu⟩ : ∃ u : Nat, n = (u : Int) := ⟨n.toNat, by omega⟩
    subst hu
    rw [itoa_nat]
    have := dec_len 18 u (by simp; omega)
    omega

def isNum (s : ByteArray) (lo hi n : Int) : Prop := -9223372036854775808 ≤ n ∧ n ≤ 9223372036854775807 ∧ s = tx (itoa n) ∧ lo ≤ n ∧ n ≤ hi

theorem itoa_inj {n m : Int} (h0 : -9223372036854775808 ≤ n) (h1 : n ≤ 9223372036854775807) (g0 : -9223372036854775808 ≤ m) (g1 : m ≤ 9223372036854775807) (h : itoa n = itoa m) : n = m := by
  have a := atoi_itoa n h0 h1
  rw [h, atoi_itoa m g0 g1] at a
  injection a with a
  exact a.symm

theorem tx_inj {l m : List UInt8} (h : tx l = tx m) : l = m := by
  have := congrArg (fun b : ByteArray => b.data.toList) h
  simpa using this

theorem isNum.one {s : ByteArray} {lo hi n m : Int} (h : isNum s lo hi n) (g : isNum s lo hi m) : n = m :=
  itoa_inj h.1 h.2.1 g.1 g.2.1 (tx_inj (h.2.2.1.symm.trans g.2.2.1))

theorem itoa_plain {n : Int} {l : List UInt8} (h : itoa n = l) (h0 : -9223372036854775808 ≤ n) (h1 : n ≤ 9223372036854775807) (hb : ∀ r, l ≠ 45 :: r) : 0 ≤ n ∧ (∀ c ∈ l, isDig c) ∧ (val l : Int) = n := by
  have hn : ¬ n < 0 := by
    intro hneg
    obtain ⟨u, hu⟩ : ∃ u : Nat, n = -(u : Int) := ⟨n.natAbs, by omega⟩
    subst hu
    rw [Lib.itoa_neg u (by omega)] at h
    exact hb _ h.symm
  obtain ⟨u, hu⟩ : ∃ u : Nat, n = (u : Int) := ⟨n.toNat, by omega⟩
  subst hu
  rw [itoa_nat] at h
  subst h
  exact ⟨by omega, fun c hc => decDigits_dig u c hc, by rw [val_decDigits]⟩

theorem itoa_below {n : Int} {r : List UInt8} (h : itoa n = 45 :: r) (h0 : -9223372036854775808 ≤ n) (h1 : n ≤ 9223372036854775807) : n < 0 ∧ (∀ c ∈ r, isDig c) ∧ (val r : Int) = -n := by
  have hn : n < 0 := by
    refine Int.not_le.1 fun hge => ?_
    obtain ⟨u, hu⟩ : ∃ u : Nat, n = (u : Int) := ⟨n.toNat, by omega⟩
    subst hu
    rw [itoa_nat] at h
    have := decDigits_dig u 45 (by rw [h]; simp)
    unfold isDig at this
    have e : (45 : UInt8).toNat = 45 := rfl
    omega
  obtain ⟨u, hu⟩ : ∃ u : Nat, n = -(u : Int) := ⟨n.natAbs, by omega⟩
  subst hu
  rw [Lib.itoa_neg u (by omega)] at h
  injection h with _ h
  subst h
  exact ⟨hn, fun c hc => decDigits_dig u c hc, by rw [val_decDigits]; omega⟩
end Go.Proofs.YthamfbfeokmhgaaGreatDoor
set_option linter.unusedVariables false
namespace Go.Proofs.YthamfbfeokmhgaaGreatDoor
open Go.ChangeShapes Go.WideShapes Go.ChangeAt Go.RowKit
open Go.Lib (decDigits itoa)

theorem var_below {P : Program} {name : String} {g : Nat} (hg : P.globalNamed name = some g) {w w' : World} {vs : Array Value} (h : w.var? P name = some vs) (hb : Below w.heap.size w w') : w'.var? P name = some vs := by
  have hlt : g < w.heap.size := by
    unfold World.var? at h
    rw [hg] at h
    simp only [Option.bind_some] at h
    rcases Nat.lt_or_ge g w.heap.size with h' | h'
    · exact h'
    · rw [Array.getElem?_eq_none h'] at h; simp at h
  unfold World.var? at *
  rw [hg] at h ⊢
  simp only [Option.bind_some] at h ⊢
  rw [hb.block g hlt]
  exact h

structure HasSents (w : World) : Prop where
  bad : ∃ tp p, w.var? Tryz.prog "strconv.ErrSyntax" = some #[.iface tp p]
  range : ∃ tp p, w.var? Tryz.prog "strconv.ErrRange" = some #[.iface tp p]
theorem Tryz.synG : Tryz.prog.globalNamed "strconv.ErrSyntax" = some 5 := by kernel_rfl
theorem Tryz.ranG : Tryz.prog.globalNamed "strconv.ErrRange" = some 6 := by kernel_rfl
theorem HasSents.below {w w' : World} (h : HasSents w) (hb : Below w.heap.size w w') : HasSents w' := by
  obtain ⟨⟨t1, p1, h1⟩, t2, p2, h2⟩ := h
  exact ⟨⟨t1, p1, var_below Tryz.synG h1 hb⟩, t2, p2, var_below Tryz.ranG h2 hb⟩

def AtoiP (s : ByteArray) (w : World) (e : Ending) (w' : World) : Prop :=
  Below w.heap.size w w' ∧ ((∃ v, Lib.atoiAll s.data.toList = .ok v ∧ e = .returned (.tuple #[.int .i64 v, .nilIface])) ∨
    ((∀ v, Lib.atoiAll s.data.toList ≠ .ok v) ∧ ∃ k p, e = .returned (.tuple #[.int .i64 k, .iface 190 p])))

theorem atoi_any (s : ByteArray) (w : World) (hs : s.size ≤ 140737488355328) (hv : HasSents w) : Calls Tryz.prog 86 #[.string s] w (AtoiP s w) := by
  obtain ⟨⟨t1, p1, h1⟩, t2, p2, h2⟩ := hv
  cases hA : Lib.atoiAll s.data.toList
  case ok v =>
    refine (Tryz.strconv_Atoi_ok s (by omega) v hA w).mono fun e w' ⟨he, hw⟩ => ⟨?_, .inl ⟨v, hA, he⟩⟩
    rcases hw with rfl | ⟨t, rfl⟩
    · exact Below.refl _ _
    · exact Lib.bytesWorld_below _ _ _
  case range =>
    exact (Tryz.strconv_Atoi_range_var s (by omega) hA t2 p2 w h2).mono fun e w' ⟨N, he, _, _, hb⟩ => ⟨hb, .inr ⟨(fun v h => by rw [hA] at h; cases h), _, _, he⟩⟩
  · exact (Any.strconv_Atoi_syntax_var Tryz.laysC172 s (by omega) hA t1 p1 w h1).mono fun e w' ⟨N, he, _, _, hb⟩ => ⟨hb, .inr ⟨(fun v h => by rw [hA] at h; cases h), _, _, he⟩⟩

theorem not_num {s : ByteArray} (h : ∀ v, Lib.atoiAll s.data.toList ≠ .ok v) (lo hi n : Int) : ¬ isNum s lo hi n := fun g => by
  refine h n ?_
  have := atoi_itoa n g.1 g.2.1
  rw [g.2.2.1]
  exact this
end Go.Proofs.YthamfbfeokmhgaaGreatDoor
set_option linter.unusedVariables false
namespace Go.Proofs.YthamfbfeokmhgaaGreatDoor
open Go.ChangeShapes Go.WideShapes Go.ChangeAt Go.RowKit
open Go.Lib (decDigits itoa)

def NumG (s : ByteArray) (lo hi : Int) (w : World) (e : Ending) (w' : World) : Prop :=
  ∃ (n : Int) (x : Value), e = .returned (.tuple #[.int .i64 n, x]) ∧ Below w.heap.size w w' ∧ (isNum s lo hi n ∧ x = .nilIface ∨ n = 0 ∧ x = .iface 55 (.int .i64 5) ∧ ∀ m, ¬ isNum s lo hi m)

theorem number_bad (l : Bool) (s : ByteArray) (v : Value) (lo hi : Int) (w : World) (hs : s.size ≤ 140737488355328) (hv : HasSents w) (hbad : ∀ v, Lib.atoiAll s.data.toList ≠ .ok v) :
    Calls Tryz.prog 65 #[fv l s v, .int .i64 lo, .int .i64 hi] w fun e w' => e = .returned (.tuple #[.int .i64 0, .iface 55 (.int .i64 5)]) ∧ Below w.heap.size w w' := by
  have ha : ∀ wz, Below w.heap.size w wz → Calls Tryz.prog 86 #[.string s] wz (AtoiP s wz) := fun wz hz => atoi_any s wz hs (hv.below hz)
  have HA := Lib.hid ha
  have HB := Lib.hid hbad
  clear ha hbad hv
  go_enter Tryz.func65, Tryz.ntmps65
  go_wp2_with fail
  refine (HA.out _ ((Below.refl _ _).alloc (Nat.le_refl _) _)).mono ?_
  rintro e w2 ⟨hb2, hcase⟩
  have hx := box_first hb2
  obtain ⟨k1, k2, k3, k4⟩ := box3 hx
  obtain ⟨k, p, rfl⟩ : ∃ k p, e = .returned (.tuple #[.int .i64 k, .iface 190 p]) := by
    rcases hcase with ⟨v, h, _⟩ | ⟨_, k, p, h⟩
    · exact absurd h (HB.out v)
    · exact ⟨k, p, h⟩
  have K4 := Lib.hid k4
  clear hb2 hx hcase k4
  go_wp2_with fail
  go_quiet (fail)
  go_wp2_with fail
  exact bodyPost_ret (v := .tuple #[.int .i64 0, .iface 55 (.int .i64 5)]) (by simp [results, Tryz.results65, go_sem]) rfl ⟨rfl, Below.drewN K4.out⟩

theorem numbox {w w2 : World} {x1 x2 x3 : Value} {ty : TypeId} (h : Below (w.heap.size + 1) (w.alloc (.cells #[x1, x2, x3] ty)) w2) :
    (w2.cell? ⟨w.heap.size, 0, none⟩ = some x1 ∧ w2.cell? ⟨w.heap.size, 1, none⟩ = some x2 ∧ w2.cell? ⟨w.heap.size, 2, none⟩ = some x3) ∧ Below w.heap.size w w2 ∧ w.heap.size < w2.heap.size := by
  obtain ⟨k1, k2, k3, k4⟩ := box3 h
  exact ⟨⟨k1, k2, k3⟩, k4, by have := h.size; simp at this; omega⟩
theorem numbox_keep {w W W2 : World} {x1 x2 x3 : Value} (hb : Below W.heap.size W W2) (h : (W.cell? ⟨w.heap.size, 0, none⟩ = some x1 ∧ W.cell? ⟨w.heap.size, 1, none⟩ = some x2 ∧ W.cell? ⟨w.heap.size, 2, none⟩ = some x3) ∧ Below w.heap.size w W ∧ w.heap.size < W.heap.size) :
    (W2.cell? ⟨w.heap.size, 0, none⟩ = some x1 ∧ W2.cell? ⟨w.heap.size, 1, none⟩ = some x2 ∧ W2.cell? ⟨w.heap.size, 2, none⟩ = some x3) ∧ Below w.heap.size w W2 ∧ w.heap.size < W2.heap.size :=
  ⟨⟨(hb.cell (p := ⟨w.heap.size, 0, none⟩) h.2.2).trans h.1.1, (hb.cell (p := ⟨w.heap.size, 1, none⟩) h.2.2).trans h.1.2.1, (hb.cell (p := ⟨w.heap.size, 2, none⟩) h.2.2).trans h.1.2.2⟩, h.2.1.trans (hb.mono h.2.1.size), Nat.lt_of_lt_of_le h.2.2 hb.size⟩

theorem start_num {w W : World} {x1 x2 x3 : Value} (h : (W.cell? ⟨w.heap.size, 0, none⟩ = some x1 ∧ W.cell? ⟨w.heap.size, 1, none⟩ = some x2 ∧ W.cell? ⟨w.heap.size, 2, none⟩ = some x3) ∧ Below w.heap.size w W ∧ w.heap.size < W.heap.size) :
    (W.drew.cell? ⟨w.heap.size, 0, none⟩ = some x1 ∧ W.drew.cell? ⟨w.heap.size, 1, none⟩ = some x2 ∧ W.drew.cell? ⟨w.heap.size, 2, none⟩ = some x3) ∧ Below w.heap.size w W.drew ∧ w.heap.size < W.drew.heap.size := ⟨h.1, h.2.1.drew, h.2.2⟩

set_option maxHeartbeats 4000000 in
set_option maxRecDepth 100000 in
theorem number_okG (a0 : Option Addr) (c0 : Nat) (s : ByteArray) (m lo hi : Int) (w : World) (hs : s.size ≤ 140737488355328) (hv : HasSents w) (ht : HasTab w) (hok : Lib.atoiAll s.data.toList = .ok m)
    (l0 : -9223372036854775808 ≤ lo) (l1 : lo ≤ 9223372036854775807) (l2 : -9223372036854775808 ≤ hi) (l3 : hi ≤ 9223372036854775807) :
    Calls Tryz.prog 65 #[fv false s (.slice a0 0 c0), .int .i64 lo, .int .i64 hi] w (NumG s lo hi w) := by
  obtain ⟨m0, m1⟩ := Lib.atoiAll_bounds hok
  have ha : ∀ wz, Below w.heap.size w wz → Calls Tryz.prog 86 #[.string s] wz (AtoiP s wz) := fun wz hz => atoi_any s wz hs (hv.below hz)
  obtain ⟨X, hX⟩ : ∃ X, X = tx (itoa m) := ⟨_, rfl⟩
  have hi' : ∀ wz, Below w.heap.size w wz → Calls Tryz.prog 68 #[.int .i64 m] wz fun e w' => e = .returned (.string X) ∧ Below wz.heap.size wz w' := fun wz hz => by
    rw [hX]; exact itoa_any m m0 m1 wz (ht.below hz)
  have hnum : ∀ n, isNum s lo hi n → n = m := fun n hn => by
    have := atoi_itoa n hn.1 hn.2.1
    have e : s.data.toList = itoa n := by rw [hn.2.2.1]
    rw [e, this] at hok
    injection hok
  have HA := Lib.hid ha
  have HI := Lib.hid hi'
  have HOK := Lib.hid hok
  have HNUM := Lib.hid hnum
  have HX := Lib.hid hX
  clear ha hi' hok hv ht hnum hX
  go_enter Tryz.func65, Tryz.ntmps65
  go_wp2_with fail
  refine (HA.out _ ((Below.refl _ _).alloc (Nat.le_refl _) _)).mono ?_
  rintro e w2 ⟨hb2, hcase⟩
  have hx := numbox (box_first hb2)
  obtain rfl : e = .returned (.tuple #[.int .i64 m, .nilIface]) := by
    rcases hcase with ⟨v, h, he⟩ | ⟨h, _⟩
    · have := HOK.out.symm.trans h
      injection this with this
      rw [he, this]
    · exact absurd HOK.out (h m)
  have HXX := Lib.hid hx
  clear hb2 hx hcase
  go_upto_region 2 with fail
  by_cases hs1 : s = X
  · have q1 : (s.toList == X.toList) = true := by rw [hs1]; exact beq_self_eq_true _
    have HS1 := Lib.hid hs1
    clear hs1
    go_region_held3 (fun W => (W.cell? ⟨w.heap.size, 0, none⟩ = some (.bool false) ∧ W.cell? ⟨w.heap.size, 1, none⟩ = some (.string s) ∧ W.cell? ⟨w.heap.size, 2, none⟩ = some (.slice a0 0 c0)) ∧ Below w.heap.size w W ∧ w.heap.size < W.heap.size) (first | exact numbox_keep hb3 (by assumption) | exact start_num HXX.out) (first | (go_at_call 68; refine (HI.out _ (And.left (And.right (by assumption)))).mono ?_; rintro e w3 ⟨rfl, hb3⟩))
    rename_i hHeld
    have HB := Lib.hid hHeld.2.1
    clear hHeld hb3 HXX
    by_cases h1 : m < lo
    · have hno : ∀ n, ¬ isNum s lo hi n := fun n hn => by
        have := HNUM.out n hn
        subst this
        have := hn.2.2.2.1; omega
      have HNO := Lib.hid hno
      clear hno
      go_wp2_with fail
      exact bodyPost_ret (v := .tuple #[.int .i64 0, .iface 55 (.int .i64 5)]) (by simp [results, Tryz.results65, go_sem]) rfl ⟨_, _, rfl, HB.out, .inr ⟨rfl, rfl, HNO.out⟩⟩
    · by_cases h2 : hi < m
      · have hno : ∀ n, ¬ isNum s lo hi n := fun n hn => by
          have := HNUM.out n hn
          subst this
          have := hn.2.2.2.2; omega
        have HNO := Lib.hid hno
        clear hno
        go_wp2_with fail
        exact bodyPost_ret (v := .tuple #[.int .i64 0, .iface 55 (.int .i64 5)]) (by simp [results, Tryz.results65, go_sem]) rfl ⟨_, _, rfl, HB.out, .inr ⟨rfl, rfl, HNO.out⟩⟩
      · have hy : isNum s lo hi m := ⟨m0, m1, by rw [HS1.out, HX.out], by omega, by omega⟩
        have HY := Lib.hid hy
        clear hy
        go_wp2_with fail
        exact bodyPost_ret (v := .tuple #[.int .i64 m, .nilIface]) (by simp [results, Tryz.results65, go_sem]) rfl ⟨_, _, rfl, HB.out, .inl ⟨HY.out, rfl⟩⟩
  · have q1 : (s.toList == X.toList) = false := ba_neq hs1
    have HS1 := Lib.hid hs1
    clear hs1
    go_region_held3 (fun W => (W.cell? ⟨w.heap.size, 0, none⟩ = some (.bool false) ∧ W.cell? ⟨w.heap.size, 1, none⟩ = some (.string s) ∧ W.cell? ⟨w.heap.size, 2, none⟩ = some (.slice a0 0 c0)) ∧ Below w.heap.size w W ∧ w.heap.size < W.heap.size) (first | exact numbox_keep hb3 (by assumption) | exact start_num HXX.out) (first | (go_at_call 68; refine (HI.out _ (And.left (And.right (by assumption)))).mono ?_; rintro e w3 ⟨rfl, hb3⟩))
    rename_i hHeld
    have HB := Lib.hid hHeld.2.1
    clear hHeld hb3 HXX
    have hno : ∀ n, ¬ isNum s lo hi n := fun n hn => by
      have := HNUM.out n hn
      subst this
      exact HS1.out (by rw [HX.out]; exact hn.2.2.1)
    have HNO := Lib.hid hno
    clear hno
    go_wp2_with fail
    exact bodyPost_ret (v := .tuple #[.int .i64 0, .iface 55 (.int .i64 5)]) (by simp [results, Tryz.results65, go_sem]) rfl ⟨_, _, rfl, HB.out, .inr ⟨rfl, rfl, HNO.out⟩⟩

theorem number_gen (a0 : Option Addr) (c0 : Nat) (s : ByteArray) (lo hi : Int) (w : World) (hs : s.size ≤ 140737488355328) (hv : HasSents w) (ht : HasTab w)
    (l0 : -9223372036854775808 ≤ lo) (l1 : lo ≤ 9223372036854775807) (l2 : -9223372036854775808 ≤ hi) (l3 : hi ≤ 9223372036854775807) :
    Calls Tryz.prog 65 #[fv false s (.slice a0 0 c0), .int .i64 lo, .int .i64 hi] w (NumG s lo hi w) := by
  by_cases h : ∃ v, Lib.atoiAll s.data.toList = .ok v
  · obtain ⟨v, hok⟩ := h
    exact number_okG a0 c0 s v lo hi w hs hv ht hok l0 l1 l2 l3
  · have hbad : ∀ v, Lib.atoiAll s.data.toList ≠ .ok v := fun v e => h ⟨v, e⟩
    exact (number_bad false s (.slice a0 0 c0) lo hi w hs hv hbad).mono fun e w' ⟨he, hb⟩ => ⟨_, _, he, hb, .inr ⟨rfl, rfl, fun n => not_num hbad lo hi n⟩⟩
theorem number_any (s : ByteArray) (lo hi : Int) (w : World) (hs : s.size ≤ 140737488355328) (hv : HasSents w) (ht : HasTab w)
    (l0 : -9223372036854775808 ≤ lo) (l1 : lo ≤ 9223372036854775807) (l2 : -9223372036854775808 ≤ hi) (l3 : hi ≤ 9223372036854775807) :
    Calls Tryz.prog 65 #[fv false s (.slice none 0 0), .int .i64 lo, .int .i64 hi] w (NumG s lo hi w) := number_gen none 0 s lo hi w hs hv ht l0 l1 l2 l3
end Go.Proofs.YthamfbfeokmhgaaGreatDoor
