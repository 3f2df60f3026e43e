/- The contract of Number. -/
import Derived.StillTailTactics
import Derived.Deep.RegionHeld3
import Derived.Test.YthamfbfeokmhgaaGreatDoorV10
import Derived.Test.YthamfbfeokmhgaaGreatDoorV11
import Derived.Test.YthamfbfeokmhgaaGreatDoorV12
set_option linter.unusedVariables false
namespace Go.Proofs.YthamfbfeokmhgaaGreatDoor
open Go.ChangeShapes Go.WideShapes Go.ChangeAt Go.RowKit
open Go.Lib (decDigits itoa)

def NumG (s : ByteArray) (lo hi : Int) (w : World) (e : Ending) (w' : World) : Prop :=
  ∃ (n : Int) (x : Value), e = .returned (.tuple #[.int .i64 n, x]) ∧ Below w.heap.size w w' ∧ (isNum s lo hi n ∧ x = .nilIface ∨ n = 0 ∧ x = .iface 55 (.int .i64 5) ∧ ∀ m, ¬ isNum s lo hi m)

theorem number_bad (l : Bool) (s : ByteArray) (v : Value) (lo hi : Int) (w : World) (hs : s.size ≤ 140737488355328) (hv : HasSents w) (hbad : ∀ v, Lib.atoiAll s.data.toList ≠ .ok v) :
    Calls Tryz.prog 65 #[fv l s v, .int .i64 lo, .int .i64 hi] w fun e w' => e = .returned (.tuple #[.int .i64 0, .iface 55 (.int .i64 5)]) ∧ Below w.heap.size w w' := by
  have ha : ∀ wz, Below w.heap.size w wz → Calls Tryz.prog 86 #[.string s] wz (AtoiP s wz) := fun wz hz => atoi_any s wz hs (hv.below hz)
  have HA := Lib.hid ha
  have HB := Lib.hid hbad
  clear ha hbad hv
  go_enter Tryz.func65, Tryz.ntmps65
  go_wp2_with fail
  refine (HA.out _ ((Below.refl _ _).alloc (Nat.le_refl _) _)).mono ?_
  rintro e w2 ⟨hb2, hcase⟩
  have hx := box_first hb2
  obtain ⟨k1, k2, k3, k4⟩ := box3 hx
  obtain ⟨k, p, rfl⟩ : ∃ k p, e = .returned (.tuple #[.int .i64 k, .iface 190 p]) := by
    rcases hcase with ⟨v, h, _⟩ | ⟨_, k, p, h⟩
    · exact absurd h (HB.out v)
    · exact ⟨k, p, h⟩
  have K4 := Lib.hid k4
  clear hb2 hx hcase k4
  go_wp2_with fail
  go_quiet (fail)
  go_wp2_with fail
  exact bodyPost_ret (v := .tuple #[.int .i64 0, .iface 55 (.int .i64 5)]) (by simp [results, Tryz.results65, go_sem]) rfl ⟨rfl, Below.drewN K4.out⟩

theorem numbox {w w2 : World} {x1 x2 x3 : Value} {ty : TypeId} (h : Below (w.heap.size + 1) (w.alloc (.cells #[x1, x2, x3] ty)) w2) :
    (w2.cell? ⟨w.heap.size, 0, none⟩ = some x1 ∧ w2.cell? ⟨w.heap.size, 1, none⟩ = some x2 ∧ w2.cell? ⟨w.heap.size, 2, none⟩ = some x3) ∧ Below w.heap.size w w2 ∧ w.heap.size < w2.heap.size := by
  obtain ⟨k1, k2, k3, k4⟩ := box3 h
  exact ⟨⟨k1, k2, k3⟩, k4, by have := h.size; simp at this; omega⟩
theorem numbox_keep {w W W2 : World} {x1 x2 x3 : Value} (hb : Below W.heap.size W W2) (h : (W.cell? ⟨w.heap.size, 0, none⟩ = some x1 ∧ W.cell? ⟨w.heap.size, 1, none⟩ = some x2 ∧ W.cell? ⟨w.heap.size, 2, none⟩ = some x3) ∧ Below w.heap.size w W ∧ w.heap.size < W.heap.size) :
    (W2.cell? ⟨w.heap.size, 0, none⟩ = some x1 ∧ W2.cell? ⟨w.heap.size, 1, none⟩ = some x2 ∧ W2.cell? ⟨w.heap.size, 2, none⟩ = some x3) ∧ Below w.heap.size w W2 ∧ w.heap.size < W2.heap.size :=
  ⟨⟨(hb.cell (p := ⟨w.heap.size, 0, none⟩) h.2.2).trans h.1.1, (hb.cell (p := ⟨w.heap.size, 1, none⟩) h.2.2).trans h.1.2.1, (hb.cell (p := ⟨w.heap.size, 2, none⟩) h.2.2).trans h.1.2.2⟩, h.2.1.trans (hb.mono h.2.1.size), Nat.lt_of_lt_of_le h.2.2 hb.size⟩

theorem start_num {w W : World} {x1 x2 x3 : Value} (h : (W.cell? ⟨w.heap.size, 0, none⟩ = some x1 ∧ W.cell? ⟨w.heap.size, 1, none⟩ = some x2 ∧ W.cell? ⟨w.heap.size, 2, none⟩ = some x3) ∧ Below w.heap.size w W ∧ w.heap.size < W.heap.size) :
    (W.drew.cell? ⟨w.heap.size, 0, none⟩ = some x1 ∧ W.drew.cell? ⟨w.heap.size, 1, none⟩ = some x2 ∧ W.drew.cell? ⟨w.heap.size, 2, none⟩ = some x3) ∧ Below w.heap.size w W.drew ∧ w.heap.size < W.drew.heap.size := ⟨h.1, h.2.1.drew, h.2.2⟩

set_option maxHeartbeats 4000000 in
set_option maxRecDepth 100000 in
theorem number_okG (a0 : Option Addr) (c0 : Nat) (s : ByteArray) (m lo hi : Int) (w : World) (hs : s.size ≤ 140737488355328) (hv : HasSents w) (ht : HasTab w) (hok : Lib.atoiAll s.data.toList = .ok m)
    (l0 : -9223372036854775808 ≤ lo) (l1 : lo ≤ 9223372036854775807) (l2 : -9223372036854775808 ≤ hi) (l3 : hi ≤ 9223372036854775807) :
    Calls Tryz.prog 65 #[fv false s (.slice a0 0 c0), .int .i64 lo, .int .i64 hi] w (NumG s lo hi w) := by
  obtain ⟨m0, m1⟩ := Lib.atoiAll_bounds hok
  have ha : ∀ wz, Below w.heap.size w wz → Calls Tryz.prog 86 #[.string s] wz (AtoiP s wz) := fun wz hz => atoi_any s wz hs (hv.below hz)
  obtain ⟨X, hX⟩ : ∃ X, X = tx (itoa m) := ⟨_, rfl⟩
  have hi' : ∀ wz, Below w.heap.size w wz → Calls Tryz.prog 68 #[.int .i64 m] wz fun e w' => e = .returned (.string X) ∧ Below wz.heap.size wz w' := fun wz hz => by
    rw [hX]; exact itoa_any m m0 m1 wz (ht.below hz)
  have hnum : ∀ n, isNum s lo hi n → n = m := fun n hn => by
    have := atoi_itoa n hn.1 hn.2.1
    have e : s.data.toList = itoa n := by rw [hn.2.2.1]
    rw [e, this] at hok
    injection hok
  have HA := Lib.hid ha
  have HI := Lib.hid hi'
  have HOK := Lib.hid hok
  have HNUM := Lib.hid hnum
  have HX := Lib.hid hX
  clear ha hi' hok hv ht hnum hX
  go_enter Tryz.func65, Tryz.ntmps65
  go_wp2_with fail
  refine (HA.out _ ((Below.refl _ _).alloc (Nat.le_refl _) _)).mono ?_
  rintro e w2 ⟨hb2, hcase⟩
  have hx := numbox (box_first hb2)
  obtain rfl : e = .returned (.tuple #[.int .i64 m, .nilIface]) := by
    rcases hcase with ⟨v, h, he⟩ | ⟨h, _⟩
    · have := HOK.out.symm.trans h
      injection this with this
      rw [he, this]
    · exact absurd HOK.out (h m)
  have HXX := Lib.hid hx
  clear hb2 hx hcase
  go_upto_region 2 with fail
  by_cases hs1 : s = X
  · have q1 : (s.toList == X.toList) = true := by rw [hs1]; exact beq_self_eq_true _
    have HS1 := Lib.hid hs1
    clear hs1
    go_region_held3 (fun W => (W.cell? ⟨w.heap.size, 0, none⟩ = some (.bool false) ∧ W.cell? ⟨w.heap.size, 1, none⟩ = some (.string s) ∧ W.cell? ⟨w.heap.size, 2, none⟩ = some (.slice a0 0 c0)) ∧ Below w.heap.size w W ∧ w.heap.size < W.heap.size) (first | exact numbox_keep hb3 (by assumption) | exact start_num HXX.out) (first | (go_at_call 68; refine (HI.out _ (And.left (And.right (by assumption)))).mono ?_; rintro e w3 ⟨rfl, hb3⟩))
    rename_i hHeld
    have HB := Lib.hid hHeld.2.1
    clear hHeld hb3 HXX
    by_cases h1 : m < lo
    · have hno : ∀ n, ¬ isNum s lo hi n := fun n hn => by
        have := HNUM.out n hn
        subst this
        have := hn.2.2.2.1; omega
      have HNO := Lib.hid hno
      clear hno
      go_wp2_with fail
      exact bodyPost_ret (v := .tuple #[.int .i64 0, .iface 55 (.int .i64 5)]) (by simp [results, Tryz.results65, go_sem]) rfl ⟨_, _, rfl, HB.out, .inr ⟨rfl, rfl, HNO.out⟩⟩
    · by_cases h2 : hi < m
      · have hno : ∀ n, ¬ isNum s lo hi n := fun n hn => by
          have := HNUM.out n hn
          subst this
          have := hn.2.2.2.2; omega
        have HNO := Lib.hid hno
        clear hno
        go_wp2_with fail
        exact bodyPost_ret (v := .tuple #[.int .i64 0, .iface 55 (.int .i64 5)]) (by simp [results, Tryz.results65, go_sem]) rfl ⟨_, _, rfl, HB.out, .inr ⟨rfl, rfl, HNO.out⟩⟩
      · have hy : isNum s lo hi m := ⟨m0, m1, by rw [HS1.out, HX.out], by omega, by omega⟩
        have HY := Lib.hid hy
        clear hy
        go_wp2_with fail
        exact bodyPost_ret (v := .tuple #[.int .i64 m, .nilIface]) (by simp [results, Tryz.results65, go_sem]) rfl ⟨_, _, rfl, HB.out, .inl ⟨HY.out, rfl⟩⟩
  · have q1 : (s.toList == X.toList) = false := ba_neq hs1
    have HS1 := Lib.hid hs1
    clear hs1
    go_region_held3 (fun W => (W.cell? ⟨w.heap.size, 0, none⟩ = some (.bool false) ∧ W.cell? ⟨w.heap.size, 1, none⟩ = some (.string s) ∧ W.cell? ⟨w.heap.size, 2, none⟩ = some (.slice a0 0 c0)) ∧ Below w.heap.size w W ∧ w.heap.size < W.heap.size) (first | exact numbox_keep hb3 (by assumption) | exact start_num HXX.out) (first | (go_at_call 68; refine (HI.out _ (And.left (And.right (by assumption)))).mono ?_; rintro e w3 ⟨rfl, hb3⟩))
    rename_i hHeld
    have HB := Lib.hid hHeld.2.1
    clear hHeld hb3 HXX
    have hno : ∀ n, ¬ isNum s lo hi n := fun n hn => by
      have := HNUM.out n hn
      subst this
      exact HS1.out (by rw [HX.out]; exact hn.2.2.1)
    have HNO := Lib.hid hno
    clear hno
    go_wp2_with fail
    exact bodyPost_ret (v := .tuple #[.int .i64 0, .iface 55 (.int .i64 5)]) (by simp [results, Tryz.results65, go_sem]) rfl ⟨_, _, rfl, HB.out, .inr ⟨rfl, rfl, HNO.out⟩⟩

theorem number_gen (a0 : Option Addr) (c0 : Nat) (s : ByteArray) (lo hi : Int) (w : World) (hs : s.size ≤ 140737488355328) (hv : HasSents w) (ht : HasTab w)
    (l0 : -9223372036854775808 ≤ lo) (l1 : lo ≤ 9223372036854775807) (l2 : -9223372036854775808 ≤ hi) (l3 : hi ≤ 9223372036854775807) :
    Calls Tryz.prog 65 #[fv false s (.slice a0 0 c0), .int .i64 lo, .int .i64 hi] w (NumG s lo hi w) := by
  by_cases h : ∃ v, Lib.atoiAll s.data.toList = .ok v
  · obtain ⟨v, hok⟩ := h
    exact number_okG a0 c0 s v lo hi w hs hv ht hok l0 l1 l2 l3
  · have hbad : ∀ v, Lib.atoiAll s.data.toList ≠ .ok v := fun v e => h ⟨v, e⟩
    exact (number_bad false s (.slice a0 0 c0) lo hi w hs hv hbad).mono fun e w' ⟨he, hb⟩ => ⟨_, _, he, hb, .inr ⟨rfl, rfl, fun n => not_num hbad lo hi n⟩⟩
theorem number_any (s : ByteArray) (lo hi : Int) (w : World) (hs : s.size ≤ 140737488355328) (hv : HasSents w) (ht : HasTab w)
    (l0 : -9223372036854775808 ≤ lo) (l1 : lo ≤ 9223372036854775807) (l2 : -9223372036854775808 ≤ hi) (l3 : hi ≤ 9223372036854775807) :
    Calls Tryz.prog 65 #[fv false s (.slice none 0 0), .int .i64 lo, .int .i64 hi] w (NumG s lo hi w) := number_gen none 0 s lo hi w hs hv ht l0 l1 l2 l3
end Go.Proofs.YthamfbfeokmhgaaGreatDoor
