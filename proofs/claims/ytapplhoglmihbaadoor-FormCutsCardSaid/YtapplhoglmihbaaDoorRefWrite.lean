/- The contract of the document's Write. -/
import Derived.Test.YtapplhoglmihbaaDoorRefSize
import Derived.Test.YtapplhoglmihbaaDoorCount
set_option linter.unusedVariables false
namespace Go.Proofs.YtapplhoglmihbaaDoor
open Go.ChangeShapes Go.WideShapes Go.ChangeAt Go.RowKit
open Go.Lib (decDigits itoa)

theorem Tm.bytes_le (T : Tm) : T.bytes.length ≤ 2 * T.texts + 3 * T.parts := by
  induction T using Tm.ind with
  | h l t xs ih =>
    have hxs : (Tm.bytess xs).length ≤ 2 * Tm.textss xs + 3 * Tm.partss xs := by
      clear l t
      induction xs with
      | nil => simp [Tm.bytess]
      | cons x r ih2 =>
        have h1 := ih x (by simp)
        have h2 := ih2 fun y hy => ih y (by simp [hy])
        simp only [Tm.bytess, Tm.textss, Tm.partss, List.length_append]; omega
    cases l with
    | true => rw [Tm.bytes_list, Tm.texts, Tm.parts]; simp only [List.length_cons, List.length_append, List.length_nil]; omega
    | false =>
      have h1 := decDigits_len t.size
      have h2 := ba_len t
      rw [Tm.bytes_text, Tm.texts, Tm.parts]; simp only [List.length_cons, List.length_append]; omega

/-- Can it be written? -/
def fits (T : Tm) : Bool := decide (T.depth ≤ 8) && decide (T.bytes.length ≤ 65536)
def wrS (T : Tm) : List UInt8 := if T.ok && fits T then T.bytes else []
def wrN (T : Tm) : Int := if T.ok then (if fits T then 0 else 2) else 1

theorem box_step {w wz w2 : World} {o : Obj} (h1 : Below (w.heap.size + 1) (w.alloc o) wz) (h2 : Below wz.heap.size wz w2) : Below (w.heap.size + 1) (w.alloc o) w2 :=
  h1.trans (h2.mono (by have := h1.size; simp at this; omega))
theorem box_first {w w2 : World} {o : Obj} (h2 : Below (w.alloc o).heap.size (w.alloc o) w2) : Below (w.heap.size + 1) (w.alloc o) w2 := h2.mono (by simp)
theorem box3 {w wz : World} {x1 x2 x3 : Value} {ty : TypeId} (h : Below (w.heap.size + 1) (w.alloc (.cells #[x1, x2, x3] ty)) wz) :
    wz.cell? ⟨w.heap.size, 0, none⟩ = some x1 ∧ wz.cell? ⟨w.heap.size, 1, none⟩ = some x2 ∧ wz.cell? ⟨w.heap.size, 2, none⟩ = some x3 ∧ Below w.heap.size w wz := by
  have hc : ∀ j, wz.cell? ⟨w.heap.size, j, none⟩ = #[x1, x2, x3][j]? := fun j => (h.cell (p := ⟨w.heap.size, j, none⟩) (Nat.lt_succ_self _)).trans (World.cell?_alloc_at _ _ _ _ rfl)
  exact ⟨hc 0, hc 1, hc 2, ((Below.refl _ _).alloc (Nat.le_refl _) _).trans (h.mono (Nat.le_succ _))⟩

set_option maxHeartbeats 2000000 in
set_option maxRecDepth 100000 in
theorem rwrite_any (l : Bool) (t : ByteArray) (ys : List Tm) (Z : Nat → Prop) (w : World) (a : Option Addr) (c : Nat) (hsl : SlL Z w (.slice a ys.length c) ys) (hts : t.size ≤ 140737488355328) (hT : SmallT (.mk l t ys)) :
    Calls Tryd.prog 11 #[fv l t (.slice a ys.length c)] w fun e w' => e = .returned (.tuple #[.string (tx (wrS (.mk l t ys))), .int .i64 (wrN (.mk l t ys))]) ∧ Below w.heap.size w w' := by
  obtain ⟨T, hT0⟩ : ∃ T, T = Tm.mk l t ys := ⟨_, rfl⟩
  rw [← hT0] at hT ⊢
  have hbl := Tm.bytes_le T
  have hbl2 : T.bytes.length ≤ 1099511627776 := by have := hT.1; have := hT.2; omega
  have hdl := Tm.depth_le_parts T
  have hpl : T.parts ≤ 1000000000 := by have := hT.1; omega
  obtain ⟨n, hn⟩ : ∃ n, n = ys.length := ⟨_, rfl⟩
  have c1 : ∀ wz, Below w.heap.size w wz → Calls Tryd.prog 26 #[fv l t (.slice a n c)] wz fun e w' => e = .returned (.bool T.ok) ∧ Below wz.heap.size wz w' := fun wz hz => by
    rw [hn]; exact rright_any T l t ys hT0 Z wz a c (hsl.keep hz)
  have c2 : ∀ wz, Below w.heap.size w wz → Calls Tryd.prog 27 #[fv l t (.slice a n c)] wz fun e w' => e = .returned (.int .i64 (T.depth : Nat)) ∧ Below wz.heap.size wz w' := fun wz hz => by
    rw [hn]; exact rdepth_any T l t ys hT0 Z wz a c hpl (hsl.keep hz)
  have c3 : ∀ wz, Below w.heap.size w wz → Calls Tryd.prog 28 #[fv l t (.slice a n c)] wz fun e w' => e = .returned (.int .i64 (T.bytes.length : Nat)) ∧ Below wz.heap.size wz w' := fun wz hz => by
    rw [hn]; exact rsize_any T l t ys hT0 Z wz a c hts hbl2 (hsl.keep hz)
  have c4 : ∀ wz, Below w.heap.size w wz → Calls Tryd.prog 29 #[fv l t (.slice a n c)] wz fun e w' => e = .returned (.string (tx T.bytes)) ∧ Below wz.heap.size wz w' := fun wz hz => by
    rw [hn]; exact rbytes_any T l t ys hT0 Z wz a c hts hbl2 (hsl.keep hz)
  rw [← hn]
  obtain ⟨D, hD⟩ : ∃ D, D = T.depth := ⟨_, rfl⟩
  obtain ⟨S, hS⟩ : ∃ S, S = T.bytes.length := ⟨_, rfl⟩
  have hDm : D ≤ 1000000000 := by omega
  have hSm : S ≤ 1099511627776 := by omega
  have hf : fits T = (decide (D ≤ 8) && decide (S ≤ 65536)) := by unfold fits; rw [hD, hS]
  rw [← hD] at c2
  rw [← hS] at c3
  have hs0 : wrS T = if T.ok && (decide (D ≤ 8) && decide (S ≤ 65536)) then T.bytes else [] := by unfold wrS; rw [hf]
  have hn0 : wrN T = if T.ok then (if (decide (D ≤ 8) && decide (S ≤ 65536)) then 0 else 2) else 1 := by unfold wrN; rw [hf]
  rw [hs0, hn0]
  obtain ⟨X, hX⟩ : ∃ X, X = T.bytes := ⟨_, rfl⟩
  rw [← hX] at c4 ⊢
  have C1 := Lib.hid c1
  have C2 := Lib.hid c2
  have C3 := Lib.hid c3
  have C4 := Lib.hid c4
  clear c1 c2 c3 c4 hs0 hn0 hf hX hD hS hdl hbl hbl2 hpl hsl hT hT0 hn
  cases hok : T.ok with
  | false =>
    rw [hok] at C1
    clear hok
    go_enter Tryd.func11, Tryd.ntmps11
    go_wp2_with fail
    refine (C1.out _ ((Below.refl _ _).alloc (Nat.le_refl _) _)).mono ?_
    rintro e w1 ⟨rfl, hb1⟩
    have HB1 := Lib.hid (((Below.refl w.heap.size w).alloc (Nat.le_refl _) _).trans (hb1.mono (by simp)))
    clear hb1
    go_wp2_with fail
    go_ret2
    exact ⟨by simp, HB1.out⟩
  | true =>
    rw [hok] at C1
    clear hok
    by_cases hD8 : D ≤ 8
    · by_cases hS8 : S ≤ 65536
      · go_enter Tryd.func11, Tryd.ntmps11
        go_wp2_with fail
        refine (C1.out _ ((Below.refl _ _).alloc (Nat.le_refl _) _)).mono ?_
        rintro e w1 ⟨rfl, hb1⟩
        have HB1 := Lib.hid (box_first hb1)
        obtain ⟨k1, k2, k3, k4⟩ := box3 HB1.out
        have K4 := Lib.hid k4
        clear hb1 k4
        go_wp2_with fail
        refine (C2.out _ K4.out).mono ?_
        rintro e w2 ⟨rfl, hb1⟩
        have HB2 := Lib.hid (box_step HB1.out hb1)
        clear k1 k2 k3 K4 hb1
        obtain ⟨k1, k2, k3, k4⟩ := box3 HB2.out
        have K4 := Lib.hid k4
        clear k4
        go_wp2_with fail
        refine (C3.out _ K4.out).mono ?_
        rintro e w3 ⟨rfl, hb1⟩
        have HB3 := Lib.hid (box_step HB2.out hb1)
        clear k1 k2 k3 K4 hb1
        obtain ⟨k1, k2, k3, k4⟩ := box3 HB3.out
        have K4 := Lib.hid k4
        clear k4
        go_wp2_with fail
        refine (C4.out _ K4.out).mono ?_
        rintro e w4 ⟨rfl, hb1⟩
        have HB4 := Lib.hid (box_step HB3.out hb1)
        clear k1 k2 k3 K4 hb1
        go_wp2_with fail
        all_goals go_ret2
        all_goals refine ⟨?_, (box3 HB4.out).2.2.2⟩
        all_goals simp
      · go_enter Tryd.func11, Tryd.ntmps11
        go_wp2_with fail
        refine (C1.out _ ((Below.refl _ _).alloc (Nat.le_refl _) _)).mono ?_
        rintro e w1 ⟨rfl, hb1⟩
        have HB1 := Lib.hid (box_first hb1)
        obtain ⟨k1, k2, k3, k4⟩ := box3 HB1.out
        have K4 := Lib.hid k4
        clear hb1 k4
        go_wp2_with fail
        refine (C2.out _ K4.out).mono ?_
        rintro e w2 ⟨rfl, hb1⟩
        have HB2 := Lib.hid (box_step HB1.out hb1)
        clear k1 k2 k3 K4 hb1
        obtain ⟨k1, k2, k3, k4⟩ := box3 HB2.out
        have K4 := Lib.hid k4
        clear k4
        go_wp2_with fail
        refine (C3.out _ K4.out).mono ?_
        rintro e w3 ⟨rfl, hb1⟩
        have HB3 := Lib.hid (box_step HB2.out hb1)
        clear k1 k2 k3 K4 hb1
        go_wp2_with fail
        all_goals go_ret2
        all_goals refine ⟨?_, (box3 HB3.out).2.2.2⟩
        all_goals simp
    · go_enter Tryd.func11, Tryd.ntmps11
      go_wp2_with fail
      refine (C1.out _ ((Below.refl _ _).alloc (Nat.le_refl _) _)).mono ?_
      rintro e w1 ⟨rfl, hb1⟩
      have HB1 := Lib.hid (box_first hb1)
      obtain ⟨k1, k2, k3, k4⟩ := box3 HB1.out
      have K4 := Lib.hid k4
      clear hb1 k4
      go_wp2_with fail
      refine (C2.out _ K4.out).mono ?_
      rintro e w2 ⟨rfl, hb1⟩
      have HB2 := Lib.hid (box_step HB1.out hb1)
      clear k1 k2 k3 K4 hb1
      go_wp2_with fail
      all_goals go_ret2
      all_goals refine ⟨?_, (box3 HB2.out).2.2.2⟩
      all_goals simp
end Go.Proofs.YtapplhoglmihbaaDoor
