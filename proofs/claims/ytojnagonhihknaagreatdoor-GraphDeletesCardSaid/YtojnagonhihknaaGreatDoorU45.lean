/- The search of the vertices by their ids; Place where there is one. The document's Same of graphs; Place where there is one. The graph's laws' awake: one patch of two lines, and its graph. Mathematics. The graph's laws' awake. -/
import Derived.Deep.RegionHeld3
import Derived.Test.YtojnagonhihknaaGreatDoorU13
import Derived.Test.YtojnagonhihknaaGreatDoorU21
import Derived.Test.YtojnagonhihknaaGreatDoorU27
import Derived.Test.YtojnagonhihknaaGreatDoorU28
import Derived.Test.YtojnagonhihknaaGreatDoorU29
import Derived.Test.YtojnagonhihknaaGreatDoorU44
set_option linter.unusedVariables false
set_option linter.unusedSimpArgs false
namespace Go.Proofs.YtojnagonhihknaaGreatDoor
open Go.ChangeShapes Go.WideShapes Go.ChangeAt Go.RowKit

theorem VReads.ofRow {B : Nat} {w : World} {v : Value} {vs : List Vx} (h : Row 8 B w v vs.length (vxs vs)) : VReads w v vs := by
  rcases Nat.eq_zero_or_pos vs.length with h0 | hp
  · obtain ⟨a, c, rfl⟩ := h.form
    rw [h0]
    exact .inl ⟨List.length_eq_zero_iff.1 h0, _, _, rfl⟩
  · obtain ⟨b, cap, rfl, h2, h3, h4, h5, h6, h7⟩ := h.pos hp
    exact .inr ⟨fun e => by rw [e] at hp; simp at hp, b, 0, cap, rfl, h4, (by unfold maxLen at h5; omega), h3, fun j x hx i u hu => by
      rw [Nat.zero_add]
      exact h7 _ _ (vxs_at hx hu)⟩
theorem gcmp_below (x : Vx) (p : ByteArray) (n : Int) (W : World) : Calls Tryz.prog 36 #[.agg #[.string x.pn, .int .i64 x.n, .string x.line, .int .i64 x.del, .string x.ap, .int .i64 x.an, .string x.bp, .int .i64 x.bn], .agg #[.string p, .int .i64 n]] W fun e w' => e = .returned (.int .i64 (cmpV x p n)) ∧ Below W.heap.size W w' :=
  (gcompare_any x p n W).mono fun e w' ⟨h1, q, os, h2⟩ => ⟨h1, by
    subst h2
    exact (below_dn (q := q) (Below.refl W.heap.size W)).trans (grow_below (W.drewN q) os)⟩
abbrev BsC (b o q4 : Nat) (x : Vx) (p : ByteArray) (n0 : Int) (W : World) : Prop :=
  (W.cell? ⟨b, o, none⟩ = some (.string x.pn) ∧ W.cell? ⟨b, o + 1, none⟩ = some (.int .i64 x.n) ∧ W.cell? ⟨b, o + 2, none⟩ = some (.string x.line) ∧ W.cell? ⟨b, o + 3, none⟩ = some (.int .i64 x.del) ∧ W.cell? ⟨b, o + 4, none⟩ = some (.string x.ap) ∧ W.cell? ⟨b, o + 5, none⟩ = some (.int .i64 x.an) ∧ W.cell? ⟨b, o + 6, none⟩ = some (.string x.bp) ∧ W.cell? ⟨b, o + 7, none⟩ = some (.int .i64 x.bn)) ∧ W.cell? ⟨q4, 0, none⟩ = some (.string p) ∧ W.cell? ⟨q4, 1, none⟩ = some (.int .i64 n0)
theorem BsC.below {b o q4 : Nat} {x : Vx} {p : ByteArray} {n0 : Int} {W W' : World} (h : BsC b o q4 x p n0 W) (hb : Below W.heap.size W W') : BsC b o q4 x p n0 W' := by
  obtain ⟨⟨a0, a1, a2, a3, a4, a5, a6, a7⟩, c0, c1⟩ := h
  exact ⟨⟨(hb.cell (p := ⟨b, o, none⟩) (cell_lt a0)).trans a0, (hb.cell (p := ⟨b, o + 1, none⟩) (cell_lt a1)).trans a1, (hb.cell (p := ⟨b, o + 2, none⟩) (cell_lt a2)).trans a2, (hb.cell (p := ⟨b, o + 3, none⟩) (cell_lt a3)).trans a3, (hb.cell (p := ⟨b, o + 4, none⟩) (cell_lt a4)).trans a4, (hb.cell (p := ⟨b, o + 5, none⟩) (cell_lt a5)).trans a5, (hb.cell (p := ⟨b, o + 6, none⟩) (cell_lt a6)).trans a6, (hb.cell (p := ⟨b, o + 7, none⟩) (cell_lt a7)).trans a7⟩, (hb.cell (p := ⟨q4, 0, none⟩) (cell_lt c0)).trans c0, (hb.cell (p := ⟨q4, 1, none⟩) (cell_lt c1)).trans c1⟩
theorem BsC.of {b o q4 j : Nat} {x : Vx} {p : ByteArray} {n0 : Int} {W : World} (h : VAt W b (o + j * 8) x) (c0 : W.cell? ⟨q4, 0, none⟩ = some (.string p)) (c1 : W.cell? ⟨q4, 1, none⟩ = some (.int .i64 n0)) : BsC b (o + j * 8) q4 x p n0 W :=
  ⟨⟨h 0 _ rfl, h 1 _ rfl, h 2 _ rfl, h 3 _ rfl, h 4 _ rfl, h 5 _ rfl, h 6 _ rfl, h 7 _ rfl⟩, c0, c1⟩
def hitV (vs : List Vx) (p : ByteArray) (n0 : Int) (i : Nat) : Bool := match vs[i]? with | some y => decide (cmpV y p n0 = 0) | none => false
set_option maxHeartbeats 4000000 in
set_option maxRecDepth 100000 in
theorem gbsf_any (vs : List Vx) (v : Value) (p : ByteArray) (n0 : Int) (w : World) (hr : VReads w v vs) (hmono : ∀ (i j : Nat) x y, i < j → vs[i]? = some x → vs[j]? = some y → cmpV y p n0 < 0 → cmpV x p n0 < 0) (hn : vs.length ≤ 1000000) :
    Calls Tryz.prog 35 #[v, .agg #[.string p, .int .i64 n0], .func (.func 36) #[] #[]] w fun e w' => (∃ (i : Nat), e = .returned (.tuple #[.int .i64 (i : Nat), .bool (hitV vs p n0 i)]) ∧ i ≤ vs.length ∧ (∀ t y, t < i → vs[t]? = some y → cmpV y p n0 < 0) ∧ ∀ t y, i ≤ t → vs[t]? = some y → 0 ≤ cmpV y p n0) ∧ Below w.heap.size w w' := by
  obtain ⟨a, c, rfl, _⟩ := hr.form
  obtain ⟨n, hnn⟩ : ∃ n, n = vs.length := ⟨_, rfl⟩
  rw [← hnn] at hr hn ⊢
  have HN := Lib.hid hnn
  have HR := Lib.hid hr
  have HA := Lib.hid hmono
  have HC := Lib.hid (fun (x : Vx) (w : World) => gcmp_below x p n0 w)
  obtain ⟨q4, hq4⟩ : ∃ q4, q4 = w.heap.size := ⟨_, rfl⟩
  obtain ⟨W0, hW0⟩ : ∃ W0, W0 = w.alloc (.cells #[.string p, .int .i64 n0] 24) := ⟨_, rfl⟩
  obtain ⟨k1, kb, ks⟩ := boxA1 (Below.refl _ (w.alloc (.cells #[.string p, .int .i64 n0] 24)))
  rw [← hW0] at k1 kb ks
  rw [← hq4] at k1
  have HQ4 := Lib.hid hq4
  have HW0 := Lib.hid hW0
  have HKB := Lib.hid kb
  have HK0 := Lib.hid (show W0.cell? ⟨q4, 0, none⟩ = some (.string p) ∧ W0.cell? ⟨q4, 1, none⟩ = some (.int .i64 n0) from ⟨k1 0, k1 1⟩)
  clear hnn hr hmono hq4 hW0 k1 kb ks
  go_enter Tryz.func35, Tryz.ntmps35
  go_wp2_with fail
  rw [← HQ4.out]
  rw [← HW0.out]
  go_loopw [9, 10] (fun s7 s8 wr => ∃ lo hi : Nat, s7 = .int .i64 (lo : Nat) ∧ s8 = .int .i64 (hi : Nat) ∧ lo ≤ hi ∧ hi ≤ n ∧ Hid (Below W0.heap.size W0 wr) ∧ Hid (∀ t y, t < lo → vs[t]? = some y → cmpV y p n0 < 0) ∧ Hid (∀ t y, hi ≤ t → vs[t]? = some y → 0 ≤ cmpV y p n0)) (fun s7 s8 _ => (intOf s8).toNat - (intOf s7).toNat)
  case atStart => exact ⟨0, n, rfl, rfl, Nat.zero_le _, Nat.le_refl _, Lib.hid (Below.refl _ _), Lib.hid (fun t y ht => absurd ht (Nat.not_lt_zero _)), Lib.hid (fun t y ht hy => by have := (List.getElem?_eq_some_iff.1 hy).1; have := HN.out; omega)⟩
  case round =>
    obtain ⟨lo, hi, rfl, rfl, hlh, hin, HB, HLO, HHI⟩ := hrel
    have hbw : Below w.heap.size w wr := HKB.out.trans (HB.out.mono HKB.out.size)
    have hc0 : wr.cell? ⟨q4, 0, none⟩ = some (.string p) := (HB.out.cell (p := ⟨q4, 0, none⟩) (cell_lt HK0.out.1)).trans HK0.out.1
    have hc1 : wr.cell? ⟨q4, 1, none⟩ = some (.int .i64 n0) := (HB.out.cell (p := ⟨q4, 1, none⟩) (cell_lt HK0.out.2)).trans HK0.out.2
    by_cases hlt : lo < hi
    · obtain ⟨m, hm⟩ : ∃ m, m = (lo + hi) / 2 := ⟨_, rfl⟩
      have hmm : ((lo : Int) + (hi : Int)) / 2 = (m : Int) := by omega
      obtain ⟨y, hy⟩ : ∃ y, vs[m]? = some y := ⟨vs[m]'(by have := HN.out; omega), by simp⟩
      obtain ⟨vb, vo, rfl, hvl, hVA⟩ := (HR.out.below hbw).at hy
      have hst : BsC vb (vo + m * 8) q4 y p n0 wr.drew := BsC.of (W := wr.drew) hVA hc0 hc1
      have HST := Lib.hid hst
      have hml : lo ≤ m := by omega
      have hmh : m < hi := by omega
      obtain ⟨cv, hcv⟩ : ∃ cv, cv = cmpV y p n0 := ⟨_, rfl⟩
      have HCL : Hid (∀ W, Calls Tryz.prog 36 #[.agg #[.string y.pn, .int .i64 y.n, .string y.line, .int .i64 y.del, .string y.ap, .int .i64 y.an, .string y.bp, .int .i64 y.bn], .agg #[.string p, .int .i64 n0]] W fun e w' => e = .returned (.int .i64 cv) ∧ Below W.heap.size W w') := Lib.hid (fun W => by rw [hcv]; exact HC.out y W)
      have HY := Lib.hid hy
      have HCV := Lib.hid hcv
      obtain ⟨bt, hbt⟩ : ∃ bt, bt = decide (cv < 0) := ⟨_, rfl⟩
      have HBT := Lib.hid hbt
      have hL2 : bt = true → Hid (∀ t z, t < m + 1 → vs[t]? = some z → cmpV z p n0 < 0) := fun h => Lib.hid (fun t z ht hz => by
        have hneg : cmpV y p n0 < 0 := by rw [← hcv]; rw [hbt] at h; exact of_decide_eq_true h
        rcases Nat.lt_or_ge t m with h2 | h2
        · exact HA.out t m z y h2 hz hy hneg
        · obtain rfl : t = m := by omega
          rw [hy] at hz; cases hz; exact hneg)
      have hH2 : bt = false → Hid (∀ t z, m ≤ t → vs[t]? = some z → 0 ≤ cmpV z p n0) := fun h => Lib.hid (fun t z ht hz => by
        have hnn : 0 ≤ cmpV y p n0 := by rw [← hcv]; rw [hbt] at h; exact Int.not_lt.1 (of_decide_eq_false h)
        rcases Nat.lt_or_ge m t with h2 | h2
        · exact Int.not_lt.1 fun h3 => absurd (HA.out m t y z h2 hy hz h3) (by omega)
        · obtain rfl : t = m := by omega
          rw [hy] at hz; cases hz; exact hnn)
      have HL2 := Lib.hid hL2
      have HH2 := Lib.hid hH2
      have hmn0 : (0 : Int) ≤ (m : Int) := by omega
      have hmn1 : (m : Int) < (n : Int) := by omega
      obtain ⟨s0, hs0⟩ : ∃ s0, s0 = wr.drew.heap.size := ⟨_, rfl⟩
      have HKP : Hid (∀ W W', BsC vb (vo + m * 8) q4 y p n0 W → Below W.heap.size W W' → BsC vb (vo + m * 8) q4 y p n0 W') := Lib.hid (fun W W' h hb => h.below hb)
      obtain ⟨pn, yn, ln, dl, ap, an, bp, bn⟩ := y
      simp only at hst HST HCL HKP
      clear hy hm hVA hvl hcv hL2 hH2 hbt hs0
      go_wp2_with fail
      go_region_held3 (fun W => (W.cell? ⟨vb, vo + m * 8, none⟩ = some (.string pn) ∧ W.cell? ⟨vb, vo + m * 8 + 1, none⟩ = some (.int .i64 yn) ∧ W.cell? ⟨vb, vo + m * 8 + 2, none⟩ = some (.string ln) ∧ W.cell? ⟨vb, vo + m * 8 + 3, none⟩ = some (.int .i64 dl) ∧ W.cell? ⟨vb, vo + m * 8 + 4, none⟩ = some (.string ap) ∧ W.cell? ⟨vb, vo + m * 8 + 5, none⟩ = some (.int .i64 an) ∧ W.cell? ⟨vb, vo + m * 8 + 6, none⟩ = some (.string bp) ∧ W.cell? ⟨vb, vo + m * 8 + 7, none⟩ = some (.int .i64 bn)) ∧ W.cell? ⟨q4, 0, none⟩ = some (.string p) ∧ W.cell? ⟨q4, 1, none⟩ = some (.int .i64 n0))
        (first | with_reducible exact HST.out | with_reducible exact HKP.out _ _ HST.out HB7.out)
        (first | (go_at_call 36; (with_reducible refine (HCL.out _).mono ?_); rintro e w7 ⟨rfl, hb7⟩; have HB7 := Lib.hid hb7; clear hb7))
      rename_i hHeld
      clear hHeld
      have HB8 := Lib.hid (HB.out.trans ((show Below wr.heap.size wr w7 from ⟨HB7.out.os, HB7.out.tape, HB7.out.output, HB7.out.size, HB7.out.block⟩).mono HB.out.size))
      rw [← HBT.out]
      cases bt with
      | true =>
        have HL3 := HL2.out rfl
        clear HL2 HH2
        go_wp2_with fail
        exact ⟨⟨m + 1, hi, by go_num, rfl, by omega, hin, HB8, HL3, HHI⟩, by simp [intOf]; omega⟩
      | false =>
        have HH3 := HH2.out rfl
        clear HL2 HH2
        go_wp2_with fail
        exact ⟨⟨lo, m, rfl, rfl, by omega, by omega, HB8, HLO, HH3⟩, by simp [intOf]; omega⟩
    · obtain rfl : lo = hi := by omega
      by_cases hln : lo < n
      · have d1 : decide ((lo : Int) < (n : Int)) = true := decide_eq_true (by omega)
        obtain ⟨y, hy⟩ : ∃ y, vs[lo]? = some y := ⟨vs[lo]'(by have := HN.out; omega), by simp⟩
        obtain ⟨vb, vo, rfl, hvl, hVA⟩ := (HR.out.below hbw).at hy
        have hst : BsC vb (vo + lo * 8) q4 y p n0 wr.drew := BsC.of (W := wr.drew) hVA hc0 hc1
        have HST := Lib.hid hst
        obtain ⟨cv, hcv⟩ : ∃ cv, cv = cmpV y p n0 := ⟨_, rfl⟩
        have HCL : Hid (∀ W, Calls Tryz.prog 36 #[.agg #[.string y.pn, .int .i64 y.n, .string y.line, .int .i64 y.del, .string y.ap, .int .i64 y.an, .string y.bp, .int .i64 y.bn], .agg #[.string p, .int .i64 n0]] W fun e w' => e = .returned (.int .i64 cv) ∧ Below W.heap.size W w') := Lib.hid (fun W => by rw [hcv]; exact HC.out y W)
        have hhit : hitV vs p n0 lo = decide (cv = 0) := by unfold hitV; rw [hy, hcv]
        have hbeq : (cv == 0) = decide (cv = 0) := by by_cases e : cv = 0 <;> simp [e]
        have HH := Lib.hid (hhit.trans hbeq.symm)
        have HKP : Hid (∀ W W', BsC vb (vo + lo * 8) q4 y p n0 W → Below W.heap.size W W' → BsC vb (vo + lo * 8) q4 y p n0 W') := Lib.hid (fun W W' h hb => h.below hb)
        obtain ⟨pn, yn, ln, dl, ap, an, bp, bn⟩ := y
        simp only at hst HST HCL HKP
        clear hy hVA hvl hcv hhit hbeq
        go_wp2_with fail
        go_region_held3 (fun W => (W.cell? ⟨vb, vo + lo * 8, none⟩ = some (.string pn) ∧ W.cell? ⟨vb, vo + lo * 8 + 1, none⟩ = some (.int .i64 yn) ∧ W.cell? ⟨vb, vo + lo * 8 + 2, none⟩ = some (.string ln) ∧ W.cell? ⟨vb, vo + lo * 8 + 3, none⟩ = some (.int .i64 dl) ∧ W.cell? ⟨vb, vo + lo * 8 + 4, none⟩ = some (.string ap) ∧ W.cell? ⟨vb, vo + lo * 8 + 5, none⟩ = some (.int .i64 an) ∧ W.cell? ⟨vb, vo + lo * 8 + 6, none⟩ = some (.string bp) ∧ W.cell? ⟨vb, vo + lo * 8 + 7, none⟩ = some (.int .i64 bn)) ∧ W.cell? ⟨q4, 0, none⟩ = some (.string p) ∧ W.cell? ⟨q4, 1, none⟩ = some (.int .i64 n0))
          (first | with_reducible exact HST.out | with_reducible exact HKP.out _ _ HST.out HB7.out)
          (first | (go_at_call 36; (with_reducible refine (HCL.out _).mono ?_); rintro e w7 ⟨rfl, hb7⟩; have HB7 := Lib.hid hb7; clear hb7))
        all_goals
          rename_i hHeld
          clear hHeld
          have HB8 := Lib.hid (HKB.out.trans ((HB.out.trans ((show Below wr.heap.size wr w7 from ⟨HB7.out.os, HB7.out.tape, HB7.out.output, HB7.out.size, HB7.out.block⟩).mono HB.out.size)).mono HKB.out.size))
          go_wp2_with fail
          go_ret2
          exact ⟨⟨lo, by rw [HH.out]; rfl, hin, HLO.out, HHI.out⟩, HB8.out⟩
      · have d1 : decide ((lo : Int) < (n : Int)) = false := decide_eq_false (by omega)
        have hhit : hitV vs p n0 lo = false := by unfold hitV; rw [List.getElem?_eq_none (by have := HN.out; omega)]
        have HH := Lib.hid hhit
        have HB8 := Lib.hid hbw
        clear hhit
        go_wp2_with fail
        first
          | (go_ret2; exact ⟨⟨lo, by rw [HH.out]; rfl, hin, HLO.out, HHI.out⟩, HB8.out⟩)
          | (go_quiet (fail)
             go_wp2_with fail
             go_ret2
             exact ⟨⟨lo, by rw [HH.out]; rfl, hin, HLO.out, HHI.out⟩, below_dn HB8.out⟩)
end Go.Proofs.YtojnagonhihknaaGreatDoor
set_option linter.unusedVariables false
set_option linter.unusedSimpArgs false
namespace Go.Proofs.YtojnagonhihknaaGreatDoor
open Go.ChangeShapes Go.WideShapes Go.ChangeAt Go.RowKit

theorem cmpB_eq : ∀ a b : List UInt8, Lib.compareBytes a b = 0 ↔ a = b
  | [], [] => by simp [Lib.compareBytes]
  | [], b :: bs => by simp [Lib.compareBytes]
  | a :: la, [] => by simp [Lib.compareBytes]
  | a :: la, b :: lb => by
    unfold Lib.compareBytes
    by_cases h1 : a < b
    · rw [if_pos h1]
      exact ⟨fun h => absurd h (by decide), fun h => by injection h with h _; rw [h] at h1; exact absurd h1 (UInt8.lt_irrefl _)⟩
    · rw [if_neg h1]
      by_cases h2 : b < a
      · rw [if_pos h2]
        exact ⟨fun h => absurd h (by decide), fun h => by injection h with h _; rw [h] at h2; exact absurd h2 (UInt8.lt_irrefl _)⟩
      · rw [if_neg h2, cmpB_eq la lb]
        have e : a = b := UInt8.le_antisymm (UInt8.not_lt.1 h2) (UInt8.not_lt.1 h1)
        exact ⟨fun h => by rw [e, h], fun h => by injection h⟩
theorem cmpN_eq (a b : ByteArray) : cmpN a b = 0 ↔ a = b := by
  unfold cmpN
  rw [cmpB_eq]
  exact ⟨fun h => ba_ext h, fun h => by rw [h]⟩
theorem cmpV_lt (v : GVx ByteArray) (i : ByteArray × Nat) : cmpV (vxG v) i.1 (i.2 : Int) < 0 ↔ idLt ltB v.id i := by
  unfold cmpV idLt ltB
  show (if cmpN v.id.1 i.1 = 0 then cmpI (v.id.2 : Int) (i.2 : Int) else cmpN v.id.1 i.1) < 0 ↔ _
  by_cases h : cmpN v.id.1 i.1 = 0
  · rw [if_pos h]
    have e := (cmpN_eq _ _).1 h
    unfold cmpI
    rw [e]
    constructor
    · intro h2
      right
      refine ⟨rfl, ?_⟩
      split at h2
      · omega
      · split at h2 <;> omega
    · rintro (h2 | ⟨_, h2⟩)
      · exact absurd h2 (List.lt_irrefl _)
      · rw [if_pos (by omega)]; omega
  · rw [if_neg h]
    have hne : v.id.1 ≠ i.1 := fun e => h ((cmpN_eq _ _).2 e)
    constructor
    · intro h2
      exact .inl ((cmpB_lt _ _).1 h2)
    · rintro (h2 | ⟨h2, _⟩)
      · exact (cmpB_lt _ _).2 h2
      · exact absurd h2 hne
theorem cmpV_zero (v : GVx ByteArray) (i : ByteArray × Nat) : cmpV (vxG v) i.1 (i.2 : Int) = 0 ↔ v.id = i := by
  unfold cmpV
  show (if cmpN v.id.1 i.1 = 0 then cmpI (v.id.2 : Int) (i.2 : Int) else cmpN v.id.1 i.1) = 0 ↔ _
  by_cases h : cmpN v.id.1 i.1 = 0
  · rw [if_pos h]
    have e := (cmpN_eq _ _).1 h
    unfold cmpI
    constructor
    · intro h2
      refine Prod.ext e ?_
      split at h2
      · omega
      · split at h2
        · omega
        · omega
    · intro h2
      rw [h2, if_neg (by omega), if_neg (by omega)]
  · rw [if_neg h]
    exact ⟨fun h2 => absurd h2 h, fun h2 => absurd ((cmpN_eq _ _).2 (by rw [h2])) h⟩
theorem idLt_trans {i j k : ByteArray × Nat} (h1 : idLt ltB i j) (h2 : idLt ltB j k) : idLt ltB i k := by
  unfold idLt ltB at *
  rcases h1 with h1 | ⟨e1, h1⟩
  · rcases h2 with h2 | ⟨e2, h2⟩
    · exact .inl (List.lt_trans h1 h2)
    · exact .inl (by rw [← e2]; exact h1)
  · rcases h2 with h2 | ⟨e2, h2⟩
    · exact .inl (by rw [e1]; exact h2)
    · exact .inr ⟨e1.trans e2, by omega⟩
theorem rise_mono {V : List (GVx ByteArray)} (hr : (V.map (·.id)).Pairwise (idLt ltB)) (i0 : ByteArray × Nat) : ∀ (i j : Nat) x y, i < j → (V.map vxG)[i]? = some x → (V.map vxG)[j]? = some y → cmpV y i0.1 (i0.2 : Int) < 0 → cmpV x i0.1 (i0.2 : Int) < 0 := fun i j x y hij hx hy h => by
  rw [List.getElem?_map] at hx hy
  obtain ⟨u, hu, rfl⟩ := Option.map_eq_some_iff.1 hx
  obtain ⟨v, hv, rfl⟩ := Option.map_eq_some_iff.1 hy
  rw [cmpV_lt] at h ⊢
  obtain ⟨h1, e1⟩ := List.getElem?_eq_some_iff.1 hu
  obtain ⟨h2, e2⟩ := List.getElem?_eq_some_iff.1 hv
  have := List.pairwise_iff_getElem.1 hr i j (by simpa using h1) (by simpa using h2) hij
  rw [List.getElem_map, List.getElem_map, e1, e2] at this
  exact idLt_trans this h
set_option maxHeartbeats 2000000 in
set_option maxRecDepth 100000 in
theorem gplaceF_any (V : List (GVx ByteArray)) (hrise : (V.map (·.id)).Pairwise (idLt ltB)) (hn : V.length ≤ 1000000) {k : Nat} {u : GVx ByteArray} (hk : V[k]? = some u) (v ev : Value) (w : World) (hv : VReads w v (V.map vxG)) :
    Calls Tryz.prog 13 #[.agg #[v, ev], .agg #[.string u.id.1, .int .i64 (u.id.2 : Int)]] w fun e w' => e = .returned (.int .i64 (k : Int)) ∧ Below w.heap.size w w' := by
  obtain ⟨a, c, rfl, _⟩ := hv.form
  obtain ⟨n, hnn⟩ : ∃ n, n = (V.map vxG).length := ⟨_, rfl⟩
  have hb2 := two_boxes w (.cells #[.slice a (V.map vxG).length c, ev] 30) (.cells #[.string u.id.1, .int .i64 (u.id.2 : Int)] 24)
  have hbs := gbsf_any (V.map vxG) _ u.id.1 (u.id.2 : Int) _ (hv.below hb2) (rise_mono hrise u.id) (by rw [List.length_map]; exact hn)
  have hlt := (List.getElem?_eq_some_iff.1 hk).1
  have hhit : ∀ i : Nat, (∀ t y, t < i → (V.map vxG)[t]? = some y → cmpV y u.id.1 (u.id.2 : Int) < 0) → (∀ t y, i ≤ t → (V.map vxG)[t]? = some y → 0 ≤ cmpV y u.id.1 (u.id.2 : Int)) → i = k ∧ hitV (V.map vxG) u.id.1 (u.id.2 : Int) i = true := fun i h1 h2 => by
    have hkx : (V.map vxG)[k]? = some (vxG u) := by rw [List.getElem?_map, hk]; rfl
    have hz : cmpV (vxG u) u.id.1 (u.id.2 : Int) = 0 := (cmpV_zero u u.id).2 rfl
    have hik : i = k := by
      rcases Nat.lt_trichotomy i k with h | h | h
      · exfalso
        have hil : i < V.length := by omega
        have hxi : (V.map vxG)[i]? = some (vxG V[i]) := by rw [List.getElem?_map, List.getElem?_eq_getElem hil]; rfl
        have h3 := h2 i _ (Nat.le_refl _) hxi
        have h4 := List.pairwise_iff_getElem.1 hrise i k (by simpa using hil) (by simpa using hlt) h
        rw [List.getElem_map, List.getElem_map, (List.getElem?_eq_some_iff.1 hk).2] at h4
        have := (cmpV_lt V[i] u.id).2 h4
        omega
      · exact h
      · exfalso
        have := h1 k _ h hkx
        omega
    subst hik
    exact ⟨rfl, by unfold hitV; rw [hkx]; exact decide_eq_true hz⟩
  rw [← hnn] at hbs hv hb2 ⊢
  have HBS := Lib.hid hbs
  have HHIT := Lib.hid hhit
  have HB2 := Lib.hid hb2
  obtain ⟨p, hp⟩ : ∃ p, p = u.id.1 := ⟨_, rfl⟩
  obtain ⟨m, hm⟩ : ∃ m, m = (u.id.2 : Int) := ⟨_, rfl⟩
  rw [← hp, ← hm] at HBS HHIT
  rw [← hp, ← hm] at HB2 ⊢
  obtain ⟨w2, hw2⟩ : ∃ w2, w2 = (w.alloc (.cells #[.slice a n c, ev] 30)).alloc (.cells #[.string p, .int .i64 m] 24) := ⟨_, rfl⟩
  have HW2 := Lib.hid hw2
  rw [← hw2] at HBS HB2
  clear hbs hhit hb2 hv hnn hk hlt hp hm hw2
  go_enter Tryz.func13, Tryz.ntmps13
  go_wp2_with fail
  rw [← HW2.out]
  refine HBS.out.mono ?_
  rintro e w3 ⟨⟨i, rfl, _, h1, h2⟩, hb3⟩
  obtain ⟨rfl, hh⟩ := HHIT.out i h1 h2
  rw [hh]
  have HB3 := Lib.hid (HB2.out.trans (hb3.mono HB2.out.size))
  clear h1 h2 hh hb3
  go_wp2_with fail
  go_ret
  exact ⟨rfl, HB3.out⟩
theorem VAt.cells {w : World} {b o : Nat} {x : Vx} (h : VAt w b o x) : w.cell? ⟨b, o, none⟩ = some (.string x.pn) ∧ w.cell? ⟨b, o + 1, none⟩ = some (.int .i64 x.n) ∧ w.cell? ⟨b, o + 2, none⟩ = some (.string x.line) ∧ w.cell? ⟨b, o + 3, none⟩ = some (.int .i64 x.del) ∧ w.cell? ⟨b, o + 4, none⟩ = some (.string x.ap) ∧ w.cell? ⟨b, o + 5, none⟩ = some (.int .i64 x.an) ∧ w.cell? ⟨b, o + 6, none⟩ = some (.string x.bp) ∧ w.cell? ⟨b, o + 7, none⟩ = some (.int .i64 x.bn) :=
  ⟨h 0 _ rfl, h 1 _ rfl, h 2 _ rfl, h 3 _ rfl, h 4 _ rfl, h 5 _ rfl, h 6 _ rfl, h 7 _ rfl⟩
set_option maxHeartbeats 4000000 in
set_option maxRecDepth 100000 in
theorem gsame_any (vs : List Vx) (es : Ed) (v1 e1 v2 e2 : Value) (w : World) (h1 : VReads w v1 vs) (h2 : VReads w v2 vs) (g1 : RE w e1 es) (g2 : RE w e2 es) :
    Calls Tryz.prog 11 #[.agg #[v1, e1], .agg #[v2, e2]] w fun e w' => e = .returned (.bool true) ∧ Below w.heap.size w w' := by
  obtain ⟨a1, c1, rfl, hl1⟩ := h1.form
  obtain ⟨a2, c2, rfl, _⟩ := h2.form
  obtain ⟨b1, d1, rfl⟩ := g1.form
  obtain ⟨b2, d2, rfl⟩ := g2.form
  obtain ⟨n, hnn⟩ : ∃ n, n = vs.length := ⟨_, rfl⟩
  obtain ⟨m, hmm⟩ : ∃ m, m = es.length := ⟨_, rfl⟩
  rw [← hnn] at h1 h2 hl1 ⊢
  rw [← hmm] at g1 g2 ⊢
  obtain ⟨W, hW⟩ : ∃ W, W = (w.alloc (.cells #[.slice a1 n c1, .slice b1 m d1] 30)).alloc (.cells #[.slice a2 n c2, .slice b2 m d2] 30) := ⟨_, rfl⟩
  obtain ⟨q1, q2, qb, qs⟩ := boxA2 (Below.refl _ ((w.alloc (.cells #[.slice a1 n c1, .slice b1 m d1] 30)).alloc (.cells #[.slice a2 n c2, .slice b2 m d2] 30)))
  rw [← hW] at q1 q2 qb qs
  obtain ⟨s, hs⟩ : ∃ s, s = w.heap.size := ⟨_, rfl⟩
  rw [← hs] at q1 q2
  have x0 := q1 0
  have x1 := q1 1
  have y0 := q2 0
  have y1 := q2 1
  have H1 := Lib.hid (h1.below qb)
  have H2 := Lib.hid (h2.below qb)
  have G1 := Lib.hid (g1.below qb)
  have G2 := Lib.hid (g2.below qb)
  have HB := Lib.hid qb
  have HN := Lib.hid hnn
  have HM := Lib.hid hmm
  have HW := Lib.hid hW
  have HS := Lib.hid hs
  have hm9 : m ≤ 9223372036854775807 := by
    rcases g1 with ⟨e, _⟩ | ⟨_, b, o, c, _, h, h2, _⟩
    · rw [hmm, e]; exact Nat.zero_le _
    · unfold maxLen at h2; omega
  clear h1 h2 g1 g2 qb hnn hmm hW hs q1 q2 qs
  go_enter Tryz.func11, Tryz.ntmps11
  go_wp2_with fail
  rw [← HS.out]
  rw [← HW.out]
  go_loopw [5] (fun iv wr => ∃ i d : Nat, i ≤ n ∧ iv = .int .i64 (i : Nat) ∧ wr = W.drewN d) (fun iv _ => n - (intOf iv).toNat)
  case atStart => exact ⟨0, 0, Nat.zero_le _, rfl, rfl⟩
  case round =>
    obtain ⟨i, d, hi, rfl, rfl⟩ := hrel
    by_cases hlt : i < n
    · obtain ⟨x, hx⟩ : ∃ x, vs[i]? = some x := ⟨vs[i]'(by rw [← HN.out]; exact hlt), by simp⟩
      obtain ⟨p1, o1, rfl, _, hA1⟩ := H1.out.at hx
      obtain ⟨p2, o2, rfl, _, hA2⟩ := H2.out.at hx
      obtain ⟨k0, k1, k2, k3, k4, k5, k6, k7⟩ := hA1.cells
      obtain ⟨l0, l1, l2, l3, l4, l5, l6, l7⟩ := hA2.cells
      have hnq := neqVx x
      obtain ⟨pn, yn, ln, dl, ap, an, bp, bn⟩ := x
      simp only at k0 k1 k2 k3 k4 k5 k6 k7 l0 l1 l2 l3 l4 l5 l6 l7 hnq
      clear hx hA1 hA2
      go_wp2_with fail
      go_quiet (fail)
      go_wp2_with fail
      exact ⟨⟨i + 1, _, by omega, by go_num, rfl⟩, by simp [intOf]; omega⟩
    · have hin : i = n := by omega
      subst hin
      go_wp2_with fail
      go_loopw [6] (fun iv wr => ∃ j d : Nat, j ≤ m ∧ iv = .int .i64 (j : Nat) ∧ wr = W.drewN d) (fun iv _ => m - (intOf iv).toNat)
      case atStart => exact ⟨0, d, Nat.zero_le _, rfl, rfl⟩
      case round =>
        obtain ⟨j, d, hj, rfl, rfl⟩ := hrel
        by_cases hlj : j < m
        · obtain ⟨e, he⟩ : ∃ e, es[j]? = some e := ⟨es[j]'(by rw [← HM.out]; exact hlj), by simp⟩
          obtain ⟨p1, o1, rfl, _, _, _, k0, k1⟩ := G1.out.at he
          obtain ⟨p2, o2, rfl, _, _, _, l0, l1⟩ := G2.out.at he
          have hnq : ∀ w, (binOp .neq 54 (.agg #[.int .i64 e.1, .int .i64 e.2]) (.agg #[.int .i64 e.1, .int .i64 e.2])).run Tryz.prog w = .ok (.bool false) w := fun w => by rw [neqPr]; simp
          obtain ⟨y1', y2'⟩ := e
          simp only at k0 k1 l0 l1 hnq
          clear he
          go_wp2_with fail
          go_quiet (fail)
          go_wp2_with fail
          exact ⟨⟨j + 1, _, by omega, by go_num, rfl⟩, by simp [intOf]; omega⟩
        · go_wp2_with fail
          go_ret
          exact ⟨rfl, below_dn HB.out⟩
end Go.Proofs.YtojnagonhihknaaGreatDoor
set_option linter.unusedVariables false
set_option linter.unusedSimpArgs false
namespace Go.Proofs.YtojnagonhihknaaGreatDoor

abbrev bX : ByteArray := ⟨#[120]⟩
def op7 : Opp := ⟨1, ⟨-1, 0⟩, ⟨-1, 1⟩, [⟨#[97]⟩, ⟨#[98]⟩]⟩
def p7 : Pt := ⟨⟨#[]⟩, [], [op7]⟩
def S7 : SetP := [(bX, p7)]
theorem wfI7 {n : Int} (h : -1000000000 ≤ n) (k : n ≤ 1000000000) : wfI n := ⟨by omega, by omega⟩
theorem p7_fine : p7.fine := by
  refine ⟨fun o ho => ?_, by decide, fun x hx => by simp [p7] at hx, fun o ho x hx => ?_⟩
  · have e : o = op7 := by simpa [p7] using ho
    subst e
    exact ⟨wfI7 (by decide) (by decide), ⟨wfI7 (by decide) (by decide), wfI7 (by decide) (by decide)⟩, ⟨wfI7 (by decide) (by decide), wfI7 (by decide) (by decide)⟩⟩
  · have e : o = op7 := by simpa [p7] using ho
    subst e
    have e : x = ⟨#[97]⟩ ∨ x = ⟨#[98]⟩ := by simpa [op7] using hx
    rcases e with rfl | rfl <;> decide
theorem S7_fine : S7.fine := by
  refine ⟨by decide, fun p hp => ?_⟩
  have e : p = (bX, p7) := by simpa [S7] using hp
  subst e
  refine ⟨p7_fine, by decide, by decide, by decide, fun o ho => ?_⟩
  have e : o = op7 := by simpa [p7] using ho
  subst e
  decide
theorem S7_small : SmallG S7 := ⟨by unfold SmallW; decide, by decide⟩
theorem right7 : rightP p7 = true := by
  have h4 : opsR p7.deps.length 0 p7.ops = true := by decide
  have hl : ∀ o ∈ p7.ops, ∀ x ∈ o.lines, x.size ≤ 500 := fun o ho x hx => by
    have e : o = op7 := by simpa [p7] using ho
    subst e
    have e : x = ⟨#[97]⟩ ∨ x = ⟨#[98]⟩ := by simpa [op7] using hx
    rcases e with rfl | rfl <;> decide
  rw [rightP_of (by decide) (by decide) (risB_iff.2 ⟨by decide, fun j hj => by simp [p7] at hj⟩) h4 (by decide), decide_eq_true_eq]
  have hb := Tm.bytes_le (ptT p7)
  have ht := ptT_texts (p := p7) p7_fine.wf (by decide) (fun x hx => by simp [p7] at hx) hl
  have hp := ptT_parts p7
  have e1 : p7.deps.length = 0 := rfl
  have e2 : p7.ops.length = 1 := rfl
  have e3 : linesN p7.ops = 2 := rfl
  rw [e1, e2, e3] at ht hp
  omega
theorem s7_ns : nsB (sdeps S7) = [[120]] := by
  refine asc_unique (nsB_spec _).1 ?_ (fun x => ?_)
  · show List.Pairwise (· < ·) _
    decide
  · rw [(nsB_spec _).2]
    have : ((sdeps S7).map fun p => bsOf p.1) = [[120]] := rfl
    rw [this]
def need7 : Int → List Int := needB [[120]] [([120], [])]
theorem s7_need : needS (sdeps S7) = need7 := by
  unfold needS need7
  rw [s7_ns]
  rfl
theorem s7_reach : ReachK need7 1 [0] := by
  have h0 : ReachK need7 1 [] := .nil
  have h1 : ReachK need7 1 ([] ++ [((0 : Nat) : Int)]) := .step h0 (by decide)
  exact h1
theorem s7_lin {out : Lb} {k : Int} (h : LinR (sdeps S7) out k) : k = 0 := by
  have hl : (nsB (sdeps S7)).length = 1 := by rw [s7_ns]; rfl
  have hs : (sdeps S7).length = 1 := rfl
  rcases h with ⟨h, _, _⟩ | ⟨_, told, hre, hnx, h⟩
  · rw [hl, hs] at h; omega
  · rw [s7_need, hl] at hre hnx
    have he := reach_end hre s7_reach hnx (by decide)
    subst he
    rcases h with ⟨h, _, _⟩ | ⟨_, h, hk⟩
    · rw [hs] at h; simp at h
    · exact hk
theorem s7_nolack : NoLack S7 := fun p hp => by
  have e : p = (bX, p7) := by simpa [S7] using hp
  subst e
  simp [lackP, p7, op7, refsG, lackR]
theorem s7_wrong : S7.any wrongG = false := by
  have : wrongG (bX, p7) = false := by
    unfold wrongG
    rw [right7]
    decide
  simp [S7, this]
theorem s7_build {k : Int} (h : BuildR S7 k) : k = 0 := by
  obtain ⟨out, k1, hL, h⟩ := h
  have hk1 := s7_lin hL
  have hw := s7_wrong
  have hn := s7_nolack
  rcases h with ⟨h1, _⟩ | ⟨_, h2, _⟩ | ⟨_, _, h2, _⟩ | ⟨_, _, _, h2⟩
  · exact absurd hk1 h1
  · rw [hw] at h2; cases h2
  · exact absurd hn h2
  · exact h2
def M7 : GSet ByteArray := [(bX, [⟨1, (nil0, 0), (nil0, 1), [⟨#[97]⟩, ⟨#[98]⟩]⟩])]
theorem m7_is : gsetS S7 = M7 := rfl
theorem bX_ne : bX ≠ nil0 := by decide
theorem m7_ids : idsR nil0 M7 = [(nil0, 0), (nil0, 1), (bX, 0), (bX, 1)] := rfl
theorem s7_graph {V : List (GVx ByteArray)} {E : List (Nat × Nat)} (h : GraphS ltB nil0 (gsetS S7) V E) : V.length = 4 ∧ E.length = 3 ∧ aliveV (V.map vxG) 2 = true ∧ ∃ v, V[3]? = some v ∧ v.id = (bX, 1) := by
  rw [m7_is] at h
  have hne := bX_ne
  have hid : V.map (·.id) = [(nil0, 0), (nil0, 1), (bX, 0), (bX, 1)] := by
    rw [← m7_ids]
    refine rise_same (idLt_asymm ltB_asymm) h.rise (idsR_rise (fun x hx => ?_) ?_) (fun i => (h.ids i).trans idsR_mem.symm)
    · have e : x = (bX, [⟨1, (nil0, 0), (nil0, 1), [⟨#[97]⟩, ⟨#[98]⟩]⟩]) := by simpa [M7] using hx
      rw [e]
      exact ltB_nil hne
    · exact List.pairwise_singleton _ _
  have hlen : V.length = 4 := by have := congrArg List.length hid; simpa using this
  have hat : ∀ (j : Nat) i, [(nil0, 0), (nil0, 1), (bX, 0), (bX, 1)][j]? = some i → ∃ v, V[j]? = some v ∧ v.id = i := fun j i hj => by
    rw [← hid, List.getElem?_map] at hj
    exact Option.map_eq_some_iff.1 hj
  have hput : putI bX 0 [⟨1, (nil0, 0), (nil0, 1), [⟨#[97]⟩, ⟨#[98]⟩]⟩] = [((nil0, 0), (bX, 0)), ((bX, 0), (bX, 1)), ((bX, 1), (nil0, 1))] := rfl
  have hwt : ∀ i j, wtM M7 i j = 0 := fun i j => by simp [wtM, opsL, M7]
  have hdl : ∀ i, delM M7 i = 0 := fun i => by simp [delM, opsL, M7]
  have hedge : ∀ i j, edgeI M7 i j ↔ (i, j) ∈ [((nil0, 0), (bX, 0)), ((bX, 0), (bX, 1)), ((bX, 1), (nil0, 1))] := fun i j => by
    unfold edgeI
    rw [hwt]
    constructor
    · rintro (⟨x, hx, h2⟩ | h2)
      · have e : x = (bX, [⟨1, (nil0, 0), (nil0, 1), [⟨#[97]⟩, ⟨#[98]⟩]⟩]) := by simpa [M7] using hx
        rw [e] at h2
        rw [hput] at h2
        exact h2
      · omega
    · intro h2
      refine .inl ⟨(bX, [⟨1, (nil0, 0), (nil0, 1), [⟨#[97]⟩, ⟨#[98]⟩]⟩]), by simp [M7], ?_⟩
      show (i, j) ∈ putI bX 0 [⟨1, (nil0, 0), (nil0, 1), [⟨#[97]⟩, ⟨#[98]⟩]⟩]
      rw [hput]
      exact h2
  have hE : E = [(0, 2), (2, 3), (3, 1)] := by
    refine rise_same lexN_asymm h.lex (by unfold lexN; decide) (fun p => ?_)
    obtain ⟨a, b⟩ := p
    rw [h.edge]
    constructor
    · rintro ⟨u, v, hu, hv, he⟩
      rw [hedge] at he
      have hua : (V.map (·.id))[a]? = some u.id := by rw [List.getElem?_map, hu]; rfl
      have hvb : (V.map (·.id))[b]? = some v.id := by rw [List.getElem?_map, hv]; rfl
      rw [hid] at hua hvb
      have hnd : ([(nil0, 0), (nil0, 1), (bX, 0), (bX, 1)] : List (ByteArray × Nat)).Nodup := by decide
      have hpos : ∀ (j t : Nat) (i : ByteArray × Nat), t < 4 → [(nil0, 0), (nil0, 1), (bX, 0), (bX, 1)][t]? = some i → [(nil0, 0), (nil0, 1), (bX, 0), (bX, 1)][j]? = some i → j = t := fun j t i ht h1 h2 => ((List.getElem?_inj (by simpa using ht) hnd).1 (h1.trans h2.symm)).symm
      simp only [List.mem_cons, List.not_mem_nil, or_false, Prod.mk.injEq] at he
      rcases he with ⟨e1, e2⟩ | ⟨e1, e2⟩ | ⟨e1, e2⟩
      · rw [e1] at hua; rw [e2] at hvb
        rw [hpos a 0 _ (by omega) rfl hua, hpos b 2 _ (by omega) rfl hvb]; simp
      · rw [e1] at hua; rw [e2] at hvb
        rw [hpos a 2 _ (by omega) rfl hua, hpos b 3 _ (by omega) rfl hvb]; simp
      · rw [e1] at hua; rw [e2] at hvb
        rw [hpos a 3 _ (by omega) rfl hua, hpos b 1 _ (by omega) rfl hvb]; simp
    · intro h2
      simp only [List.mem_cons, List.not_mem_nil, or_false, Prod.mk.injEq] at h2
      rcases h2 with ⟨rfl, rfl⟩ | ⟨rfl, rfl⟩ | ⟨rfl, rfl⟩
      · obtain ⟨u, hu, eu⟩ := hat 0 _ rfl
        obtain ⟨v, hv, ev⟩ := hat 2 _ rfl
        exact ⟨u, v, hu, hv, (hedge _ _).2 (by rw [eu, ev]; simp)⟩
      · obtain ⟨u, hu, eu⟩ := hat 2 _ rfl
        obtain ⟨v, hv, ev⟩ := hat 3 _ rfl
        exact ⟨u, v, hu, hv, (hedge _ _).2 (by rw [eu, ev]; simp)⟩
      · obtain ⟨u, hu, eu⟩ := hat 3 _ rfl
        obtain ⟨v, hv, ev⟩ := hat 1 _ rfl
        exact ⟨u, v, hu, hv, (hedge _ _).2 (by rw [eu, ev]; simp)⟩
  refine ⟨hlen, by rw [hE]; rfl, ?_, hat 3 _ rfl⟩
  obtain ⟨v, hv, ev⟩ := hat 2 _ rfl
  have hd := h.del v (List.mem_of_getElem? hv)
  rw [hdl] at hd
  unfold aliveV
  have e2 : (V.map vxG)[(2 : Int).toNat]? = some (vxG v) := by rw [show (2 : Int).toNat = 2 from rfl, List.getElem?_map, hv]; rfl
  rw [e2]
  show (decide _ && (!decide (v.id.1 = ByteArray.empty) && decide (v.del ≤ 0))) = true
  rw [ev, hd]
  decide
end Go.Proofs.YtojnagonhihknaaGreatDoor
set_option linter.unusedVariables false
set_option linter.unusedSimpArgs false
namespace Go.Proofs.YtojnagonhihknaaGreatDoor
open Go.ChangeShapes Go.WideShapes Go.ChangeAt Go.RowKit

theorem eqNil7 (w : World) : (binOp .eql 32 .nilIface .nilIface).run Tryz.prog w = .ok (.bool true) w := by kernel_rfl
def s7W (w : World) : World := ((w.alloc (.cells #[.string ⟨#[97]⟩, .string ⟨#[98]⟩] 9)).alloc (.cells #[.int .i64 1, .int .i64 (-1), .int .i64 0, .int .i64 (-1), .int .i64 1, .slice (some ⟨w.heap.size, 0, none⟩) 2 2] 59)).alloc (.cells #[.string ⟨#[120]⟩, .string ⟨#[]⟩, .slice none 0 0, .slice (some ⟨w.heap.size + 1, 0, none⟩) 1 1] 49)
theorem s7_reads (w : World) : GReads (s7W w) (.slice (some ⟨w.heap.size + 1 + 1, 0, none⟩) 1 1) S7 ∧ Below w.heap.size w (s7W w) := by
  obtain ⟨q1, q2, q3, qb, qs⟩ := boxA3 (Below.refl _ (s7W w))
  unfold s7W at q1 q2 q3 qb qs ⊢
  refine ⟨.inr ⟨by simp [S7], w.heap.size + 1 + 1, 0, 1, rfl, Nat.le_refl _, by omega, by omega, fun j p hj => ?_⟩, qb⟩
  match j, hj with
  | 0, hj =>
    simp [S7] at hj
    subst hj
    refine ⟨.slice none 0 0, .slice (some ⟨w.heap.size + 1, 0, none⟩) 1 1, q3 0, q3 1, q3 2, q3 3, rfl, .inl ⟨rfl, none, 0, rfl⟩, .inr ⟨by simp [p7], w.heap.size + 1, 0, 1, rfl, Nat.le_refl _, by omega, by omega, fun j x hx => ?_⟩⟩
    match j, hx with
    | 0, hx =>
      simp [p7] at hx
      subst hx
      refine ⟨.slice (some ⟨w.heap.size, 0, none⟩) 2 2, q2 0, q2 1, q2 2, q2 3, q2 4, q2 5, .inr ⟨by simp [op7], w.heap.size, 0, 2, rfl, Nat.le_refl _, by omega, by omega, fun j x hx => ?_⟩⟩
      match j, hx with
      | 0, hx => simp [op7] at hx; subst hx; exact q1 0
      | 1, hx => simp [op7] at hx; subst hx; exact q1 1
      | j + 2, hx => simp [op7] at hx
    | j + 1, hx => simp [p7] at hx
  | j + 1, hj => simp [S7] at hj
set_option maxHeartbeats 4000000 in
set_option maxRecDepth 100000 in
theorem gawake_any (w : World) (ht : HasTab w) : Calls Tryz.prog 7 #[] w fun e w' => e = .returned (.bool true) ∧ Below w.heap.size w w' := by
  obtain ⟨hS, hB⟩ := s7_reads w
  have HBU := Lib.hid (gbuild_any S7 S7_fine S7_small _ _ hS (ht.below hB))
  have HB := Lib.hid hB
  have HW := Lib.hid (show s7W w = _ by unfold s7W; rfl)
  have e1 := eqNil7
  clear hS hB ht
  go_enter Tryz.func7, Tryz.ntmps7
  go_wp2_with fail
  rw [← HW.out]
  refine HBU.out.mono ?_
  rintro e w2 ⟨vv, ev, k, rfl, hbr, hb2, hok, _⟩
  obtain rfl := s7_build hbr
  obtain ⟨⟨V, E, hV, hE, hgr⟩, _⟩ := hok rfl
  obtain ⟨hl4, hl3, hal, v3, hv3, hid3⟩ := s7_graph hgr
  have h0 : errO 0 = .nilIface := by unfold errO; rw [if_pos rfl]
  rw [h0]
  have hvr : VReads w2 vv (V.map vxG) := VReads.ofRow (B := 0) (by rw [List.length_map]; exact hV)
  obtain ⟨va, vc, hvv, _⟩ := hvr.form
  obtain ⟨ea, ec, hev⟩ := hE.form
  have hel : (prI E).length = 3 := by unfold prI; rw [List.length_map, hl3]
  rw [List.length_map, hl4] at hvv
  rw [hel] at hev
  subst hvv hev
  obtain ⟨W3, hW3⟩ : ∃ W3, W3 = w2.alloc (.cells #[.slice va 4 vc, .slice ea 3 ec] 30) := ⟨_, rfl⟩
  obtain ⟨c1, cb, cs⟩ := boxA1 (Below.refl _ (w2.alloc (.cells #[.slice va 4 vc, .slice ea 3 ec] 30)))
  rw [← hW3] at c1 cb cs
  obtain ⟨q, hq⟩ : ∃ q, q = w2.heap.size := ⟨_, rfl⟩
  rw [← hq] at c1
  have g0 := c1 0
  have g1 := c1 1
  have hAL := alive_any (V.map vxG) (.slice va 4 vc) (.slice ea 3 ec) 2 W3 (hvr.below cb)
  rw [hal] at hAL
  have hPL : ∀ W, Below W3.heap.size W3 W → Calls Tryz.prog 13 #[.agg #[.slice va 4 vc, .slice ea 3 ec], .agg #[.string ⟨#[120]⟩, .int .i64 1]] W fun e w' => e = .returned (.int .i64 3) ∧ Below W.heap.size W w' := fun W hW => by
    have := gplaceF_any V hgr.rise (by omega) hv3 (.slice va 4 vc) (.slice ea 3 ec) W ((hvr.below cb).below hW)
    rw [hid3] at this
    exact this
  have HAL := Lib.hid hAL
  have HPL := Lib.hid hPL
  have HBW := Lib.hid (HB.out.trans (hb2.mono HB.out.size))
  have HCB := Lib.hid cb
  have HQ := Lib.hid hq
  have HW3 := Lib.hid hW3
  have HG := Lib.hid (show W3.cell? ⟨q, 0, none⟩ = some (.slice va 4 vc) ∧ W3.cell? ⟨q, 1, none⟩ = some (.slice ea 3 ec) from ⟨g0, g1⟩)
  clear hbr hb2 hok hV hE hgr hl4 hl3 hal hv3 hid3 h0 hvr hel hAL hPL hq hW3 c1 cb cs HBU HW
  go_wp2_with fail
  rw [← HQ.out]
  rw [← HW3.out]
  refine HAL.out.mono ?_
  rintro e w4 ⟨rfl, hb4⟩
  have k0 := (hb4.cell (p := ⟨q, 0, none⟩) (cell_lt g0)).trans g0
  have k1 := (hb4.cell (p := ⟨q, 1, none⟩) (cell_lt g1)).trans g1
  have HB4 := Lib.hid hb4
  clear hb4 g0 g1
  go_wp2_with fail
  refine (HPL.out w4 HB4.out).mono ?_
  rintro e w5 ⟨rfl, hb5⟩
  have HB5 := Lib.hid ((HBW.out.trans (HCB.out.mono HBW.out.size)).trans ((HB4.out.trans (hb5.mono HB4.out.size)).mono (Nat.le_trans HBW.out.size HCB.out.size)))
  clear hb5
  go_wp2_with fail
  go_ret
  exact ⟨rfl, HB5.out⟩
end Go.Proofs.YtojnagonhihknaaGreatDoor
