/- The program's look at one form: is it right by itself? The contract of the document's right: is a form right all through? The contract of the writer's form: a text. What the row's list gives: the library's table of powers of ten. -/
import Derived.Lib.LaidTab
import Derived.Stop.LaidErr
import Derived.Carry
import Derived.LaidHandle
import Derived.Test.YtojnagonhihknaaGreatDoorShelf
import Derived.Test.YtojnagonhihknaaGreatDoorU5
import Derived.Test.YtojnagonhihknaaGreatDoorU6
set_option linter.unusedVariables false
namespace Go.Proofs.YtojnagonhihknaaGreatDoor
open Go.ChangeShapes Go.WideShapes Go.ChangeAt Go.RowKit

def rightB (l : Bool) (t : ByteArray) (n : Nat) : Bool := if l then decide (t.size = 0) else decide (n = 0)

theorem toList_nil {t : ByteArray} (h : t.size = 0) : t.toList = [] := by
  rw [ByteArray.toList_eq]
  exact List.length_eq_zero_iff.1 (by rw [ba_len]; exact h)
theorem toList_ne {t : ByteArray} (h : ¬ t.size = 0) : t.toList ≠ [] := by
  rw [ByteArray.toList_eq]
  intro e
  have := ba_len t
  rw [e] at this
  exact h this.symm

theorem fright_any (l : Bool) (t : ByteArray) (a : Option Addr) (n c : Nat) (w : World) (hn : n ≤ maxLen) :
    Calls Tryz.prog 169 #[fv l t (.slice a n c)] w fun e w' => e = .returned (.bool (rightB l t n)) ∧ Below w.heap.size w w' := by
  unfold maxLen at hn
  cases l with
  | true =>
    have hr : rightB true t n = decide (t.size = 0) := rfl
    by_cases ht : t.size = 0
    · have e := toList_nil ht
      rw [hr, decide_eq_true ht]
      clear ht hr
      go_enter Tryz.func169, Tryz.ntmps169
      go_wp2
      go_ret
      exact ⟨rfl, (Below.refl _ _).alloc (Nat.le_refl _) _⟩
    · have e := toList_ne ht
      have e2 : t.toList.isEmpty = false := by simpa using e
      rw [hr, decide_eq_false ht]
      clear ht hr e
      go_enter Tryz.func169, Tryz.ntmps169
      go_wp2
      go_ret
      exact ⟨rfl, (Below.refl _ _).alloc (Nat.le_refl _) _⟩
  | false =>
    have hr : rightB false t n = decide (n = 0) := rfl
    by_cases hz : n = 0
    · rw [hr, decide_eq_true hz]
      subst hz
      clear hr
      go_enter Tryz.func169, Tryz.ntmps169
      go_wp2
      go_ret
      exact ⟨rfl, (Below.refl _ _).alloc (Nat.le_refl _) _⟩
    · rw [hr, decide_eq_false hz]
      have e : ((n : Int) == 0) = false := by rw [beq_eq_false_iff_ne]; omega
      clear hr
      go_enter Tryz.func169, Tryz.ntmps169
      go_wp2
      go_ret
      exact ⟨rfl, (Below.refl _ _).alloc (Nat.le_refl _) _⟩
end Go.Proofs.YtojnagonhihknaaGreatDoor
set_option linter.unusedVariables false
namespace Go.Proofs.YtojnagonhihknaaGreatDoor
open Go.ChangeShapes Go.WideShapes Go.ChangeAt Go.RowKit

end Go.Proofs.YtojnagonhihknaaGreatDoor
set_option linter.unusedVariables false
namespace Go.Proofs.YtojnagonhihknaaGreatDoor
open Go.ChangeShapes Go.WideShapes Go.ChangeAt Go.RowKit
open Go.Lib (decDigits itoa)

def HasTab (w : World) : Prop := Lib.TabIs Tryz.prog w "internal/strconv.uint64pow10" .u64 Lib.pow10Tab
theorem Tryz.tabG : Tryz.prog.globalNamed "internal/strconv.uint64pow10" = some 2 := by kernel_rfl
theorem HasTab.keep {w w' : World} (h : HasTab w) (hb : w'.heap[2]? = w.heap[2]?) : HasTab w' := by
  unfold HasTab Lib.TabIs World.var? at *
  rw [Tryz.tabG] at h ⊢
  simp only [Option.bind_some] at h ⊢
  rw [hb]
  exact h
theorem HasTab.lt {w : World} (h : HasTab w) : 2 < w.heap.size := by
  unfold HasTab Lib.TabIs World.var? at h
  rw [Tryz.tabG] at h
  simp only [Option.bind_some] at h
  rcases Nat.lt_or_ge 2 w.heap.size with h' | h'
  · exact h'
  · rw [Array.getElem?_eq_none h'] at h; simp at h
theorem HasTab.below {w w' : World} (h : HasTab w) (hb : Below w.heap.size w w') : HasTab w' := h.keep (hb.block _ h.lt)
theorem HasTab.drew {w : World} (h : HasTab w) : HasTab w.drew := h

theorem itoa_any (n : Int) (h0 : -9223372036854775808 ≤ n) (h1 : n ≤ 9223372036854775807) (w : World) (htab : HasTab w) :
    Calls Tryz.prog 171 #[.int .i64 n] w fun e w' => e = .returned (.string (tx (itoa n))) ∧ Below w.heap.size w w' :=
  (Tryz.strconv_Itoa n h0 h1 w htab).mono fun e w' ⟨he, k, os, hw⟩ => ⟨he, by
    subst hw
    have h := grow_below (w.drewN k) os
    exact (Below.drewN (n := k) (Below.refl w.heap.size w)).trans h⟩

def CanW (d : Nat) (out : List UInt8) (T : Tm) : Prop := T.ok = true ∧ d + T.depth ≤ 8 ∧ out.length + T.bytes.length ≤ 65536

def FormP (T : Tm) (bw : Nat) (v : Value) (out : List UInt8) (d : Nat) (w : World) (e : Ending) (w' : World) : Prop :=
  ∃ (r : Bool) (v' : Value) (out' : List UInt8), e = .returned (.bool r) ∧ Wr bw w' v' out' ∧ WOff bw w v w' v' ∧ (r = true → CanW d out T ∧ out' = out ++ T.bytes) ∧ (r = false → ¬ CanW d out T)

theorem box3o {bw : Nat} {w wz : World} {v vz : Value} {x1 x2 x3 : Value} {ty : TypeId} (h : WOff bw (w.alloc (.cells #[x1, x2, x3] ty)) v wz vz) (hbw : bw < w.heap.size) (ho : ∀ g, v.ownBlock = some g → g < w.heap.size) :
    wz.cell? ⟨w.heap.size, 0, none⟩ = some x1 ∧ wz.cell? ⟨w.heap.size, 1, none⟩ = some x2 ∧ wz.cell? ⟨w.heap.size, 2, none⟩ = some x3 := by
  have hc : ∀ j, wz.cell? ⟨w.heap.size, j, none⟩ = #[x1, x2, x3][j]? := fun j => (h.off.cell (p := ⟨w.heap.size, j, none⟩) (by show _ < (w.heap.push _).size; simp) (fun e => by
    rcases e with e | e
    · have : w.heap.size = bw := e
      omega
    · have : w.heap.size < w.heap.size := ho _ e
      omega)).trans (World.cell?_alloc_at _ _ _ _ rfl)
  exact ⟨hc 0, hc 1, hc 2⟩

theorem put_any (s : ByteArray) (bw : Nat) (v : Value) (out : List UInt8) (w : World) (h : Wr bw w v out) (hsm : s.size ≤ 140737488355328) (r : Bool) (hr : r = decide (out.length + s.size ≤ 65536)) :
    Calls Tryz.prog 170 #[.pointer (some ⟨bw, 0, none⟩), .string s] w fun e w' => e = .returned (.bool r) ∧ ∃ v' out', Wr bw w' v' out' ∧ WOff bw w v w' v' ∧ out' = if r then out ++ s.data.toList else out := by
  by_cases hs : out.length + s.size ≤ 65536
  · rw [decide_eq_true hs] at hr
    subst hr
    exact (put_yes s bw v out w h hs).mono fun e w' ⟨v', he, h1, h2⟩ => ⟨he, v', _, h1, h2, rfl⟩
  · rw [decide_eq_false hs] at hr
    subst hr
    exact (put_no s bw v out w h hs hsm).mono fun e w' ⟨he, hw⟩ => ⟨he, v, out, hw ▸ h, hw ▸ WOff.refl _ _ _, rfl⟩

set_option maxHeartbeats 1000000 in
set_option maxRecDepth 100000 in
theorem wform_text (t : ByteArray) (xs : List Tm) (w : World) (a : Option Addr) (c bw : Nat) (v : Value) (out : List UInt8) (d : Nat) (hsl : xs.length ≤ maxLen) (hts : t.size ≤ 140737488355328) (hw : Wr bw w v out) (htab : HasTab w) (htg : 2 < bw) (hd : d ≤ 8) :
    Calls Tryz.prog 135 #[.pointer (some ⟨bw, 0, none⟩), fv false t (.slice a xs.length c), .int .i64 (d : Nat)] w (FormP (.mk false t xs) bw v out d w) := by
  have hlt := cell_lt hw.cell
  have hown := fun g hg => (hw.row.lt g hg).2
  obtain ⟨n, hn⟩ : ∃ n, n = xs.length := ⟨_, rfl⟩
  rw [← hn] at hsl ⊢
  have c1 := fun wz => fright_any false t a n c wz hsl
  have hW0 : ∀ o, WOff bw w v (w.alloc o) v := fun o => (WOff.refl _ _ _).alloc o
  have HW := Lib.hid hw
  have HT := Lib.hid htab
  have HO := Lib.hid hown
  by_cases hz : n = 0
  · subst hz
    have hr : rightB false t 0 = true := by simp [rightB]
    rw [hr] at c1
    have C1 := Lib.hid c1
    obtain ⟨X, hX⟩ : ∃ X, X = decDigits t.size := ⟨_, rfl⟩
    have hxl : X.length ≤ 70368744177666 := by have := decDigits_len t.size; rw [hX]; omega
    have hcan : CanW d out (.mk false t xs) ↔ out.length + (X.length + 1 + t.size) ≤ 65536 := by
      unfold CanW
      rw [Tm.ok_text, Tm.depth_text, Tm.bytes_text, ← hX, ← hn]
      have hb := ba_len t
      simp only [decide_true, List.length_append, List.length_cons, true_and, Nat.add_zero]
      constructor
      · rintro ⟨_, h⟩; omega
      · intro h; exact ⟨hd, by omega⟩
    have hby : (Tm.mk false t xs).bytes = X ++ 58 :: t.data.toList := by rw [Tm.bytes_text, hX]
    have hi : ∀ wz, HasTab wz → Calls Tryz.prog 171 #[.int .i64 (t.size : Nat)] wz fun e w' => e = .returned (.string (tx X)) ∧ Below wz.heap.size wz w' := fun wz hz => by
      rw [hX, ← itoa_nat]; exact itoa_any (t.size : Nat) (by omega) (by omega) wz hz
    have HI := Lib.hid hi
    have HC := Lib.hid hcan
    have HBY := Lib.hid hby
    have HSZ := Lib.hid hts
    clear c1 hi hcan hby hX hr hw htab hown hn
    go_enter Tryz.func135, Tryz.ntmps135
    go_wp2_with fail
    refine (C1.out _).mono ?_
    rintro e w1 ⟨rfl, hb1⟩
    have hW1 : WOff bw (w.alloc (.cells #[.bool false, .string t, .slice a 0 c] 122)) v w1 v := WOff.of_below hb1
    have hw1 : Wr bw w1 v out := (HW.out.below ((Below.refl _ _).alloc (Nat.le_refl _) _)).below hb1
    have ht1 : HasTab w1 := (HT.out.below ((Below.refl _ _).alloc (Nat.le_refl _) _)).below hb1
    obtain ⟨k1, k2, k3⟩ := box3o hW1 hlt HO.out
    have HW1 := Lib.hid hW1
    have HWR1 := Lib.hid hw1
    have HT1 := Lib.hid ht1
    clear hb1 hW1 hw1 ht1
    go_wp2_with fail
    refine (HI.out _ HT1.out).mono ?_
    rintro e w2 ⟨rfl, hb2⟩
    have hW2 : WOff bw (w.alloc (.cells #[.bool false, .string t, .slice a 0 c] 122)) v w2 v := HW1.out.trans (WOff.of_below hb2)
    have hw2 : Wr bw w2 v out := HWR1.out.below hb2
    have HW2 := Lib.hid hW2
    have HWR2 := Lib.hid hw2
    clear hb2 hW2 hw2 k1 k2 k3
    obtain ⟨r1, hr1⟩ : ∃ r, r = decide (out.length + (tx X).size ≤ 65536) := ⟨_, rfl⟩
    have HR1 := Lib.hid hr1
    clear hr1
    go_wp2_with fail
    refine (put_any (tx X) bw v out w2 HWR2.out (by show X.length ≤ _; omega) r1 HR1.out).mono ?_
    rintro e w3 ⟨rfl, v3, out3, hw3, ho3, hq3⟩
    have HW3 := Lib.hid (HW2.out.trans ho3)
    have HWR3 := Lib.hid hw3
    have HQ3 := Lib.hid hq3
    clear hw3 ho3 hq3
    obtain ⟨k1, k2, k3⟩ := box3o HW3.out hlt HO.out
    cases r1 with
    | false =>
      go_wp2_with fail
      go_ret
      refine ⟨false, v3, out3, rfl, HWR3.out, (hW0 _).trans HW3.out, (fun h => by cases h), fun _ h => ?_⟩
      have h1 := HC.out.1 h
      have h2 := HR1.out
      rw [eq_comm, decide_eq_false_iff_not] at h2
      apply h2
      show out.length + X.length ≤ 65536
      omega
    | true =>
      have hq3 : out3 = out ++ X := by rw [HQ3.out]; rfl
      have hl3 : out3.length = out.length + X.length := by rw [hq3, List.length_append]
      have HE3 := Lib.hid hq3
      have HL3 := Lib.hid hl3
      clear hq3 hl3 HQ3
      obtain ⟨r2, hr2⟩ : ∃ r, r = decide (out3.length + (⟨#[58]⟩ : ByteArray).size ≤ 65536) := ⟨_, rfl⟩
      have HR2 := Lib.hid hr2
      clear hr2
      go_wp2_with fail
      refine (put_any ⟨#[58]⟩ bw v3 out3 w3 HWR3.out (by decide) r2 HR2.out).mono ?_
      rintro e w4 ⟨rfl, v4, out4, hw4, ho4, hq4⟩
      have HW4 := Lib.hid (HW3.out.trans ho4)
      have HWR4 := Lib.hid hw4
      have HQ4 := Lib.hid hq4
      clear hw4 ho4 hq4 k1 k2 k3
      obtain ⟨k1, k2, k3⟩ := box3o HW4.out hlt HO.out
      cases r2 with
      | false =>
        go_wp2_with fail
        go_ret
        refine ⟨false, v4, out4, rfl, HWR4.out, (hW0 _).trans HW4.out, (fun h => by cases h), fun _ h => ?_⟩
        have h1 := HC.out.1 h
        have h2 := HR2.out
        rw [eq_comm, decide_eq_false_iff_not] at h2
        apply h2
        rw [HL3.out]
        show out.length + X.length + 1 ≤ 65536
        omega
      | true =>
        have hq4 : out4 = out ++ X ++ [58] := by rw [HQ4.out, HE3.out]; rfl
        have hl4 : out4.length = out.length + X.length + 1 := by rw [hq4, List.length_append, List.length_append]; rfl
        have HE4 := Lib.hid hq4
        have HL4 := Lib.hid hl4
        clear hq4 hl4 HQ4
        obtain ⟨r3, hr3⟩ : ∃ r, r = decide (out4.length + t.size ≤ 65536) := ⟨_, rfl⟩
        have HR3 := Lib.hid hr3
        clear hr3
        go_wp2_with fail
        refine (put_any t bw v4 out4 w4 HWR4.out HSZ.out r3 HR3.out).mono ?_
        rintro e w5 ⟨rfl, v5, out5, hw5, ho5, hq5⟩
        have HW5 := Lib.hid (HW4.out.trans ho5)
        have HWR5 := Lib.hid hw5
        have HQ5 := Lib.hid hq5
        clear hw5 ho5 hq5 k1 k2 k3
        cases r3 with
        | false =>
          go_wp2_with fail
          go_ret
          refine ⟨false, v5, out5, rfl, HWR5.out, (hW0 _).trans HW5.out, (fun h => by cases h), fun _ h => ?_⟩
          have h1 := HC.out.1 h
          have h2 := HR3.out
          rw [eq_comm, decide_eq_false_iff_not] at h2
          apply h2
          rw [HL4.out]
          omega
        | true =>
          go_wp2_with fail
          go_ret
          refine ⟨true, v5, out5, rfl, HWR5.out, (hW0 _).trans HW5.out, (fun _ => ⟨HC.out.2 ?_, ?_⟩), fun h => by cases h⟩
          · have h2 := HR3.out
            rw [eq_comm, decide_eq_true_iff, HL4.out] at h2
            omega
          · rw [HBY.out, HQ5.out, HE4.out]
            simp
  · have hr : rightB false t n = false := by simp [rightB, hz]
    rw [hr] at c1
    have C1 := Lib.hid c1
    have hnc : ¬ CanW d out (.mk false t xs) := by
      rintro ⟨h, _⟩
      rw [Tm.ok_text, ← hn, decide_eq_true_iff] at h
      exact hz h
    have HNC := Lib.hid hnc
    clear c1 hr hnc hw htab hown hn hts hz
    go_enter Tryz.func135, Tryz.ntmps135
    go_wp2_with fail
    refine (C1.out _).mono ?_
    rintro e w1 ⟨rfl, hb1⟩
    have hW1 : WOff bw (w.alloc (.cells #[.bool false, .string t, .slice a n c] 122)) v w1 v := WOff.of_below hb1
    have hw1 : Wr bw w1 v out := (HW.out.below ((Below.refl _ _).alloc (Nat.le_refl _) _)).below hb1
    have HW1 := Lib.hid hW1
    have HWR1 := Lib.hid hw1
    clear hb1 hW1 hw1
    go_wp2_with fail
    go_ret
    exact ⟨false, v, out, rfl, HWR1.out, (hW0 _).trans HW1.out, (fun h => by cases h), fun _ => HNC.out⟩
end Go.Proofs.YtojnagonhihknaaGreatDoor
set_option linter.unusedVariables false
namespace Go.Proofs.YtojnagonhihknaaGreatDoor
open Go.ChangeShapes Go.WideShapes Go.ChangeAt Go.RowKit

theorem Tryz.pg : Tryz.prog.globalNamed "internal/strconv.uint64pow10" = some 2 := by kernel_rfl
theorem Tryz.pty : (Tryz.prog.globals[2]?).map (·.type) = some 269 := by kernel_rfl
theorem hasTab_of {W : World} {x y : String × DataW Unit} {rest : List (String × DataW Unit)} (h : laidMet Tryz.prog (x :: y :: ("internal/strconv.uint64pow10", Rows.laid_internal_strconv_uint64pow10) :: rest) W) : HasTab W := by
  have h2 := laidMet.tail (laidMet.tail h)
  have e : (Rows.laid_internal_strconv_uint64pow10 : DataW Unit) = Lib.tabData .u64 Lib.pow10Tab := rfl
  rw [e] at h2
  exact Lib.tabIs_of_head Tryz.pg Tryz.pty Tryz.underlying269 Tryz.underlying208 (by kernel_rfl) (by kernel_rfl) h2
end Go.Proofs.YtojnagonhihknaaGreatDoor
