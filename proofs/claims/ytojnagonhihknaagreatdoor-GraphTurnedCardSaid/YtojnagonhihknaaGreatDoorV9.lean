/- The program's look at one form: is it right by itself? Cells of boxes that a call has laid. The contract of the document's right: is a form right all through? The contract of the document's Depth. -/
import Derived.Test.YtojnagonhihknaaGreatDoorV5
import Derived.Test.YtojnagonhihknaaGreatDoorV6
set_option linter.unusedVariables false
namespace Go.Proofs.YtojnagonhihknaaGreatDoor
open Go.ChangeShapes Go.WideShapes Go.ChangeAt Go.RowKit

def rightB (l : Bool) (t : ByteArray) (n : Nat) : Bool := if l then decide (t.size = 0) else decide (n = 0)

theorem toList_nil {t : ByteArray} (h : t.size = 0) : t.toList = [] := by
  rw [ByteArray.toList_eq]
  exact List.length_eq_zero_iff.1 (by rw [ba_len]; exact h)
theorem toList_ne {t : ByteArray} (h : ¬ t.size = 0) : t.toList ≠ [] := by
  rw [ByteArray.toList_eq]
  intro e
  have := ba_len t
  rw [e] at this
  exact h this.symm

theorem fright_any (l : Bool) (t : ByteArray) (a : Option Addr) (n c : Nat) (w : World) (hn : n ≤ maxLen) :
    Calls Tryz.prog 169 #[fv l t (.slice a n c)] w fun e w' => e = .returned (.bool (rightB l t n)) ∧ Below w.heap.size w w' := by
  unfold maxLen at hn
  cases l with
  | true =>
    have hr : rightB true t n = decide (t.size = 0) := rfl
    by_cases ht : t.size = 0
    · have e := toList_nil ht
      rw [hr, decide_eq_true ht]
      clear ht hr
      go_enter Tryz.func169, Tryz.ntmps169
      go_wp2
      go_ret
      exact ⟨rfl, (Below.refl _ _).alloc (Nat.le_refl _) _⟩
    · have e := toList_ne ht
      have e2 : t.toList.isEmpty = false := by simpa using e
      rw [hr, decide_eq_false ht]
      clear ht hr e
      go_enter Tryz.func169, Tryz.ntmps169
      go_wp2
      go_ret
      exact ⟨rfl, (Below.refl _ _).alloc (Nat.le_refl _) _⟩
  | false =>
    have hr : rightB false t n = decide (n = 0) := rfl
    by_cases hz : n = 0
    · rw [hr, decide_eq_true hz]
      subst hz
      clear hr
      go_enter Tryz.func169, Tryz.ntmps169
      go_wp2
      go_ret
      exact ⟨rfl, (Below.refl _ _).alloc (Nat.le_refl _) _⟩
    · rw [hr, decide_eq_false hz]
      have e : ((n : Int) == 0) = false := by rw [beq_eq_false_iff_ne]; omega
      clear hr
      go_enter Tryz.func169, Tryz.ntmps169
      go_wp2
      go_ret
      exact ⟨rfl, (Below.refl _ _).alloc (Nat.le_refl _) _⟩
end Go.Proofs.YtojnagonhihknaaGreatDoor
set_option linter.unusedVariables false
namespace Go.Proofs.YtojnagonhihknaaGreatDoor
open Go.ChangeShapes Go.WideShapes Go.ChangeAt Go.RowKit

theorem ba_neq {x y : ByteArray} (h : x ≠ y) : (x.toList == y.toList) = false := by
  cases e : (x.toList == y.toList) with
  | false => rfl
  | true => exact absurd (ba_eq' e) h

theorem two_boxes (w : World) (o1 o2 : Obj) : Below w.heap.size w ((w.alloc o1).alloc o2) := (((Below.refl _ _).alloc (Nat.le_refl _) _).alloc (by simp) _)

theorem boxes_cell {w wr : World} {x1 x2 : Array Value} {t1 t2 : TypeId} (h : Below (w.heap.size + 2) ((w.alloc (.cells x1 t1)).alloc (.cells x2 t2)) wr) (j : Nat) :
    wr.cell? ⟨w.heap.size, j, none⟩ = x1[j]? ∧ wr.cell? ⟨w.heap.size + 1, j, none⟩ = x2[j]? := by
  have e1 : ((w.alloc (.cells x1 t1)).alloc (.cells x2 t2)).cell? ⟨w.heap.size, j, none⟩ = x1[j]? := by
    rw [World.cell?_of_block (w := w.alloc (.cells x1 t1)) (a := ⟨w.heap.size, j, none⟩) (Below.heap_alloc _ _ _ (by simp)), World.cell?_alloc_at _ _ _ _ rfl]
  have e2 : ((w.alloc (.cells x1 t1)).alloc (.cells x2 t2)).cell? ⟨w.heap.size + 1, j, none⟩ = x2[j]? := by
    rw [World.cell?_alloc_at _ _ _ _ (by simp)]
  exact ⟨(h.cell (p := ⟨w.heap.size, j, none⟩) (Nat.lt_add_of_pos_right (by decide))).trans e1, (h.cell (p := ⟨w.heap.size + 1, j, none⟩) (Nat.lt_succ_self _)).trans e2⟩

theorem box_first {w w2 : World} {o : Obj} (h2 : Below (w.alloc o).heap.size (w.alloc o) w2) : Below (w.heap.size + 1) (w.alloc o) w2 := h2.mono (by simp)
theorem box3 {w wz : World} {x1 x2 x3 : Value} {ty : TypeId} (h : Below (w.heap.size + 1) (w.alloc (.cells #[x1, x2, x3] ty)) wz) :
    wz.cell? ⟨w.heap.size, 0, none⟩ = some x1 ∧ wz.cell? ⟨w.heap.size, 1, none⟩ = some x2 ∧ wz.cell? ⟨w.heap.size, 2, none⟩ = some x3 ∧ Below w.heap.size w wz := by
  have hc : ∀ j, wz.cell? ⟨w.heap.size, j, none⟩ = #[x1, x2, x3][j]? := fun j => (h.cell (p := ⟨w.heap.size, j, none⟩) (Nat.lt_succ_self _)).trans (World.cell?_alloc_at _ _ _ _ rfl)
  exact ⟨hc 0, hc 1, hc 2, ((Below.refl _ _).alloc (Nat.le_refl _) _).trans (h.mono (Nat.le_succ _))⟩
end Go.Proofs.YtojnagonhihknaaGreatDoor
set_option linter.unusedVariables false
namespace Go.Proofs.YtojnagonhihknaaGreatDoor
open Go.ChangeShapes Go.WideShapes Go.ChangeAt Go.RowKit

set_option maxHeartbeats 2000000 in
set_option maxRecDepth 100000 in
theorem rright_any (T : Tm) : ∀ l t ys, T = .mk l t ys → ∀ (Z : Nat → Prop) (w : World) (a : Option Addr) (c : Nat), SlL Z w (.slice a ys.length c) ys →
    Calls Tryz.prog 94 #[fv l t (.slice a ys.length c)] w fun e w' => e = .returned (.bool T.ok) ∧ Below w.heap.size w w' := by
  induction T using Tm.ind with
  | h l t xs ih =>
    rintro l' t' ys ⟨⟩ Z w a c hsl
    obtain ⟨n, hn⟩ : ∃ n, n = xs.length := ⟨_, rfl⟩
    have hnm : n ≤ 9223372036854775807 := by
      obtain ⟨a', c', e, h1, h2⟩ := hsl.form
      unfold maxLen at h2
      injection e with e1 e2 e3
      omega
    rw [← hn]
    rw [← hn] at hsl
    cases l with
    | false =>
      rw [Tm.ok_text, ← hn]
      clear hsl ih hn
      by_cases hz : n = 0
      · rw [decide_eq_true hz]
        subst hz
        go_enter Tryz.func94, Tryz.ntmps94
        go_wp2_with fail
        go_ret
        exact ⟨rfl, (Below.refl _ _).alloc (Nat.le_refl _) _⟩
      · have e : ((n : Int) == 0) = false := by rw [beq_eq_false_iff_ne]; omega
        rw [decide_eq_false hz]
        go_enter Tryz.func94, Tryz.ntmps94
        go_wp2_with fail
        go_ret
        exact ⟨rfl, (Below.refl _ _).alloc (Nat.le_refl _) _⟩
    | true =>
      rw [Tm.ok_list]
      by_cases ht : t.size = 0
      · have e := toList_nil ht
        rw [decide_eq_true ht, Bool.true_and]
        have HN := Lib.hid hn
        have HS := Lib.hid hsl
        have IH := Lib.hid ih
        clear ht hn hsl ih
        go_enter Tryz.func94, Tryz.ntmps94
        go_wp2_with fail
        go_loopw [3] (fun i wr => ∃ k : Nat, k ≤ n ∧ i = .int .i64 k ∧ Tm.oks (xs.take k) = true ∧ Below (w.heap.size + 1) (w.alloc (.cells #[.bool true, .string t, .slice a n c] 122)) wr) (fun i _ => n - (intOf i).toNat)
        case atStart => exact ⟨0, Nat.zero_le _, rfl, rfl, Below.refl _ _⟩
        case round =>
          obtain ⟨k, hk, rfl, hok, hbel⟩ := hrel
          have hb0 : Below w.heap.size w wr := ((Below.refl _ _).alloc (Nat.le_refl _) _).trans (hbel.mono (Nat.le_succ _))
          have hcb : wr.cell? ⟨w.heap.size, 2, none⟩ = some (.slice a n c) := (hbel.cell (p := ⟨w.heap.size, 2, none⟩) (Nat.lt_succ_self _)).trans (by rw [World.cell?_alloc_at _ _ _ _ rfl]; rfl)
          have HB := Lib.hid hbel
          have HB0 := Lib.hid hb0
          have HO := Lib.hid hok
          clear hbel hb0 hok
          by_cases hlt : k < n
          · obtain ⟨x, hx⟩ : ∃ x, xs[k]? = some x := ⟨xs[k]'(by rw [← HN.out]; exact hlt), by simp⟩
            obtain ⟨l1, t1, ys1⟩ := x
            obtain ⟨b, o, c', hv, h1, h2, h3, h4, h5⟩ := HS.out.pos (by rintro rfl; simp at hx)
            injection hv with ea en ec
            subst ea
            obtain ⟨a1, c1, q1, q2, q3, q4, q5⟩ := h5 k l1 t1 ys1 hx
            have d1 : wr.cell? ⟨b, o + k * 3, none⟩ = some (.bool l1) := (HB0.out.cell (p := ⟨b, o + k * 3, none⟩) h4).trans q1
            have d2 : wr.cell? ⟨b, o + k * 3 + 1, none⟩ = some (.string t1) := (HB0.out.cell (p := ⟨b, o + k * 3 + 1, none⟩) h4).trans q2
            have d3 : wr.cell? ⟨b, o + k * 3 + 2, none⟩ = some (.slice a1 ys1.length c1) := (HB0.out.cell (p := ⟨b, o + k * 3 + 2, none⟩) h4).trans q3
            obtain ⟨r, hr⟩ : ∃ r, r = (Tm.mk l1 t1 ys1).ok := ⟨_, rfl⟩
            have hc := IH.out _ (List.mem_of_getElem? hx) l1 t1 ys1 rfl Z wr a1 c1 (q5.keep HB0.out)
            rw [← hr] at hc
            obtain ⟨m1, hm1⟩ : ∃ m, m = ys1.length := ⟨_, rfl⟩
            rw [← hm1] at hc d3
            have HC := Lib.hid hc
            have HX := Lib.hid hx
            have HR := Lib.hid hr
            have h01 : (0 : Int) ≤ k := by omega
            have h02 : (k : Int) < n := by omega
            clear hc hx hr hm1 q1 q2 q3 q4 q5 h1 h2 h3 h4 h5 en ec
            cases r with
            | true =>
              go_wp2_with (go_at_call 94; refine HC.out.mono ?_; rintro e w2 ⟨rfl, hb2⟩; have HB2 := Lib.hid hb2; clear hb2)
              refine ⟨⟨k + 1, hlt, by go_num, ?_, ?_⟩, by simp [intOf]; omega⟩
              · rw [take_snoc HX.out, Tm.oks_app, HO.out]
                simp only [Tm.oks, ← HR.out, Bool.and_self]
              · exact HB.out.trans (HB2.out.mono (by have := HB.out.size; simp at this; omega))
            | false =>
              go_wp2_with (go_at_call 94; refine HC.out.mono ?_; rintro e w2 ⟨rfl, hb2⟩; have HB2 := Lib.hid hb2; clear hb2)
              go_ret
              refine ⟨ret_bool ?_, HB0.out.trans (HB2.out.mono HB0.out.size)⟩
              cases hq : Tm.oks xs with
              | false => rfl
              | true =>
                have := Tm.oks_iff.1 hq _ (List.mem_of_getElem? HX.out)
                rw [← HR.out] at this
                cases this
          · have hke : k = n := by omega
            go_wp2_with fail
            go_ret
            refine ⟨ret_bool ?_, HB0.out⟩
            have := HO.out
            rw [List.take_of_length_le (by rw [← HN.out]; omega)] at this
            exact this.symm
      · have e := toList_ne ht
        have e2 : (!t.toList.isEmpty) = true := by simpa using e
        have e3 : t.toList.isEmpty = false := by simpa using e
        rw [decide_eq_false ht, Bool.false_and]
        clear ht hsl ih hn e
        go_enter Tryz.func94, Tryz.ntmps94
        go_wp2_with fail
        go_ret
        exact ⟨rfl, (Below.refl _ _).alloc (Nat.le_refl _) _⟩
end Go.Proofs.YtojnagonhihknaaGreatDoor
set_option linter.unusedVariables false
namespace Go.Proofs.YtojnagonhihknaaGreatDoor
open Go.ChangeShapes Go.WideShapes Go.ChangeAt Go.RowKit

set_option maxHeartbeats 2000000 in
set_option maxRecDepth 100000 in
theorem rdepth_any (T : Tm) : ∀ l t ys, T = .mk l t ys → ∀ (Z : Nat → Prop) (w : World) (a : Option Addr) (c : Nat), T.parts ≤ 1000000000 → SlL Z w (.slice a ys.length c) ys →
    Calls Tryz.prog 95 #[fv l t (.slice a ys.length c)] w fun e w' => e = .returned (.int .i64 (T.depth : Nat)) ∧ Below w.heap.size w w' := by
  induction T using Tm.ind with
  | h l t xs ih =>
    rintro l' t' ys ⟨⟩ Z w a c hparts hsl
    have hpn : Tm.partss xs ≤ 1000000000 := by rw [Tm.parts] at hparts; omega
    obtain ⟨n, hn⟩ : ∃ n, n = xs.length := ⟨_, rfl⟩
    have hnm : n ≤ 9223372036854775807 := by have := Tm.length_le_partss xs; omega
    rw [← hn]
    rw [← hn] at hsl
    cases l with
    | false =>
      rw [Tm.depth_text]
      clear hsl ih hn hparts hpn
      go_enter Tryz.func95, Tryz.ntmps95
      go_wp2_with fail
      go_ret
      exact ⟨rfl, (Below.refl _ _).alloc (Nat.le_refl _) _⟩
    | true =>
      rw [Tm.depth_list]
      have HN := Lib.hid hn
      have HS := Lib.hid hsl
      have IH := Lib.hid ih
      have HP := Lib.hid hpn
      clear hn hsl ih hparts hpn
      go_enter Tryz.func95, Tryz.ntmps95
      go_wp2_with fail
      go_loopw [3, 4] (fun m i wr => ∃ k d : Nat, k ≤ n ∧ i = .int .i64 k ∧ d = Tm.depths (xs.take k) ∧ m = .int .i64 d ∧ Below (w.heap.size + 1) (w.alloc (.cells #[.bool true, .string t, .slice a n c] 122)) wr) (fun _ i _ => n - (intOf i).toNat)
      case atStart => exact ⟨0, 0, Nat.zero_le _, rfl, rfl, rfl, Below.refl _ _⟩
      case round =>
        obtain ⟨k, d, hk, rfl, hd, rfl, hbel⟩ := hrel
        have hb0 : Below w.heap.size w wr := ((Below.refl _ _).alloc (Nat.le_refl _) _).trans (hbel.mono (Nat.le_succ _))
        have hcb : wr.cell? ⟨w.heap.size, 2, none⟩ = some (.slice a n c) := (hbel.cell (p := ⟨w.heap.size, 2, none⟩) (Nat.lt_succ_self _)).trans (by rw [World.cell?_alloc_at _ _ _ _ rfl]; rfl)
        have hdl : d ≤ 1000000000 := by rw [hd]; exact Nat.le_trans (Nat.le_trans (Tm.depths_le_partss _) (Tm.partss_take _ _)) HP.out
        have HB := Lib.hid hbel
        have HB0 := Lib.hid hb0
        have HD := Lib.hid hd
        clear hbel hb0 hd
        by_cases hlt : k < n
        · obtain ⟨x, hx⟩ : ∃ x, xs[k]? = some x := ⟨xs[k]'(by rw [← HN.out]; exact hlt), by simp⟩
          obtain ⟨l1, t1, ys1⟩ := x
          obtain ⟨b, o, c', hv, h1, h2, h3, h4, h5⟩ := HS.out.pos (by rintro rfl; simp at hx)
          injection hv with ea en ec
          subst ea
          obtain ⟨a1, c1, q1, q2, q3, q4, q5⟩ := h5 k l1 t1 ys1 hx
          have d1 : wr.cell? ⟨b, o + k * 3, none⟩ = some (.bool l1) := (HB0.out.cell (p := ⟨b, o + k * 3, none⟩) h4).trans q1
          have d2 : wr.cell? ⟨b, o + k * 3 + 1, none⟩ = some (.string t1) := (HB0.out.cell (p := ⟨b, o + k * 3 + 1, none⟩) h4).trans q2
          have d3 : wr.cell? ⟨b, o + k * 3 + 2, none⟩ = some (.slice a1 ys1.length c1) := (HB0.out.cell (p := ⟨b, o + k * 3 + 2, none⟩) h4).trans q3
          obtain ⟨r, hr⟩ : ∃ r, r = (Tm.mk l1 t1 ys1).depth := ⟨_, rfl⟩
          have hpx : (Tm.mk l1 t1 ys1).parts ≤ 1000000000 := Nat.le_trans (Tm.parts_mem (List.mem_of_getElem? hx)) HP.out
          have hc := IH.out _ (List.mem_of_getElem? hx) l1 t1 ys1 rfl Z wr a1 c1 hpx (q5.keep HB0.out)
          rw [← hr] at hc
          have hrl : r ≤ 1000000000 := by rw [hr]; exact Nat.le_trans (Tm.depth_le_parts _) hpx
          obtain ⟨m1, hm1⟩ : ∃ m, m = ys1.length := ⟨_, rfl⟩
          rw [← hm1] at hc d3
          have HC := Lib.hid hc
          have HX := Lib.hid hx
          have HR := Lib.hid hr
          have h01 : (0 : Int) ≤ k := by omega
          have h02 : (k : Int) < n := by omega
          clear hc hx hr hm1 q1 q2 q3 q4 q5 h1 h2 h3 h4 h5 en ec hpx
          go_wp2_with (go_at_call 95; refine HC.out.mono ?_; rintro e w2 ⟨rfl, hb2⟩; have HB2 := Lib.hid hb2; clear hb2)
          refine ⟨⟨k + 1, max d r, hlt, by go_num, ?_, ?_, HB.out.trans (HB2.out.mono (by have := HB.out.size; simp at this; omega))⟩, by simp [intOf]; omega⟩
          · rw [take_snoc HX.out, Tm.depths_app, ← HD.out, HR.out]
            simp [Tm.depths]
          · by_cases hdr : d < r
            · rw [if_pos hdr, Nat.max_eq_right (by omega)]
            · rw [if_neg hdr, Nat.max_eq_left (by omega)]
        · have hke : k = n := by omega
          go_wp2_with fail
          go_ret
          refine ⟨ret_int ?_, HB0.out⟩
          have := HD.out
          rw [List.take_of_length_le (by rw [← HN.out]; omega)] at this
          rw [this]; simp
end Go.Proofs.YtojnagonhihknaaGreatDoor
