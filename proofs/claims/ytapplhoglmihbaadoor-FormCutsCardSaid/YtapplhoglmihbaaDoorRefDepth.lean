/- The contract of the document's Depth. -/
import Derived.Test.YtapplhoglmihbaaDoorRefRight
set_option linter.unusedVariables false
namespace Go.Proofs.YtapplhoglmihbaaDoor
open Go.ChangeShapes Go.WideShapes Go.ChangeAt Go.RowKit

theorem Tm.depth_list (t : ByteArray) (xs : List Tm) : (Tm.mk true t xs).depth = Tm.depths xs + 1 := by rw [Tm.depth]; rfl
theorem Tm.depth_text (t : ByteArray) (xs : List Tm) : (Tm.mk false t xs).depth = 0 := by rw [Tm.depth]; rfl
theorem Tm.depth_le_parts (T : Tm) : T.depth ≤ T.parts := by
  induction T using Tm.ind with
  | h l t xs ih =>
    have : Tm.depths xs ≤ Tm.partss xs := Tm.depths_le.2 fun x hx => Nat.le_trans (ih x hx) (Tm.parts_mem hx)
    rw [Tm.depth, Tm.parts]
    split <;> omega
theorem Tm.depths_le_partss (xs : List Tm) : Tm.depths xs ≤ Tm.partss xs := Tm.depths_le.2 fun x hx => Nat.le_trans (Tm.depth_le_parts x) (Tm.parts_mem hx)
theorem Tm.partss_take (xs : List Tm) (k : Nat) : Tm.partss (xs.take k) ≤ Tm.partss xs := by
  have := congrArg Tm.partss (List.take_append_drop k xs)
  rw [Tm.partss_app] at this
  omega

set_option maxHeartbeats 2000000 in
set_option maxRecDepth 100000 in
theorem rdepth_any (T : Tm) : ∀ l t ys, T = .mk l t ys → ∀ (Z : Nat → Prop) (w : World) (a : Option Addr) (c : Nat), T.parts ≤ 1000000000 → SlL Z w (.slice a ys.length c) ys →
    Calls Tryd.prog 27 #[fv l t (.slice a ys.length c)] w fun e w' => e = .returned (.int .i64 (T.depth : Nat)) ∧ Below w.heap.size w w' := by
  induction T using Tm.ind with
  | h l t xs ih =>
    rintro l' t' ys ⟨⟩ Z w a c hparts hsl
    have hpn : Tm.partss xs ≤ 1000000000 := by rw [Tm.parts] at hparts; omega
    obtain ⟨n, hn⟩ : ∃ n, n = xs.length := ⟨_, rfl⟩
    have hnm : n ≤ 9223372036854775807 := by have := Tm.length_le_partss xs; omega
    rw [← hn]
    rw [← hn] at hsl
    cases l with
    | false =>
      rw [Tm.depth_text]
      clear hsl ih hn hparts hpn
      go_enter Tryd.func27, Tryd.ntmps27
      go_wp2_with fail
      go_ret
      exact ⟨rfl, (Below.refl _ _).alloc (Nat.le_refl _) _⟩
    | true =>
      rw [Tm.depth_list]
      have HN := Lib.hid hn
      have HS := Lib.hid hsl
      have IH := Lib.hid ih
      have HP := Lib.hid hpn
      clear hn hsl ih hparts hpn
      go_enter Tryd.func27, Tryd.ntmps27
      go_wp2_with fail
      go_loopw [3, 4] (fun m i wr => ∃ k d : Nat, k ≤ n ∧ i = .int .i64 k ∧ d = Tm.depths (xs.take k) ∧ m = .int .i64 d ∧ Below (w.heap.size + 1) (w.alloc (.cells #[.bool true, .string t, .slice a n c] 24)) wr) (fun _ i _ => n - (intOf i).toNat)
      case atStart => exact ⟨0, 0, Nat.zero_le _, rfl, rfl, rfl, Below.refl _ _⟩
      case round =>
        obtain ⟨k, d, hk, rfl, hd, rfl, hbel⟩ := hrel
        have hb0 : Below w.heap.size w wr := ((Below.refl _ _).alloc (Nat.le_refl _) _).trans (hbel.mono (Nat.le_succ _))
        have hcb : wr.cell? ⟨w.heap.size, 2, none⟩ = some (.slice a n c) := (hbel.cell (p := ⟨w.heap.size, 2, none⟩) (Nat.lt_succ_self _)).trans (by rw [World.cell?_alloc_at _ _ _ _ rfl]; rfl)
        have hdl : d ≤ 1000000000 := by rw [hd]; exact Nat.le_trans (Nat.le_trans (Tm.depths_le_partss _) (Tm.partss_take _ _)) HP.out
        have HB := Lib.hid hbel
        have HB0 := Lib.hid hb0
        have HD := Lib.hid hd
        clear hbel hb0 hd
        by_cases hlt : k < n
        · obtain ⟨x, hx⟩ : ∃ x, xs[k]? = some x := ⟨xs[k]'(by rw [← HN.out]; exact hlt), by simp⟩
          obtain ⟨l1, t1, ys1⟩ := x
          obtain ⟨b, o, c', hv, h1, h2, h3, h4, h5⟩ := HS.out.pos (by rintro rfl; simp at hx)
          injection hv with ea en ec
          subst ea
          obtain ⟨a1, c1, q1, q2, q3, q4, q5⟩ := h5 k l1 t1 ys1 hx
          have d1 : wr.cell? ⟨b, o + k * 3, none⟩ = some (.bool l1) := (HB0.out.cell (p := ⟨b, o + k * 3, none⟩) h4).trans q1
          have d2 : wr.cell? ⟨b, o + k * 3 + 1, none⟩ = some (.string t1) := (HB0.out.cell (p := ⟨b, o + k * 3 + 1, none⟩) h4).trans q2
          have d3 : wr.cell? ⟨b, o + k * 3 + 2, none⟩ = some (.slice a1 ys1.length c1) := (HB0.out.cell (p := ⟨b, o + k * 3 + 2, none⟩) h4).trans q3
          obtain ⟨r, hr⟩ : ∃ r, r = (Tm.mk l1 t1 ys1).depth := ⟨_, rfl⟩
          have hpx : (Tm.mk l1 t1 ys1).parts ≤ 1000000000 := Nat.le_trans (Tm.parts_mem (List.mem_of_getElem? hx)) HP.out
          have hc := IH.out _ (List.mem_of_getElem? hx) l1 t1 ys1 rfl Z wr a1 c1 hpx (q5.keep HB0.out)
          rw [← hr] at hc
          have hrl : r ≤ 1000000000 := by rw [hr]; exact Nat.le_trans (Tm.depth_le_parts _) hpx
          obtain ⟨m1, hm1⟩ : ∃ m, m = ys1.length := ⟨_, rfl⟩
          rw [← hm1] at hc d3
          have HC := Lib.hid hc
          have HX := Lib.hid hx
          have HR := Lib.hid hr
          have h01 : (0 : Int) ≤ k := by omega
          have h02 : (k : Int) < n := by omega
          clear hc hx hr hm1 q1 q2 q3 q4 q5 h1 h2 h3 h4 h5 en ec hpx
          go_wp2_with (go_at_call 27; refine HC.out.mono ?_; rintro e w2 ⟨rfl, hb2⟩; have HB2 := Lib.hid hb2; clear hb2)
          refine ⟨⟨k + 1, max d r, hlt, by go_num, ?_, ?_, HB.out.trans (HB2.out.mono (by have := HB.out.size; simp at this; omega))⟩, by simp [intOf]; omega⟩
          · rw [take_snoc HX.out, Tm.depths_app, ← HD.out, HR.out]
            simp [Tm.depths]
          · by_cases hdr : d < r
            · rw [if_pos hdr, Nat.max_eq_right (by omega)]
            · rw [if_neg hdr, Nat.max_eq_left (by omega)]
        · have hke : k = n := by omega
          go_wp2_with fail
          go_ret
          refine ⟨ret_int ?_, HB0.out⟩
          have := HD.out
          rw [List.take_of_length_le (by rw [← HN.out]; omega)] at this
          rw [this]; simp
end Go.Proofs.YtapplhoglmihbaaDoor
