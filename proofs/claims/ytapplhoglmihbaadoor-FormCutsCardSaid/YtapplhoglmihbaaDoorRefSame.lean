/- The contract of the document's Same: two forms, compared. -/
import Derived.Test.YtapplhoglmihbaaDoorRefRight
import Derived.StillTailTactics
set_option linter.unusedVariables false
namespace Go.Proofs.YtapplhoglmihbaaDoor
open Go.ChangeShapes Go.WideShapes Go.ChangeAt Go.RowKit

noncomputable def sameB (A B : Tm) : Bool := @decide (A = B) (Classical.propDecidable _)
theorem sameB_true {A B : Tm} : sameB A B = true ↔ A = B := by unfold sameB; exact @decide_eq_true_iff _ (Classical.propDecidable _)
theorem sameB_no {A B : Tm} (h : A ≠ B) : sameB A B = false := by unfold sameB; exact @decide_eq_false _ (Classical.propDecidable _) h
theorem sameB_yes {A B : Tm} (h : A = B) : sameB A B = true := sameB_true.2 h

theorem ba_neq {x y : ByteArray} (h : x ≠ y) : (x.toList == y.toList) = false := by
  cases e : (x.toList == y.toList) with
  | false => rfl
  | true => exact absurd (ba_eq' e) h

theorem two_boxes (w : World) (o1 o2 : Obj) : Below w.heap.size w ((w.alloc o1).alloc o2) := (((Below.refl _ _).alloc (Nat.le_refl _) _).alloc (by simp) _)

theorem boxes_cell {w wr : World} {x1 x2 : Array Value} {t1 t2 : TypeId} (h : Below (w.heap.size + 2) ((w.alloc (.cells x1 t1)).alloc (.cells x2 t2)) wr) (j : Nat) :
    wr.cell? ⟨w.heap.size, j, none⟩ = x1[j]? ∧ wr.cell? ⟨w.heap.size + 1, j, none⟩ = x2[j]? := by
  have e1 : ((w.alloc (.cells x1 t1)).alloc (.cells x2 t2)).cell? ⟨w.heap.size, j, none⟩ = x1[j]? := by
    rw [World.cell?_of_block (w := w.alloc (.cells x1 t1)) (a := ⟨w.heap.size, j, none⟩) (Below.heap_alloc _ _ _ (by simp)), World.cell?_alloc_at _ _ _ _ rfl]
  have e2 : ((w.alloc (.cells x1 t1)).alloc (.cells x2 t2)).cell? ⟨w.heap.size + 1, j, none⟩ = x2[j]? := by
    rw [World.cell?_alloc_at _ _ _ _ (by simp)]
  exact ⟨(h.cell (p := ⟨w.heap.size, j, none⟩) (Nat.lt_add_of_pos_right (by decide))).trans e1, (h.cell (p := ⟨w.heap.size + 1, j, none⟩) (Nat.lt_succ_self _)).trans e2⟩

set_option maxHeartbeats 4000000 in
set_option maxRecDepth 100000 in
theorem rsame_any (T : Tm) : ∀ l t ys, T = .mk l t ys → ∀ T' l' t' ys', T' = .mk l' t' ys' → ∀ (Z Z' : Nat → Prop) (w : World) (a a' : Option Addr) (c c' : Nat), SlL Z w (.slice a ys.length c) ys → SlL Z' w (.slice a' ys'.length c') ys' →
    Calls Tryd.prog 14 #[fv l t (.slice a ys.length c), fv l' t' (.slice a' ys'.length c')] w fun e w' => e = .returned (.bool (sameB T T')) ∧ Below w.heap.size w w' := by
  induction T using Tm.ind with
  | h l t xs ih =>
    rintro _ _ ys ⟨⟩ T' l' t' ys' rfl Z Z' w a a' c c' hsl hsl'
    obtain ⟨n, hn⟩ : ∃ n, n = xs.length := ⟨_, rfl⟩
    obtain ⟨m, hm⟩ : ∃ m, m = ys'.length := ⟨_, rfl⟩
    have hnm : n ≤ 9223372036854775807 := by
      obtain ⟨_, _, _, h1, h2⟩ := hsl.form
      unfold maxLen at h2
      omega
    have hmm : m ≤ 9223372036854775807 := by
      obtain ⟨_, _, _, h1, h2⟩ := hsl'.form
      unfold maxLen at h2
      omega
    rw [← hn] at hsl ⊢
    rw [← hm] at hsl' ⊢
    by_cases hl : l = l'
    · subst hl
      by_cases ht : t = t'
      · subst ht
        by_cases hlen : n = m
        · have HN := Lib.hid hn
          have HM := Lib.hid hm
          have HS := Lib.hid hsl
          have HS' := Lib.hid hsl'
          have IH := Lib.hid ih
          subst hlen
          clear hn hm hsl hsl' ih
          go_enter Tryd.func14, Tryd.ntmps14
          go_wp2_with fail
          go_loopw [5] (fun i wr => ∃ k : Nat, k ≤ n ∧ i = .int .i64 k ∧ xs.take k = ys'.take k ∧ Below (w.heap.size + 2) ((w.alloc (.cells #[.bool l, .string t, .slice a n c] 24)).alloc (.cells #[.bool l, .string t, .slice a' n c'] 24)) wr) (fun i _ => n - (intOf i).toNat)
          case atStart => exact ⟨0, Nat.zero_le _, rfl, rfl, Below.refl _ _⟩
          case round =>
            obtain ⟨k, hk, rfl, htk, hbel⟩ := hrel
            have hb0 : Below w.heap.size w wr := (two_boxes _ _ _).trans (hbel.mono (by omega))
            have hcb : wr.cell? ⟨w.heap.size, 2, none⟩ = some (.slice a n c) := (boxes_cell hbel 2).1
            have hcb2 : wr.cell? ⟨w.heap.size + 1, 2, none⟩ = some (.slice a' n c') := (boxes_cell hbel 2).2
            have HB := Lib.hid hbel
            have HB0 := Lib.hid hb0
            have HT := Lib.hid htk
            clear hbel hb0 htk
            by_cases hlt : k < n
            · obtain ⟨x, hx⟩ : ∃ x, xs[k]? = some x := ⟨xs[k]'(by rw [← HN.out]; exact hlt), by simp⟩
              obtain ⟨y, hy⟩ : ∃ y, ys'[k]? = some y := ⟨ys'[k]'(by rw [← HM.out]; exact hlt), by simp⟩
              obtain ⟨l1, t1, ys1⟩ := x
              obtain ⟨l2, t2, ys2⟩ := y
              obtain ⟨b, o, e1, hv, h1, h2, h3, h4, h5⟩ := HS.out.pos (by rintro rfl; simp at hx)
              injection hv with ea en ec
              subst ea
              obtain ⟨b', o', e1', hv', h1', h2', h3', h4', h5'⟩ := HS'.out.pos (by rintro rfl; simp at hy)
              injection hv' with ea' en' ec'
              subst ea'
              obtain ⟨a1, c1, q1, q2, q3, q4, q5⟩ := h5 k l1 t1 ys1 hx
              obtain ⟨a2, c2, r1, r2, r3, r4, r5⟩ := h5' k l2 t2 ys2 hy
              obtain ⟨m1, hm1⟩ : ∃ m, m = ys1.length := ⟨_, rfl⟩
              obtain ⟨m2, hm2⟩ : ∃ m, m = ys2.length := ⟨_, rfl⟩
              obtain ⟨r, hr⟩ : ∃ r, r = sameB (.mk l1 t1 ys1) (.mk l2 t2 ys2) := ⟨_, rfl⟩
              have hc : ∀ wz, Below w.heap.size w wz → Calls Tryd.prog 14 #[fv l1 t1 (.slice a1 m1 c1), fv l2 t2 (.slice a2 m2 c2)] wz fun e w' => e = .returned (.bool r) ∧ Below wz.heap.size wz w' := by
                rw [hr, hm1, hm2]
                exact fun wz hz => IH.out _ (List.mem_of_getElem? hx) l1 t1 ys1 rfl _ l2 t2 ys2 rfl Z Z' wz a1 a2 c1 c2 (q5.keep hz) (r5.keep hz)
              have d1 : wr.cell? ⟨b, o + k * 3, none⟩ = some (.bool l1) := (HB0.out.cell (p := ⟨b, o + k * 3, none⟩) h4).trans q1
              have d2 : wr.cell? ⟨b, o + k * 3 + 1, none⟩ = some (.string t1) := (HB0.out.cell (p := ⟨b, o + k * 3 + 1, none⟩) h4).trans q2
              have d3 : wr.cell? ⟨b, o + k * 3 + 2, none⟩ = some (.slice a1 m1 c1) := (HB0.out.cell (p := ⟨b, o + k * 3 + 2, none⟩) h4).trans (by rw [hm1]; exact q3)
              have g1 : wr.cell? ⟨b', o' + k * 3, none⟩ = some (.bool l2) := (HB0.out.cell (p := ⟨b', o' + k * 3, none⟩) h4').trans r1
              have g2 : wr.cell? ⟨b', o' + k * 3 + 1, none⟩ = some (.string t2) := (HB0.out.cell (p := ⟨b', o' + k * 3 + 1, none⟩) h4').trans r2
              have g3 : wr.cell? ⟨b', o' + k * 3 + 2, none⟩ = some (.slice a2 m2 c2) := (HB0.out.cell (p := ⟨b', o' + k * 3 + 2, none⟩) h4').trans (by rw [hm2]; exact r3)
              have HC := Lib.hid hc
              have HX := Lib.hid hx
              have HY := Lib.hid hy
              have HR := Lib.hid hr
              have h01 : (0 : Int) ≤ k := by omega
              have h02 : (k : Int) < n := by omega
              have hbd : Below w.heap.size w wr.drew := HB0.out.drew
              have hbd2 := HB.out.drew
              have HBD := Lib.hid hbd
              have HBD2 := Lib.hid hbd2
              clear hc hx hy hr hm1 hm2 q1 q2 q3 q4 q5 r1 r2 r3 r4 r5 h1 h2 h3 h4 h5 en ec h1' h2' h3' h4' h5' en' ec' hbd hbd2
              go_wp2_with fail
              go_still_tail 10, (by kernel_rfl)
              change wpList _ _ _ _ _ wr.drew
              generalize wr.drew = wx at HBD HBD2 ⊢
              cases r with
              | true =>
                go_wp2_with (go_at_call 14; refine (HC.out _ HBD.out).mono ?_; rintro e w2 ⟨rfl, hb2⟩; have HB2 := Lib.hid hb2; clear hb2)
                refine ⟨⟨k + 1, hlt, by go_num, ?_, HBD2.out.trans (HB2.out.mono (by have := HBD2.out.size; simp at this; omega))⟩, by simp [intOf]; omega⟩
                exact take_succ_eq HT.out HX.out HY.out (sameB_true.1 HR.out.symm)
              | false =>
                go_wp2_with (go_at_call 14; refine (HC.out _ HBD.out).mono ?_; rintro e w2 ⟨rfl, hb2⟩; have HB2 := Lib.hid hb2; clear hb2)
                go_ret
                refine ⟨ret_bool ?_, HBD.out.trans (HB2.out.mono HBD.out.size)⟩
                rw [sameB_no]
                rintro ⟨⟩
                have e := HX.out.symm.trans HY.out
                have e2 := HR.out
                rw [sameB_yes (Option.some.inj e)] at e2
                cases e2
            · have hke : k = n := by omega
              go_wp2_with fail
              go_ret
              refine ⟨ret_bool ?_, HB0.out⟩
              have e := HT.out
              rw [List.take_of_length_le (by rw [← HN.out]; omega), List.take_of_length_le (by rw [← HM.out]; omega)] at e
              rw [e, sameB_yes rfl]
        · have hne : ((n : Int) != (m : Int)) = true := by rw [bne_iff_ne]; omega
          rw [sameB_no (by rintro ⟨⟩; exact hlen (hn.trans hm.symm))]
          clear hsl hsl' ih hn hm hlen
          go_enter Tryd.func14, Tryd.ntmps14
          go_wp2_with fail
          go_ret
          exact ⟨rfl, two_boxes _ _ _⟩
      · have e1 := ba_neq ht
        rw [sameB_no (by rintro ⟨⟩; exact ht rfl)]
        clear hsl hsl' ih hn hm ht
        cases l
        all_goals
          go_enter Tryd.func14, Tryd.ntmps14
          go_wp2_with fail
          go_ret
          exact ⟨rfl, two_boxes _ _ _⟩
    · rw [sameB_no (by rintro ⟨⟩; exact hl rfl)]
      clear hsl hsl' ih hn hm
      have e : (l != l') = true := by simpa using hl
      cases l <;> cases l' <;> first | (exact absurd rfl hl) | skip
      all_goals
        clear hl e
        go_enter Tryd.func14, Tryd.ntmps14
        go_wp2_with fail
        go_ret
        exact ⟨rfl, two_boxes _ _ _⟩
end Go.Proofs.YtapplhoglmihbaaDoor
