/- The contract of the writer's form. -/
import Derived.Test.YthamfbfeokmhgaaGreatDoorU8
set_option linter.unusedVariables false
namespace Go.Proofs.YthamfbfeokmhgaaGreatDoor
open Go.ChangeShapes Go.WideShapes Go.ChangeAt Go.RowKit
open Go.Lib (decDigits itoa)

theorem canW_list {d : Nat} {out : List UInt8} {t : ByteArray} {xs : List Tm} : CanW d out (.mk true t xs) ↔ t.size = 0 ∧ Tm.oks xs = true ∧ d + (Tm.depths xs + 1) ≤ 8 ∧ out.length + ((Tm.bytess xs).length + 2) ≤ 65536 := by
  unfold CanW
  rw [Tm.ok_list, Tm.depth_list, Tm.bytes_list]
  simp only [Bool.and_eq_true, decide_eq_true_eq, List.length_cons, List.length_append, List.length_nil, Nat.zero_add, and_assoc, Nat.add_assoc, Nat.reduceAdd]

def Done (d : Nat) (out : List UInt8) (xs : List Tm) (k : Nat) (outk : List UInt8) : Prop :=
  outk = out ++ 40 :: Tm.bytess (xs.take k) ∧ Tm.oks (xs.take k) = true ∧ d + (Tm.depths (xs.take k) + 1) ≤ 8

theorem Done.next {d k : Nat} {out outk : List UInt8} {xs : List Tm} {x : Tm} (h : Done d out xs k outk) (hx : xs[k]? = some x) (hc : CanW (d + 1) outk x) : Done d out xs (k + 1) (outk ++ x.bytes) := by
  obtain ⟨h1, h2, h3⟩ := h
  obtain ⟨c1, c2, c3⟩ := hc
  refine ⟨?_, ?_, ?_⟩
  · rw [h1, take_snoc hx, Tm.bytess_app]; simp [Tm.bytess]
  · rw [take_snoc hx, Tm.oks_app, h2]; simp [Tm.oks, c1]
  · rw [take_snoc hx, Tm.depths_app]
    have : Tm.depths [x] = x.depth := by simp [Tm.depths]
    omega
theorem Done.need {d k : Nat} {out outk : List UInt8} {t : ByteArray} {xs : List Tm} {x : Tm} (h : Done d out xs k outk) (hx : xs[k]? = some x) (hc : CanW d out (.mk true t xs)) : CanW (d + 1) outk x := by
  obtain ⟨c1, c2, c3, c4⟩ := canW_list.1 hc
  have hm := List.mem_of_getElem? hx
  refine ⟨Tm.oks_iff.1 c2 x hm, ?_, ?_⟩
  · have := Tm.depths_le.1 (Nat.le_refl (Tm.depths xs)) x hm
    omega
  · have := Tm.bytess_get xs k x hx
    rw [h.1, List.length_append, List.length_cons]
    omega

set_option maxHeartbeats 2000000 in
set_option maxRecDepth 100000 in
theorem wform_any (T : Tm) : ∀ l t xs, T = .mk l t xs → ∀ (Z : Nat → Prop) (w : World) (a : Option Addr) (c bw : Nat) (v : Value) (out : List UInt8) (d : Nat), SlL Z w (.slice a xs.length c) xs → t.size ≤ 140737488355328 → (∀ i, Z i → i < bw) → Wr bw w v out → HasTab w → 7 < bw → d ≤ 8 →
    Calls Tryz.prog 71 #[.pointer (some ⟨bw, 0, none⟩), fv l t (.slice a xs.length c), .int .i64 (d : Nat)] w (FormP T bw v out d w) := by
  induction T using Tm.ind with
  | h l t xs ih =>
    rintro _ _ _ ⟨⟩ Z w a c bw v out d hsl hts hz hw htab htg hd
    have hlm : xs.length ≤ maxLen := by obtain ⟨_, _, _, h1, h2⟩ := hsl.form; omega
    cases l with
    | false => exact wform_text t xs w a c bw v out d hlm hts hw htab htg hd
    | true =>
      have hlt := cell_lt hw.cell
      have hown := fun g hg => (hw.row.lt g hg).2
      obtain ⟨n, hn⟩ : ∃ n, n = xs.length := ⟨_, rfl⟩
      rw [← hn] at hsl hlm ⊢
      have c1 := fun wz => fright_any true t a n c wz hlm
      have hW0 : ∀ o, WOff bw w v (w.alloc o) v := fun o => (WOff.refl _ _ _).alloc o
      have HW := Lib.hid hw
      have HT := Lib.hid htab
      have HO := Lib.hid hown
      have HN := Lib.hid hn
      have HS := Lib.hid hsl
      have IH := Lib.hid ih
      have HZ := Lib.hid hz
      have hnm : n ≤ 9223372036854775807 := by unfold maxLen at hlm; exact hlm
      clear hw htab hown hn hsl ih hz hlm
      by_cases ht : t.size = 0
      · have hr : rightB true t n = true := by simp [rightB, ht]
        rw [hr] at c1
        have C1 := Lib.hid c1
        have HTZ := Lib.hid ht
        clear c1 hr hts ht
        by_cases hd8 : d = 8
        · have HD8 := Lib.hid hd8
          subst hd8
          clear HD8
          have hnc : ¬ CanW 8 out (.mk true t xs) := fun h => by have := (canW_list.1 h).2.2.1; omega
          have HNC := Lib.hid hnc
          clear hnc
          go_enter Tryz.func71, Tryz.ntmps71
          go_wp2_with fail
          refine (C1.out _).mono ?_
          rintro e w1 ⟨rfl, hb1⟩
          have hW1 : WOff bw (w.alloc (.cells #[.bool true, .string t, .slice a n c] 101)) v w1 v := WOff.of_below hb1
          have hw1 : Wr bw w1 v out := (HW.out.below ((Below.refl _ _).alloc (Nat.le_refl _) _)).below hb1
          obtain ⟨k1, k2, k3⟩ := box3o hW1 hlt HO.out
          have HW1 := Lib.hid hW1
          have HWR1 := Lib.hid hw1
          clear hb1 hW1 hw1
          go_wp2_with fail
          go_ret
          exact ⟨false, v, out, rfl, HWR1.out, (hW0 _).trans HW1.out, (fun h => by cases h), fun _ => HNC.out⟩
        · have hd7 : ((d : Int) == 8) = false := by rw [beq_eq_false_iff_ne]; omega
          obtain ⟨r1, hr1⟩ : ∃ r, r = decide (out.length + (⟨#[40]⟩ : ByteArray).size ≤ 65536) := ⟨_, rfl⟩
          have HR1 := Lib.hid hr1
          have HD8 := Lib.hid hd8
          clear hr1 hd8
          go_enter Tryz.func71, Tryz.ntmps71
          go_wp2_with fail
          refine (C1.out _).mono ?_
          rintro e w1 ⟨rfl, hb1⟩
          have hW1 : WOff bw (w.alloc (.cells #[.bool true, .string t, .slice a n c] 101)) v w1 v := WOff.of_below hb1
          have hw1 : Wr bw w1 v out := (HW.out.below ((Below.refl _ _).alloc (Nat.le_refl _) _)).below hb1
          obtain ⟨k1, k2, k3⟩ := box3o hW1 hlt HO.out
          have HW1 := Lib.hid hW1
          have HWR1 := Lib.hid hw1
          clear hb1 hW1 hw1
          go_wp2_with fail
          refine (put_any ⟨#[40]⟩ bw v out w1 HWR1.out (by decide) r1 HR1.out).mono ?_
          rintro e w2 ⟨rfl, v2, out2, hw2, ho2, hq2⟩
          have HW2 := Lib.hid (HW1.out.trans ho2)
          have HWR2 := Lib.hid hw2
          have HQ2 := Lib.hid hq2
          clear hw2 ho2 hq2 k1 k2 k3
          obtain ⟨k1, k2, k3⟩ := box3o HW2.out hlt HO.out
          cases r1 with
          | false =>
            go_wp2_with fail
            go_ret
            refine ⟨false, v2, out2, rfl, HWR2.out, (hW0 _).trans HW2.out, (fun h => by cases h), fun _ h => ?_⟩
            have h1 := (canW_list.1 h).2.2.2
            have h2 := HR1.out
            rw [eq_comm, decide_eq_false_iff_not] at h2
            apply h2
            show out.length + 1 ≤ 65536
            omega
          | true =>
            have hdn : Done d out xs 0 out2 := by
              refine ⟨by rw [HQ2.out]; simp [Tm.bytess], rfl, ?_⟩
              have := HD8.out
              simp [Tm.depths]; omega
            have HDN := Lib.hid hdn
            have HO2 := Lib.hid ((hW0 _).trans HW2.out)
            clear hdn
            go_wp2_with fail
            clear k1 k2 k3
            go_loopw [41] (fun i wr => ∃ (k : Nat) (vk : Value) (outk : List UInt8), k ≤ n ∧ i = .int .i64 k ∧ Wr bw wr vk outk ∧ WOff bw w v wr vk ∧ Done d out xs k outk) (fun i _ => n - (intOf i).toNat)
            case atStart => exact ⟨0, v2, out2, Nat.zero_le _, rfl, HWR2.out, HO2.out, HDN.out⟩
            case round =>
              obtain ⟨k, vk, outk, hk, rfl, hwk, hok, hdk⟩ := hrel
              have HWK := Lib.hid hwk
              have HOK := Lib.hid hok
              have HDK := Lib.hid hdk
              clear hwk hok hdk
              by_cases hlk : k < n
              · obtain ⟨x, hx⟩ : ∃ x, xs[k]? = some x := ⟨xs[k]'(by rw [← HN.out]; exact hlk), by simp⟩
                obtain ⟨l1, t1, ys1⟩ := x
                obtain ⟨b, o, c', hv, h1, h2, h3, h4, h5⟩ := HS.out.pos (by rintro rfl; simp at hx)
                injection hv with ea en ec
                subst ea
                obtain ⟨a1, c1, q1, q2, q3, q4, q5⟩ := h5 k l1 t1 ys1 hx
                have hzo : ∀ i, Z i → ¬ (i = bw ∨ v.ownBlock = some i) := fun i hi h => by
                  have h0 := HZ.out i hi
                  rcases h with h | h
                  · omega
                  · have := (HW.out.row.lt i h).1
                    omega
                have d1 : wr.cell? ⟨b, o + k * 3, none⟩ = some (.bool l1) := (HOK.out.off.cell (p := ⟨b, o + k * 3, none⟩) h4 (hzo b h3)).trans q1
                have d2 : wr.cell? ⟨b, o + k * 3 + 1, none⟩ = some (.string t1) := (HOK.out.off.cell (p := ⟨b, o + k * 3 + 1, none⟩) h4 (hzo b h3)).trans q2
                have d3 : wr.cell? ⟨b, o + k * 3 + 2, none⟩ = some (.slice a1 ys1.length c1) := (HOK.out.off.cell (p := ⟨b, o + k * 3 + 2, none⟩) h4 (hzo b h3)).trans q3
                have htw : HasTab wr := HT.out.keep (HOK.out.off.block _ HT.out.lt (fun h => by
                  rcases h with h | h
                  · omega
                  · have := (HW.out.row.lt _ h).1
                    omega))
                have hc : ∀ wz, Below wr.heap.size wr wz → Calls Tryz.prog 71 #[.pointer (some ⟨bw, 0, none⟩), fv l1 t1 (.slice a1 ys1.length c1), .int .i64 (d + 1 : Nat)] wz (FormP (.mk l1 t1 ys1) bw vk outk (d + 1) wz) := fun wz hz =>
                  IH.out _ (List.mem_of_getElem? hx) l1 t1 ys1 rfl Z wz a1 c1 bw vk outk (d + 1) ((q5.off HOK.out.off hzo).keep hz) q4 HZ.out (HWK.out.below hz) (htw.below hz) htg (by have := HD8.out; omega)
                obtain ⟨m1, hm1⟩ : ∃ m, m = ys1.length := ⟨_, rfl⟩
                rw [← hm1] at hc d3
                have HC := Lib.hid hc
                have HX := Lib.hid hx
                have h01 : (0 : Int) ≤ k := by omega
                have h02 : (k : Int) < n := by omega
                clear hc hx hm1 q1 q2 q3 q4 q5 h1 h2 h3 h4 h5 en ec hzo htw
                go_wp2_with fail
                refine (HC.out _ ((Below.refl _ _).alloc (Nat.le_refl _) _)).mono ?_
                rintro e w3 ⟨r, v3, out3, rfl, hw3, ho3, hy3, hn3⟩
                have HW3 := Lib.hid hw3
                have HO3 := Lib.hid ((HOK.out.alloc _).trans ho3)
                have HY3 := Lib.hid hy3
                have HN3 := Lib.hid hn3
                clear hw3 ho3 hy3 hn3
                cases r with
                | true =>
                  go_wp2_with fail
                  obtain ⟨i1, i2⟩ := HY3.out (by trivial)
                  refine ⟨⟨k + 1, v3, out3, hlk, by go_num, HW3.out, HO3.out, ?_⟩, by simp [intOf]; omega⟩
                  rw [i2]
                  exact HDK.out.next HX.out i1
                | false =>
                  go_wp2_with fail
                  go_ret
                  exact ⟨false, v3, out3, rfl, HW3.out, HO3.out, (fun h => by cases h), fun _ h => HN3.out (by trivial) (HDK.out.need HX.out h)⟩
              · have hke : k = n := by omega
                obtain ⟨r2, hr2⟩ : ∃ r, r = decide (outk.length + (⟨#[41]⟩ : ByteArray).size ≤ 65536) := ⟨_, rfl⟩
                have HR2 := Lib.hid hr2
                have HKE := Lib.hid hke
                have hge : ¬ (k : Int) < n := by omega
                clear hr2 hke
                go_wp2_with fail
                refine (put_any ⟨#[41]⟩ bw vk outk wr HWK.out (by decide) r2 HR2.out).mono ?_
                rintro e w3 ⟨rfl, v3, out3, hw3, ho3, hq3⟩
                have HW3 := Lib.hid hw3
                have HO3 := Lib.hid (HOK.out.trans ho3)
                have HQ3 := Lib.hid hq3
                clear hw3 ho3 hq3
                go_wp2_with fail
                go_ret
                obtain ⟨g1, g2, g3⟩ := HDK.out
                rw [List.take_of_length_le (by rw [← HN.out]; exact Nat.le_of_eq HKE.out.symm)] at g1 g2 g3
                have hcan : CanW d out (.mk true t xs) ↔ outk.length + 1 ≤ 65536 := by
                  rw [canW_list, g1, List.length_append, List.length_cons]
                  constructor
                  · rintro ⟨_, _, _, h⟩; omega
                  · intro h; exact ⟨HTZ.out, g2, g3, by omega⟩
                cases r2 with
                | true =>
                  refine ⟨true, v3, out3, rfl, HW3.out, HO3.out, (fun _ => ⟨hcan.2 ?_, ?_⟩), fun h => by cases h⟩
                  · have h2 := HR2.out
                    rw [eq_comm, decide_eq_true_iff] at h2
                    exact h2
                  · rw [HQ3.out, Tm.bytes_list, g1]; simp
                | false =>
                  refine ⟨false, v3, out3, rfl, HW3.out, HO3.out, (fun h => by cases h), fun _ h => ?_⟩
                  have h2 := HR2.out
                  rw [eq_comm, decide_eq_false_iff_not] at h2
                  exact h2 (hcan.1 h)
      · have hr : rightB true t n = false := by simp [rightB, ht]
        rw [hr] at c1
        have C1 := Lib.hid c1
        have hnc : ¬ CanW d out (.mk true t xs) := fun h => ht (canW_list.1 h).1
        have HNC := Lib.hid hnc
        clear c1 hr hnc hts ht
        go_enter Tryz.func71, Tryz.ntmps71
        go_wp2_with fail
        refine (C1.out _).mono ?_
        rintro e w1 ⟨rfl, hb1⟩
        have hW1 : WOff bw (w.alloc (.cells #[.bool true, .string t, .slice a n c] 101)) v w1 v := WOff.of_below hb1
        have hw1 : Wr bw w1 v out := (HW.out.below ((Below.refl _ _).alloc (Nat.le_refl _) _)).below hb1
        have HW1 := Lib.hid hW1
        have HWR1 := Lib.hid hw1
        clear hb1 hW1 hw1
        go_wp2_with fail
        go_ret
        exact ⟨false, v, out, rfl, HWR1.out, (hW0 _).trans HW1.out, (fun h => by cases h), fun _ => HNC.out⟩
end Go.Proofs.YthamfbfeokmhgaaGreatDoor
