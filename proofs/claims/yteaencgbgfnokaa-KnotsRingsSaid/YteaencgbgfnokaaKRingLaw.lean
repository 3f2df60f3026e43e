/- The law KnotsRings, walked. -/
import Derived.Test.YteaencgbgfnokaaKGcd
import Derived.Test.YteaencgbgfnokaaKTurnM
set_option linter.unusedVariables false
namespace Go.Proofs.Yteaencgbgfnokaa
open Go.ChangeShapes Go.WideShapes Go.ChangeAt Go.RowKit

theorem evs_one {es : Ed} : ∀ u ∈ evs es, u.oneCell' = true := by
  intro u hu
  obtain ⟨e, _, h⟩ := List.mem_flatMap.1 hu
  simp only [List.mem_cons, List.not_mem_nil, or_false] at h
  rcases h with rfl | rfl <;> rfl

set_option maxHeartbeats 4000000 in
set_option maxRecDepth 100000 in
theorem kring_law (n t c : Int) (w : World) (hn1 : -9223372036854775808 ≤ n) (hn2 : n ≤ 9223372036854775807) (ht1 : -9223372036854775808 ≤ t) (ht2 : t ≤ 9223372036854775807) (hc1 : -9223372036854775808 ≤ c) (hc2 : c ≤ 9223372036854775807) :
    Calls Try.prog 4 #[.int .i64 n, .int .i64 t, .int .i64 c] w fun e w' => e = .returned (.bool true) ∧ Below w.heap.size w w' := by
  have AW := Lib.hid (kawake_any w)
  go_enter Try.func4, Try.ntmps4
  go_wp2_with fail
  refine AW.out.mono ?_
  rintro e w2 ⟨rfl, hb2⟩
  have HB2 := Lib.hid hb2
  clear hb2 AW
  by_cases hg1 : n < 2
  · go_wp2_with fail
    go_ret
    exact ⟨rfl, HB2.out⟩
  by_cases hg2 : 2000 < n
  · go_wp2_with fail
    go_ret
    exact ⟨rfl, HB2.out⟩
  obtain ⟨N, rfl⟩ : ∃ N : Nat, n = (N : Int) := ⟨n.toNat, by omega⟩
  have hN1 : 2 ≤ N := by omega
  have hN9 : N ≤ 2000 := by omega
  obtain ⟨r, st, hr1, hr2, hr3, hr4, hst⟩ := rem_placeR t (n := N) (by omega)
  obtain ⟨q, cu, hq1, hq2, hq3, hq4, hcu⟩ := rem_placeR c (n := N) (by omega)
  have HQ1 := Lib.hid hq1
  have HQ4 := Lib.hid hq4
  clear hq1 hq4
  have hN0 : ¬ (N : Int) = 0 := by omega
  have hN00 : ¬ N = 0 := by omega
  go_wp2_with fail
  go_loopw [7] (fun sv wr => ∃ s : Nat, sv = .int .i64 (s : Nat) ∧ s ≤ N + 1 ∧ Hid (Below w2.heap.size w2 wr)) (fun sv _ => N + 2 - (intOf sv).toNat)
  case atStart => exact ⟨st, rfl, by omega, Lib.hid (Below.refl _ _)⟩
  case round =>
    clear hr1 hr4
    obtain ⟨s, rfl, hs, HB⟩ := hrel
    have GC := Lib.hid (gcd_any s N wr (by omega) (by omega))
    go_wp2_with fail
    refine GC.out.mono ?_
    rintro e w3 ⟨rfl, hb3⟩
    have HB3 := Lib.hid (HB.out.trans (hb3.mono HB.out.size))
    clear hb3 GC HB
    by_cases hg : Nat.gcd s N = 1
    · have HG := Lib.hid hg
      have hgI : ((Nat.gcd s N : Nat) : Int) = 1 := by omega
      obtain ⟨gg, hgg⟩ : ∃ gg : Nat, gg = Nat.gcd s N := ⟨_, rfl⟩
      rw [← hgg] at hgI ⊢
      obtain rfl : gg = 1 := by omega
      clear hg hgg hgI
      go_wp2_with fail
      go_loopw [8, 37] (fun ov jv wr => ∃ i : Nat, jv = .int .i64 (i : Nat) ∧ i ≤ N ∧ Hid (Row 2 w3.heap.size wr ov i (evs (toI (ringE N s i)))) ∧ Hid (Below w3.heap.size w3 wr)) (fun _ jv _ => N - (intOf jv).toNat)
      case atStart => exact ⟨0, rfl, Nat.zero_le _, Lib.hid (Row.nil _ _ _), Lib.hid (Below.refl _ _)⟩
      case round =>
        obtain ⟨i, rfl, hiN, HO, HB⟩ := hrel
        obtain ⟨oa, oc, rfl⟩ := HO.out.form
        by_cases hlt : i < N
        · obtain ⟨p1, hp1⟩ : ∃ p1, p1 = i * s := ⟨_, rfl⟩
          obtain ⟨p2, hp2⟩ : ∃ p2, p2 = (i + 1) * s := ⟨_, rfl⟩
          have hb1 : p1 ≤ 2000 * 2001 := by rw [hp1]; exact Nat.mul_le_mul (by omega) (by omega)
          have hb2 : p2 ≤ 2001 * 2001 := by rw [hp2]; exact Nat.mul_le_mul (by omega) (by omega)
          have hm1 : (i : Int) * (s : Int) = (p1 : Int) := by rw [hp1, Int.natCast_mul]
          have hm2 : ((i : Int) + 1) * (s : Int) = (p2 : Int) := by rw [hp2, Int.natCast_mul]; rfl
          obtain ⟨a, ha⟩ : ∃ a, a = p1 % N := ⟨_, rfl⟩
          obtain ⟨b, hb⟩ : ∃ b, b = p2 % N := ⟨_, rfl⟩
          have ht1 : Int.tmod (p1 : Int) (N : Int) = (a : Int) := by rw [ha]; exact (Int.ofNat_tmod _ _).symm
          have ht2 : Int.tmod (p2 : Int) (N : Int) = (b : Int) := by rw [hb]; exact (Int.ofNat_tmod _ _).symm
          have hst := ringE_step N s i
          rw [← hp1, ← hp2, ← ha, ← hb] at hst
          have HST := Lib.hid hst
          have hsrc : Src Try.prog 2 22 (.slice (some ⟨wr.heap.size, 0, none⟩) 1 1) 1 [.int .i64 (a : Int), .int .i64 (b : Int)] (wr.alloc (.cells #[.int .i64 (a : Int), .int .i64 (b : Int)] 31)).drew := src_newD (k := 2) Try.underlying22 [.int .i64 (a : Int), .int .i64 (b : Int)] 1 31 1 rfl onePr
          have HSRC := Lib.hid hsrc
          have HRA := Lib.hid ((HO.out.alloc (.cells #[.int .i64 (a : Int), .int .i64 (b : Int)] 31)).drew)
          have hsz := HB.out.size
          have hszw : w3.heap.size ≤ (wr.alloc (.cells #[.int .i64 (a : Int), .int .i64 (b : Int)] 31)).drew.heap.size := by show _ ≤ (wr.alloc _).heap.size; simp; omega
          have hw1 : IntKind.i64.wrap (p1 : Int) = (p1 : Int) := by rw [IntKind.wrap_i64]; omega
          have hw2 : IntKind.i64.wrap (p2 : Int) = (p2 : Int) := by rw [IntKind.wrap_i64]; omega
          have hw3 : IntKind.i64.wrap ((i : Int) + 1) = (i : Int) + 1 := by rw [IntKind.wrap_i64]; omega
          clear hp1 hp2 ha hb hst hsrc
          go_wp2_with fail
          go_region_law (refine step_append_row rfl (.tmp 40) (.tmp 53) 22 22 rfl 2 31 (.agg #[.int .i64 0, .int .i64 0]) 16 Try.underlying22 infoPr rfl w3.heap.size (.slice oa i oc) i (evs (toI (ringE N s i))) (by simp [Act.eval]) HRA.out (.slice (some ⟨wr.heap.size, 0, none⟩) 1 1) (by simp [Act.eval]) 1 [.int .i64 (a : Int), .int .i64 (b : Int)] HSRC.out hszw (by omega) (by decide) ?_; intro v6 w6 hr6 ho6 hw6; obtain ⟨a6, c6, hv6⟩ := hr6.form; subst hv6; have HR6 := Lib.hid hr6; have HO6 := Lib.hid ho6; have HW6 := Lib.hid hw6; clear hr6 ho6 hw6)
          all_goals
            go_wp2_with fail
            have hoa : Off (fun b => (Value.slice oa i oc).ownBlock = some b) wr w6 := ((Off.refl _ wr).alloc _).drew.trans HO6.out
            have hb6 : Below w3.heap.size w3 w6 := HB.out.trans (hoa.below (B := w3.heap.size) (fun b hb => (HO.out.lt b hb).1) HB.out.size)
            have hr6 : Row 2 w3.heap.size w6 (.slice a6 (i + 1) c6) (i + 1) (evs (toI (ringE N s (i + 1)))) := by rw [HST.out, evs_snoc]; exact HR6.out
            exact ⟨⟨i + 1, by go_num, by omega, Lib.hid hr6, Lib.hid hb6⟩, by simp [intOf]; omega⟩
        · have hii : N = i := by omega
          have hl5 : (toI (ringE N s N)).length = N := by simp [toI, ringE]
          have HE5 : Hid (RE wr (.slice oa N oc) (toI (ringE N s N))) := Lib.hid (RE.ofRow (B := w3.heap.size) (by rw [hl5]; have h := HO.out; rw [← hii] at h; exact h))
          have HROW : Hid (Row 2 w3.heap.size wr (.slice oa N oc) N (evs (toI (ringE N s N)))) := Lib.hid (by have h := HO.out; rw [← hii] at h; exact h)
          have HB5 := Lib.hid (HB2.out.trans ((HB3.out.trans (HB.out.mono HB3.out.size)).mono HB2.out.size))
          subst hii
          clear HO HB
          obtain ⟨w5, hw5⟩ : ∃ w5, w5 = wr := ⟨_, rfl⟩
          rw [← hw5] at HE5 HROW HB5 ⊢
          clear hw5
          have K1 := Lib.hid (knotsF_any (N : Int) (toI (ringE N s N)) (.slice oa N oc) w5 HE5.out (by rw [hl5]; omega) (by omega) (by omega))
          clear hl5
          go_wp2_with fail
          refine K1.out.mono ?_
          rintro e w6 ⟨kv, ks, rfl, hk1, hk2, hb6⟩
          rw [Int.toNat_natCast] at hk1 hk2
          obtain ⟨ka, kc, rfl⟩ := hk1.form
          have HK := Lib.hid hk1
          have HZ : Hid (∀ x, x < N → ks x = 0) := Lib.hid (fun x hx => by
            have h := hk2 x hx
            rw [amongL_ring (by omega)] at h
            exact h.unique (ring_least HG.out hx))
          have HB6 := Lib.hid (HB5.out.trans (hb6.mono HB5.out.size))
          have HE6 := Lib.hid (HE5.out.below hb6)
          have HROW6 := Lib.hid (HROW.out.below hb6)
          have hs56 := hb6.size
          clear hk1 hk2 hb6 K1 HE5 HROW
          go_wp2_with fail
          go_loopw [60] (fun jv wr => ∃ j : Nat, jv = .int .i64 (j : Nat) ∧ j ≤ N ∧ Hid (Below w6.heap.size w6 wr)) (fun jv _ => N - (intOf jv).toNat)
          case atStart => exact ⟨0, rfl, Nat.zero_le _, Lib.hid (Below.refl _ _)⟩
          case round =>
            obtain ⟨j, rfl, hjN, HB⟩ := hrel
            by_cases hlt : j < N
            · obtain ⟨kb, kc', hkv, _, _, hkc1, hkc2, _, hkx⟩ := (HK.out.below HB.out).pos (by omega)
              injection hkv with hk1 _ hk3
              subst hk1; subst hk3
              have cx := hkx j _ (bkv_at ks hlt)
              rw [HZ.out j hlt] at cx
              unfold maxLen at hkc2
              clear hkx
              go_wp2_with fail
              exact ⟨⟨j + 1, by go_num, by omega, HB⟩, by simp [intOf]; omega⟩
            · have hjj : N = j := by omega
              have HB7 := Lib.hid (HB6.out.trans (HB.out.mono HB6.out.size))
              have HE7 := Lib.hid (HE6.out.below HB.out)
              have HROW7 := Lib.hid (HROW6.out.below HB.out)
              have hs67 := HB.out.size
              subst hjj
              clear HB HK HZ HE6 HROW6
              have hr1 := HQ1.out
              have hr4 := HQ4.out
              go_wp2_with fail
              obtain ⟨F, hF⟩ : ∃ F, F = toI (ringE N s N) := ⟨_, rfl⟩
              have hFl : F.length = N := by rw [hF]; simp [toI, ringE]
              have HL : Hid (∀ x, x < N → ∀ k, LeastK (EdR (toN (amongL (N : Int) (F.take cu ++ F.drop (cu + 1))))) x k → k = x) := Lib.hid (fun x hx k h => h.unique (by
                rw [hF]; exact cut_ring HG.out hcu x))
              obtain ⟨xb, oc', hov, hxB, hxw, hoc1, hoc2, _, hox⟩ := HROW7.out.pos (by omega)
              injection hov with ho1 _ ho3
              subst ho1; subst ho3
              rw [← hF] at hox
              have hx1 : ∀ j u, (evs (F.take cu))[j]? = some u → wr.cell? ⟨xb, j, none⟩ = some u := fun j u hu => hox j u (evs_left hu)
              have hx2 : ∀ j u, (evs (F.drop (cu + 1)))[j]? = some u → wr.cell? ⟨xb, (cu + 1) * 2 + j, none⟩ = some u := fun j u hu => hox _ u (evs_right hu)
              have HX1 := Lib.hid hx1
              have HX2 := Lib.hid hx2
              have HFL := Lib.hid hFl
              have HHF := Lib.hid hF
              unfold maxLen at hoc2
              clear hx1 hx2 hox hF hFl
              have hr0 : Row 2 wr.heap.size (wr.alloc (.cells #[] 31)).drew (.slice (some ⟨wr.heap.size, 0, none⟩) 0 0) 0 [] := (row_new (Nat.le_refl _) rfl (Nat.le_refl _) (by unfold maxLen; omega) (by simp) (.inl rfl) (fun j u hu => by simp at hu)).drew
              have HR0 := Lib.hid hr0
              clear hr0
              have hwc : IntKind.i64.wrap ((cu : Int) + 1) = (cu : Int) + 1 := by rw [IntKind.wrap_i64]; omega
              have htn : ((cu : Int) + 1).toNat = cu + 1 := by omega
              have hci3 : (0 : Int) ≤ (cu : Int) + 1 := by omega
              have hci4 : (cu : Int) + 1 ≤ (N : Int) := by omega
              have hci5 : (cu : Int) ≤ (N : Int) := by omega
              have hcu1 : cu ≤ oc := by omega
              have hcu2 : cu + 1 ≤ oc := by omega
              have hTL : (evs (F.take cu)).length = cu * 2 := by rw [evs_len, List.length_take, HFL.out, Nat.min_eq_left (by omega)]
              have hDL : (evs (F.drop (cu + 1))).length = (N - (cu + 1)) * 2 := by rw [evs_len, List.length_drop, HFL.out]
              have HSA : Hid (∀ W : World, Below wr.heap.size wr W → Src Try.prog 2 22 (.slice (some ⟨xb, 0, none⟩) cu oc) cu (evs (F.take cu)) W) := Lib.hid (fun W hb => Src.ofSlice W Try.underlying22 ⟨xb, 0, none⟩ cu oc _ hTL (fun j u hu => by
                have := (hb.cell (p := ⟨xb, j, none⟩) hxw).trans (HX1.out j u hu)
                rw [Addr.add_lit, Nat.zero_add]; exact this) evs_one)
              have HKN := Lib.hid (fun (v : Value) (W : World) (h : Row 2 wr.heap.size W v (cu + (N - (cu + 1))) (evs (F.take cu) ++ evs (F.drop (cu + 1)))) => knotsF_any (N : Int) (F.take cu ++ F.drop (cu + 1)) v W (RE.ofRow (B := wr.heap.size) (by
                have hl : (F.take cu ++ F.drop (cu + 1)).length = cu + (N - (cu + 1)) := by rw [List.length_append, List.length_take, List.length_drop, HFL.out, Nat.min_eq_left (by omega)]
                rw [hl, evs_app]
                exact h)) (by rw [List.length_append, List.length_take, List.length_drop, HFL.out]; omega) (by omega) (by omega))
              have HB7w := HB7
              have HOB0 := Lib.hid (((Below.refl wr.heap.size wr).alloc (Nat.le_refl _) (.cells #[] 31)).drew)
              clear hTL
              obtain ⟨M, hM⟩ : ∃ M, N - (cu + 1) = M := ⟨_, rfl⟩
              obtain ⟨OC, hOC⟩ : ∃ OC, oc - (cu + 1) = OC := ⟨_, rfl⟩
              obtain ⟨sa, hsa⟩ : ∃ sa, (if oc = cu + 1 then some (⟨xb, 0, none⟩ : Addr) else some ⟨xb, (cu + 1) * 2, none⟩) = sa := ⟨_, rfl⟩
              have HSB : Hid (∀ W : World, Below wr.heap.size wr W → Src Try.prog 2 22 (.slice sa M OC) M (evs (F.drop (cu + 1))) W) := Lib.hid (fun W hb => by
                rw [← hsa, ← hM, ← hOC]
                by_cases hc : oc = cu + 1
                · rw [if_pos hc]
                  exact Src.ofSlice W Try.underlying22 ⟨xb, 0, none⟩ _ _ _ hDL (fun j u hu => by
                    have hl := (List.getElem?_eq_some_iff.1 hu).1
                    omega) evs_one
                · rw [if_neg hc]
                  exact Src.ofSlice W Try.underlying22 ⟨xb, (cu + 1) * 2, none⟩ _ _ _ hDL (fun j u hu => by
                    have := (hb.cell (p := ⟨xb, (cu + 1) * 2 + j, none⟩) hxw).trans (HX2.out j u hu)
                    rw [Addr.add_lit]; exact this) evs_one)
              have hM9 : M ≤ 2000 := by omega
              rw [hM] at HKN
              clear hDL
              go_region_law (first
                | (refine step_append_row rfl (.tmp 75) (.tmp 78) 22 22 rfl 2 31 (.agg #[.int .i64 0, .int .i64 0]) 16 Try.underlying22 infoPr rfl wr.heap.size (.slice (some ⟨wr.heap.size, 0, none⟩) 0 0) 0 [] (by simp [Act.eval]) HR0.out (.slice (some ⟨xb, 0, none⟩) cu oc) (by simp [Act.eval]) cu (evs (F.take cu)) (HSA.out _ HOB0.out) HOB0.out.size (by omega) (by decide) ?_; intro v6 w6 hr6 ho6 hw6; rw [Nat.zero_add, List.nil_append] at hr6; obtain ⟨a6, c6, hv6⟩ := hr6.form; subst hv6; have HR6 := Lib.hid hr6; have HB6 := Lib.hid (HOB0.out.trans (ho6.below (B := wr.heap.size) (fun b hb => by simp [Value.ownBlock] at hb; omega) HOB0.out.size)); clear hr6 ho6 hw6)
                | (refine step_append_row rfl (.tmp 79) (.tmp 83) 22 22 rfl 2 31 (.agg #[.int .i64 0, .int .i64 0]) 16 Try.underlying22 infoPr rfl wr.heap.size (.slice a6 cu c6) cu (evs (F.take cu)) (by simp [Act.eval]) HR6.out (.slice sa M OC) (by simp [Act.eval]) M (evs (F.drop (cu + 1))) (HSB.out _ HB6.out) HB6.out.size (by omega) (by decide) ?_; intro v7 w7 hr7 ho7 hw7; have HKN7 := Lib.hid (HKN.out v7 w7 hr7); obtain ⟨a7, c7, hv7⟩ := hr7.form; subst hv7; have HB7 := Lib.hid (HB6.out.trans (ho7.below (B := wr.heap.size) (fun b hb => (HR6.out.lt b hb).1) HB6.out.size)); clear hr7 ho7 hw7)
                | (go_simp; with_reducible refine HKN7.out.mono ?_; rintro e w8 ⟨kv, ks, rfl, hk1, hk2, hb8⟩; rw [Int.toNat_natCast] at hk1 hk2; obtain ⟨ka, kc, hkv⟩ := hk1.form; subst hkv; have HK := Lib.hid hk1; have HK2 := Lib.hid hk2; have HB8 := Lib.hid (HB7.out.trans (hb8.mono HB7.out.size)); clear hk1 hk2 hb8))
              have HZ2 : Hid (∀ x, x < N → ks x = x) := Lib.hid (fun x hx => HL.out x hx (ks x) (HK2.out x hx))
              have HB9 := Lib.hid (HB7w.out.trans (HB8.out.mono HB7w.out.size))
              clear HK2 HL HB6 HR6 HSA HSB HKN HX1 HX2 HFL HHF
              go_wp2_with fail
              go_loopw [87] (fun jv wr => ∃ j : Nat, jv = .int .i64 (j : Nat) ∧ j ≤ N ∧ Hid (Below w8.heap.size w8 wr)) (fun jv _ => N - (intOf jv).toNat)
              case atStart => exact ⟨0, rfl, Nat.zero_le _, Lib.hid (Below.refl _ _)⟩
              case round =>
                obtain ⟨j, rfl, hjN, HB⟩ := hrel
                by_cases hlt : j < N
                · obtain ⟨kb, kc', hkv, _, _, hkc1, hkc2, _, hkx⟩ := (HK.out.below HB.out).pos (by omega)
                  injection hkv with hk1 _ hk3
                  subst hk1; subst hk3
                  have cx := hkx j _ (bkv_at ks hlt)
                  rw [HZ2.out j hlt] at cx
                  unfold maxLen at hkc2
                  clear hkx hsa hM hOC
                  go_wp2_with fail
                  exact ⟨⟨j + 1, by go_num, by omega, HB⟩, by simp [intOf]; omega⟩
                · have hjj : N = j := by omega
                  have HBE := Lib.hid (HB9.out.trans (HB.out.mono HB9.out.size))
                  clear HK hsa hM hOC
                  subst hjj
                  go_wp2_with fail
                  go_ret
                  exact ⟨rfl, HBE.out⟩
    · have hs1 : s ≠ N + 1 := fun e => hg (by rw [e]; exact step_ends)
      obtain ⟨gg, hgg⟩ : ∃ gg : Nat, gg = Nat.gcd s N := ⟨_, rfl⟩
      rw [← hgg] at hg ⊢
      have hgI : ¬ (gg : Int) = 1 := by omega
      clear hgg
      go_wp2_with fail
      exact ⟨⟨s + 1, by go_num, by omega, HB3⟩, by simp [intOf]; omega⟩
end Go.Proofs.Yteaencgbgfnokaa
