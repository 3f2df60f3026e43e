/- The law KnotsSort, walked. -/
import Derived.Test.YtaemegcemmcgdaaKSame
import Derived.Test.YtaemegcemmcgdaaKSortM
import Derived.Test.YtaemegcemmcgdaaKnP
set_option linter.unusedVariables false
namespace Go.Proofs.Ytaemegcemmcgdaa
open Go.ChangeShapes Go.WideShapes Go.ChangeAt Go.RowKit

set_option maxHeartbeats 4000000 in
set_option maxRecDepth 100000 in
theorem ksort_law (n : Int) (es : Ed) (v : Value) (w : World) (hr : RE w v es) (hl : es.length ≤ 140737488355328) (hn1 : -9223372036854775808 ≤ n) (hn2 : n ≤ 9223372036854775807) :
    Calls Try.prog 6 #[.int .i64 n, v] w fun e w' => e = .returned (.bool true) ∧ Below w.heap.size w w' := by
  obtain ⟨va, vc, rfl⟩ := hr.form
  obtain ⟨E, hE⟩ : ∃ E, E = es.length := ⟨_, rfl⟩
  rw [← hE] at hr hl ⊢
  have AW := Lib.hid (kawake_any w)
  have HR := Lib.hid hr
  have HE := Lib.hid hE
  clear hr hE
  go_enter Try.func6, Try.ntmps6
  go_wp2_with fail
  refine AW.out.mono ?_
  rintro e w2 ⟨rfl, hb2⟩
  have HB2 := Lib.hid hb2
  clear hb2 AW
  by_cases hg1 : n < 1
  · go_wp2_with fail
    go_ret
    exact ⟨rfl, HB2.out⟩
  by_cases hg2 : 2000 < n
  · go_wp2_with fail
    go_ret
    exact ⟨rfl, HB2.out⟩
  by_cases hg3 : 20000 < E
  · have hg3I : (20000 : Int) < (E : Int) := by omega
    go_wp2_with fail
    go_ret
    exact ⟨rfl, HB2.out⟩
  have hg3I : ¬ (20000 : Int) < (E : Int) := by omega
  have hE3 : E ≤ 20000 := by omega
  obtain ⟨N, rfl⟩ : ∃ N : Nat, n = (N : Int) := ⟨n.toNat, by omega⟩
  have hN1 : 1 ≤ N := by omega
  have hN9 : N ≤ 2000 := by omega
  have K1 := Lib.hid (knotsF_any (N : Int) es (.slice va E vc) w2 (HR.out.below HB2.out) (by rw [← HE.out]; omega) (by omega) (by omega))
  go_wp2_with fail
  refine K1.out.mono ?_
  rintro e w3 ⟨kv, ks, rfl, hk1, hk2, hb3⟩
  rw [Int.toNat_natCast] at hk1 hk2
  obtain ⟨ka, kc, rfl⟩ := hk1.form
  have HK := Lib.hid hk1
  have HK2 := Lib.hid hk2
  have HB3 := Lib.hid (HB2.out.trans (hb3.mono HB2.out.size))
  clear hk1 hk2 hb3 K1
  go_wp2_with fail
  go_loopw [6, 42] (fun av jv wr => ∃ (b : Bool) (j : Nat), av = .bool b ∧ jv = .int .i64 (j : Nat) ∧ j ≤ N ∧ Hid (b = true ↔ ∀ i, i < j → ks i = i) ∧ Hid (Below w3.heap.size w3 wr)) (fun _ jv _ => N - (intOf jv).toNat)
  case atStart => exact ⟨true, 0, rfl, rfl, Nat.zero_le _, Lib.hid ⟨fun _ i hi => absurd hi (Nat.not_lt_zero _), fun _ => rfl⟩, Lib.hid (Below.refl _ _)⟩
  case round =>
    obtain ⟨b, j, rfl, rfl, hjN, HA, HB⟩ := hrel
    by_cases hlt : j < N
    · obtain ⟨hy1, hy2⟩ := least_idem HK2.out hlt
      have HAN := Lib.hid (alone_knot HA.out)
      obtain ⟨y, hy⟩ : ∃ y, y = ks j := ⟨_, rfl⟩
      rw [← hy] at hy1 hy2 HAN
      have hrk := HK.out.below HB.out
      obtain ⟨kb, kc', hkv, _, _, hkc1, hkc2, _, hkx⟩ := hrk.pos (by omega)
      injection hkv with hk1 _ hk3
      subst hk1; subst hk3
      have cx := hkx j _ (bkv_at ks hlt)
      have cy := hkx y _ (bkv_at ks (by omega : y < N))
      rw [← hy] at cx
      rw [hy2] at cy
      have hyN : y < N := by omega
      unfold maxLen at hkc2
      have hyI : (y : Int) ≤ (j : Int) := by omega
      have hyI2 : ¬ (j : Int) < (y : Int) := by omega
      clear hy hy2 hrk hkx
      cases b
      · go_wp2_with fail
        exact ⟨⟨false, j + 1, rfl, by go_num, by omega, HAN, HB⟩, by simp [intOf]; omega⟩
      · go_wp2_with fail
        exact ⟨⟨(y : Int) == (j : Int), j + 1, rfl, by go_num, by omega, HAN, HB⟩, by simp [intOf]; omega⟩
    · have hjj : N = j := by omega
      have HA1 : Hid (b = true ↔ (∀ x, x < N → ks x = x) ∧ ∀ e ∈ es.take 0, ¬ selfE (N : Int) e) := Lib.hid (by rw [HA.out, hjj]; simp)
      have HB4 := Lib.hid (HB3.out.trans (HB.out.mono HB3.out.size))
      have HR4 := Lib.hid (HR.out.below HB4.out)
      subst hjj
      clear HA HB HK
      obtain ⟨w4, hw4⟩ : ∃ w4, w4 = wr := ⟨_, rfl⟩
      rw [← hw4] at HB4 HR4 ⊢
      clear hw4
      go_wp2_with fail
      go_loopw [6, 71] (fun av jv wr => ∃ (b : Bool) (j : Nat), av = .bool b ∧ jv = .int .i64 (j : Nat) ∧ j ≤ E ∧ Hid (b = true ↔ (∀ x, x < N → ks x = x) ∧ ∀ e ∈ es.take j, ¬ selfE (N : Int) e) ∧ Hid (Below w4.heap.size w4 wr)) (fun _ jv _ => E - (intOf jv).toNat)
      case atStart => exact ⟨b, 0, rfl, rfl, Nat.zero_le _, HA1, Lib.hid (Below.refl _ _)⟩
      case round =>
        clear HA1
        obtain ⟨b, j, rfl, rfl, hjE, HA, HB⟩ := hrel
        by_cases hlt : j < E
        · obtain ⟨e, he⟩ : ∃ e, es[j]? = some e := ⟨es[j]'(by rw [← HE.out]; exact hlt), by simp⟩
          have HS : Hid (∀ c : Bool, (c = true ↔ b = true ∧ ¬ selfE (N : Int) e) → (c = true ↔ (∀ x, x < N → ks x = x) ∧ ∀ e ∈ es.take (j + 1), ¬ selfE (N : Int) e)) := Lib.hid (fun c hc => alone_edge he HA.out hc)
          obtain ⟨e1, e2⟩ := e
          obtain ⟨eb, eo, rfl, heb, hec1, hec2, d0, d1⟩ := (HR4.out.below HB.out).at he
          simp only at d0 d1
          unfold maxLen at hec2
          have hE0 : 0 < E := by omega
          have HBZ := Lib.hid (HB.out.trans (((Below.refl wr.heap.size wr).alloc (Nat.le_refl _) (.cells #[.int .i64 e1, .int .i64 e2] 50)).mono HB.out.size))
          clear he
          cases b
          · go_wp2_with fail
            exact ⟨⟨false, j + 1, rfl, by go_num, by omega, Lib.hid (HS.out false (by simp)), HBZ⟩, by simp [intOf]; omega⟩
          · by_cases he12 : e1 = e2
            · subst he12
              by_cases h0 : 0 ≤ e1
              · by_cases hn : e1 < (N : Int)
                · go_wp2_with fail
                  exact ⟨⟨false, j + 1, rfl, by go_num, by omega, Lib.hid (HS.out false (by simp [selfE, h0, hn])), HBZ⟩, by simp [intOf]; omega⟩
                · go_wp2_with fail
                  exact ⟨⟨true, j + 1, rfl, by go_num, by omega, Lib.hid (HS.out true (by simp [selfE, hn])), HBZ⟩, by simp [intOf]; omega⟩
              · go_wp2_with fail
                exact ⟨⟨true, j + 1, rfl, by go_num, by omega, Lib.hid (HS.out true (by simp [selfE, h0])), HBZ⟩, by simp [intOf]; omega⟩
            · go_wp2_with fail
              exact ⟨⟨true, j + 1, rfl, by go_num, by omega, Lib.hid (HS.out true (by simp [selfE, he12])), HBZ⟩, by simp [intOf]; omega⟩
        · have hjj : E = j := by omega
          have HA2 : Hid (b = true ↔ (∀ x, x < N → ks x = x) ∧ ∀ e ∈ es, ¬ selfE (N : Int) e) := Lib.hid (by rw [HA.out, ← hjj, HE.out, List.take_length])
          have HB5 := Lib.hid (HB4.out.trans (HB.out.mono HB4.out.size))
          have HR5 := Lib.hid (HR.out.below HB5.out)
          subst hjj
          clear HA HB HR4
          obtain ⟨w5, hw5⟩ : ∃ w5, w5 = wr := ⟨_, rfl⟩
          rw [← hw5] at HB5 HR5 ⊢
          clear hw5
          have S1 := Lib.hid (sortF_any (N : Int) es (.slice va E vc) w5 HR5.out (by rw [← HE.out]; omega) (by omega) (by omega))
          go_wp2_with fail
          refine S1.out.mono ?_
          rintro e w6 ⟨lv, out, ok, rfl, hs1, hs2, hb6⟩
          rw [Int.toNat_natCast] at hs1
          have hlt : ∀ e ∈ toN (amongL (N : Int) es), e.1 < N ∧ e.2 < N := among_lt
          have hok := sort_says hlt HK2.out hs1 HA2.out
          obtain ⟨la, lc, rfl⟩ := hs2.form
          have HB6 := Lib.hid (HB5.out.trans (hb6.mono HB5.out.size))
          have HLT := Lib.hid hlt
          subst hok
          clear hb6 S1 hlt HA2 HK2
          rcases hs1 with ⟨rfl, hre, hol⟩ | ⟨rfl, rfl, _⟩
          · have hnd := (reach_tame hre).1
            have HRE := Lib.hid hre
            have HND := Lib.hid hnd
            have HLN := Lib.hid ((reach_tame hre).2)
            have HOL := Lib.hid hol
            rw [hol] at hs2 ⊢
            have HS := Lib.hid hs2
            clear hre hnd hol hs2
            have mk1 := run_make_row' (P := Try.prog) 44 3 (.int .i64 0) 8 Try.underlying44 infoIk rfl .i64 .i64 N (by omega) (by omega)
            have hr0 : Row 1 w6.heap.size (w6.alloc (.cells (madeCells #[.int .i64 0] N) 3)) (.slice (some ⟨w6.heap.size, 0, none⟩) N N) N (bkv (atF out 0) N) := by
              have : bkv (atF out 0) N = iv (List.replicate N 0) := by rw [← bkv_zero]; exact bkv_congr (fun v _ => by simp [atF])
              rw [this]
              exact made_intk (by omega) (Nat.le_refl _) _
            have HR0 := Lib.hid hr0
            have HB67 := Lib.hid ((Below.refl w6.heap.size w6).alloc (Nat.le_refl _) (.cells (madeCells #[.int .i64 0] N) 3))
            clear hr0
            go_wp2_with fail
            go_loopw [121] (fun jv wr => ∃ j : Nat, jv = .int .i64 (j : Nat) ∧ j ≤ N ∧ Hid (Row 1 w6.heap.size wr (.slice (some ⟨w6.heap.size, 0, none⟩) N N) N (bkv (atF out j) N)) ∧ Hid (Below w6.heap.size w6 wr)) (fun jv _ => N - (intOf jv).toNat)
            case atStart => exact ⟨0, rfl, Nat.zero_le _, HR0, HB67⟩
            case round =>
              obtain ⟨j, rfl, hjN, HT, HB⟩ := hrel
              by_cases hlt : j < N
              · obtain ⟨x, hx⟩ : ∃ x, out[j]? = some x := ⟨out[j]'(by rw [HOL.out]; exact hlt), by simp⟩
                obtain ⟨x, hxN, rfl⟩ := HLN.out x (List.mem_of_getElem? hx)
                obtain ⟨lb, lo, rfl, hlb, hlc1, hlc2, cl⟩ := (HS.out.below HB.out).at hx
                unfold maxLen at hlc2
                obtain ⟨xb, xf, _⟩ := HT.out.cellF (bkv_at _ hxN)
                have hn := HT.out.put (j := x) (by rw [bkv_len]; exact hxN) (.int .i64 ((j + 1 : Nat) : Int))
                rw [bkv_set _ hxN] at hn
                have hcg : bkv (upd (atF out j) x (j + 1)) N = bkv (atF out (j + 1)) N := bkv_congr (fun v _ => by
                  by_cases e : v = x
                  · subst e; rw [upd_same, atF_at HND.out hx]
                  · rw [upd_other _ _ e, atF_off hx e])
                rw [hcg] at hn
                have HN := Lib.hid hn
                have HBN := Lib.hid (HB.out.setCell (p := ⟨w6.heap.size, x, none⟩) (Nat.le_refl _) (.int .i64 ((j + 1 : Nat) : Int)))
                have hxI : (x : Int) < (N : Int) := by omega
                have hjI : ((j + 1 : Nat) : Int) = (j : Int) + 1 := by omega
                rw [hjI] at HN HBN
                clear hn hcg hx
                go_wp2_with fail
                exact ⟨⟨j + 1, by go_num, by omega, HN, HBN⟩, by simp [intOf]; omega⟩
              · have hjj : N = j := by omega
                have HT7 : Hid (Row 1 w6.heap.size wr (.slice (some ⟨w6.heap.size, 0, none⟩) N N) N (bkv (atF out N) N)) := Lib.hid (by have h := HT.out; rw [← hjj] at h; exact h)
                have HB7 := Lib.hid (HB6.out.trans (HB.out.mono HB6.out.size))
                have HR7 := Lib.hid (HR.out.below HB7.out)
                have hs7 : w6.heap.size < wr.heap.size := by
                  obtain ⟨_, _, hv, _, hbw, _⟩ := HT7.out.pos (by omega)
                  injection hv with hv1
                  injection hv1 with hv1
                  injection hv1 with hv1
                  rw [hv1]; exact hbw
                have HS7 := Lib.hid hs7
                subst hjj
                clear HT HB HR5 HS hs7 HR0 HB67
                obtain ⟨w7, hw7⟩ : ∃ w7, w7 = wr := ⟨_, rfl⟩
                rw [← hw7] at HT7 HB7 HR7 HS7 ⊢
                clear hw7
                obtain ⟨q, hq⟩ : ∃ q, q = w6.heap.size := ⟨_, rfl⟩
                rw [← hq] at HT7 HS7 ⊢
                clear hq
                go_wp2_with fail
                go_loopw [141] (fun jv wr => ∃ j : Nat, jv = .int .i64 (j : Nat) ∧ j ≤ E ∧ Hid (Below w7.heap.size w7 wr)) (fun jv _ => E - (intOf jv).toNat)
                case atStart => exact ⟨0, rfl, Nat.zero_le _, Lib.hid (Below.refl _ _)⟩
                case round =>
                  obtain ⟨j, rfl, hjE, HB⟩ := hrel
                  by_cases hlt : j < E
                  · obtain ⟨e, he⟩ : ∃ e, es[j]? = some e := ⟨es[j]'(by rw [← HE.out]; exact hlt), by simp⟩
                    obtain ⟨e1, e2⟩ := e
                    obtain ⟨eb, eo, rfl, heb, hec1, hec2, d0, d1⟩ := (HR7.out.below HB.out).at he
                    simp only at d0 d1
                    unfold maxLen at hec2
                    have hE0 : 0 < E := by omega
                    have HBZ := Lib.hid (HB.out.trans (((Below.refl wr.heap.size wr).alloc (Nat.le_refl _) (.cells #[.int .i64 e1, .int .i64 e2] 50)).mono HB.out.size))
                    obtain ⟨z, hz⟩ : ∃ z, z = wr.heap.size := ⟨_, rfl⟩
                    obtain ⟨wz, hwz⟩ : ∃ wz, wz = wr.alloc (.cells #[.int .i64 e1, .int .i64 e2] 50) := ⟨_, rfl⟩
                    rw [← hwz] at HBZ
                    have z0 : wz.cell? ⟨z, 0, none⟩ = some (.int .i64 e1) := by rw [hwz, hz, World.cell?_alloc_at _ _ _ _ rfl]; rfl
                    have z1 : wz.cell? ⟨z, 1, none⟩ = some (.int .i64 e2) := by rw [hwz, hz, World.cell?_alloc_at _ _ _ _ rfl]; rfl
                    have HWZ := Lib.hid hwz
                    have HZ := Lib.hid hz
                    clear hwz hz
                    by_cases h1 : 0 ≤ e1
                    · by_cases h2 : e1 < (N : Int)
                      · by_cases h3 : 0 ≤ e2
                        · by_cases h4 : e2 < (N : Int)
                          · obtain ⟨a, rfl⟩ : ∃ a : Nat, e1 = (a : Int) := ⟨e1.toNat, by omega⟩
                            obtain ⟨b, rfl⟩ : ∃ b : Nat, e2 = (b : Int) := ⟨e2.toNat, by omega⟩
                            have haN : a < N := by omega
                            have hbN : b < N := by omega
                            have hlt2 := atF_lt HRE.out HOL.out HLT.out (e := (a, b)) (List.mem_map.2 ⟨((a : Int), (b : Int)), List.mem_filter.2 ⟨List.mem_of_getElem? he, rightP_iff.2 ⟨h1, h3, h2, h4⟩⟩, rfl⟩)
                            simp only at hlt2
                            have hT := HT7.out.below HBZ.out
                            obtain ⟨xa, fa, _⟩ := hT.cellF (bkv_at _ haN)
                            obtain ⟨xb, fb, _⟩ := hT.cellF (bkv_at _ hbN)
                            obtain ⟨ta, hta⟩ : ∃ ta, ta = atF out N a := ⟨_, rfl⟩
                            obtain ⟨tb, htb⟩ : ∃ tb, tb = atF out N b := ⟨_, rfl⟩
                            rw [← hta] at xa hlt2
                            rw [← htb] at xb hlt2
                            have hltI : ¬ (tb : Int) ≤ (ta : Int) := by omega
                            have hzq : q ≠ wr.heap.size := by have := HS7.out; have := HB.out.size; omega
                            clear he hT hta htb
                            go_wp2_with fail
                            rw [← HZ.out, ← HWZ.out]
                            clear d0 d1
                            go_quiet (fail)
                            go_wp2_with fail
                            exact ⟨⟨j + 1, by go_num, by omega, Lib.hid (Below.drewN HBZ.out)⟩, by simp [intOf]; omega⟩
                          · go_wp2_with fail
                            rw [← HZ.out, ← HWZ.out]
                            clear d0 d1
                            have g1 : decide (0 ≤ e1) = true := decide_eq_true (by omega)
                            have g2 : decide (e1 < (N : Int)) = true := decide_eq_true (by omega)
                            have g3 : decide (0 ≤ e2) = true := decide_eq_true (by omega)
                            have g4 : decide (e2 < (N : Int)) = false := decide_eq_false (by omega)
                            go_quiet (fail)
                            go_wp2_with fail
                            exact ⟨⟨j + 1, by go_num, by omega, Lib.hid (Below.drewN HBZ.out)⟩, by simp [intOf]; omega⟩
                        · go_wp2_with fail
                          rw [← HZ.out, ← HWZ.out]
                          clear d0 d1
                          have g1 : decide (0 ≤ e1) = true := decide_eq_true (by omega)
                          have g2 : decide (e1 < (N : Int)) = true := decide_eq_true (by omega)
                          have g3 : decide (0 ≤ e2) = false := decide_eq_false (by omega)
                          go_quiet (fail)
                          go_wp2_with fail
                          exact ⟨⟨j + 1, by go_num, by omega, Lib.hid (Below.drewN HBZ.out)⟩, by simp [intOf]; omega⟩
                      · go_wp2_with fail
                        rw [← HZ.out, ← HWZ.out]
                        clear d0 d1
                        have g1 : decide (0 ≤ e1) = true := decide_eq_true (by omega)
                        have g2 : decide (e1 < (N : Int)) = false := decide_eq_false (by omega)
                        go_quiet (fail)
                        go_wp2_with fail
                        exact ⟨⟨j + 1, by go_num, by omega, Lib.hid (Below.drewN HBZ.out)⟩, by simp [intOf]; omega⟩
                    · go_wp2_with fail
                      rw [← HZ.out, ← HWZ.out]
                      clear d0 d1
                      have g1 : decide (0 ≤ e1) = false := decide_eq_false (by omega)
                      go_quiet (fail)
                      go_wp2_with fail
                      exact ⟨⟨j + 1, by go_num, by omega, Lib.hid (Below.drewN HBZ.out)⟩, by simp [intOf]; omega⟩
                  · have hjj : E = j := by omega
                    have HB8 := Lib.hid (HB7.out.trans (HB.out.mono HB7.out.size))
                    have HT8 := Lib.hid (HT7.out.below HB.out)
                    have HP : Hid (∀ v, v < N → 0 < atF out N v) := Lib.hid (fun v hv => atF_pos HRE.out HOL.out hv)
                    obtain ⟨w8, hw8⟩ : ∃ w8, w8 = wr := ⟨_, rfl⟩
                    rw [← hw8] at HB8 HT8 ⊢
                    subst hjj
                    clear HB HT7 HB7 hw8
                    go_wp2_with fail
                    go_loopw [181] (fun jv wr => ∃ j : Nat, jv = .int .i64 (j : Nat) ∧ j ≤ N ∧ Hid (Below w8.heap.size w8 wr)) (fun jv _ => N - (intOf jv).toNat)
                    case atStart => exact ⟨0, rfl, Nat.zero_le _, Lib.hid (Below.refl _ _)⟩
                    case round =>
                      obtain ⟨j, rfl, hjN, HB⟩ := hrel
                      by_cases hlt : j < N
                      · have hp := HP.out j hlt
                        obtain ⟨xb, xf, _⟩ := (HT8.out.below HB.out).cellF (bkv_at _ hlt)
                        obtain ⟨y, hy⟩ : ∃ y, y = atF out N j := ⟨_, rfl⟩
                        rw [← hy] at xb hp
                        have hyI : ¬ (y : Int) = 0 := by omega
                        clear hy
                        go_wp2_with fail
                        exact ⟨⟨j + 1, by go_num, by omega, HB⟩, by simp [intOf]; omega⟩
                      · have hjj : N = j := by omega
                        subst hjj
                        go_wp2_with fail
                        go_ret
                        exact ⟨by simp, HB8.out.trans (HB.out.mono HB8.out.size)⟩
          · go_wp2_with fail
            go_ret
            exact ⟨rfl, HB6.out⟩
end Go.Proofs.Ytaemegcemmcgdaa
