/- The contract of Knots. -/
import Derived.Test.YtmfibianieboeaaGreatV11
import Derived.Test.YtmfibianieboeaaGreatV20
import Derived.Test.YtmfibianieboeaaGreatV23
set_option linter.unusedVariables false
namespace Go.Proofs.YtmfibianieboeaaGreat
open Go.ChangeShapes Go.WideShapes Go.ChangeAt Go.RowKit

theorem knots1_any (q pb N a y : Nat) (W : World) (ha : a < N) (hN : N ≤ 1000000) (hq : W.cell? ⟨q, 0, none⟩ = some (.slice (some ⟨pb, 0, none⟩) N N)) (hx : W.cell? ⟨pb, a, none⟩ = some (.int .i64 (y : Int))) :
    Calls Tryz.prog 47 #[.int .i64 (a : Int), .pointer (some ⟨q, 0, none⟩)] W fun e w' => e = .returned (.int .i64 (y : Int)) ∧ Below W.heap.size W w' := by
  go_enter Tryz.func47, Tryz.ntmps47
  go_wp2
  go_ret
  exact ⟨rfl, Below.refl _ _⟩
def plK (es : List (Nat × Nat)) (n : Nat) (x : Int) : Int := ((named2 es n x.toNat : Nat) : Int)
theorem plK_ren {es : List (Nat × Nat)} {n : Nat} (h : ∀ e ∈ es, e.1 < n ∧ e.2 < n) : renI (plK es n) (toI es) = toI (renE (tiedL es n) es) := by
  have hT := tied_tiedL h
  have key : ∀ a, a < n → endB es a = true → plK es n (a : Int) = (((tiedL es n).idxOf a : Nat) : Int) := fun a ha he => by
    unfold plK named2
    rw [Int.toNat_natCast, he, if_pos rfl, if_pos ha, hT.idx (tiedL_idx es ha he)]
  unfold renI toI renE
  rw [List.map_map, List.map_map]
  refine List.map_congr_left fun e he => ?_
  obtain ⟨h1, h2⟩ := h e he
  simp only [Function.comp_apply]
  rw [key _ h1 (endB_iff.2 ⟨e, he, .inl rfl⟩), key _ h2 (endB_iff.2 ⟨e, he, .inr rfl⟩)]
theorem renE_lt {n : Nat} {es : List (Nat × Nat)} {T : List Nat} (hT : Tied n es T) : ∀ e ∈ renE T es, e.1 < T.length ∧ e.2 < T.length := by
  intro e he
  obtain ⟨e0, h0, rfl⟩ := List.mem_map.1 he
  exact ⟨List.idxOf_lt_length_of_mem (hT.fst e0 h0), List.idxOf_lt_length_of_mem (hT.snd e0 h0)⟩
theorem adj_iff {m : Nat} {es : List (Nat × Nat)} {H : List Nat} (hlt : ∀ e ∈ es, e.1 < m) (hI : HeadI m es es.length H) : (fun a b => b ∈ adjK m (preE es) H a) = EdR es := by
  funext a b
  apply propext
  unfold adjK
  by_cases ha : a < m
  · rw [if_pos ha, head_all hlt hI ha, List.mem_reverse, mem_outsE]
  · rw [if_neg ha]
    constructor
    · intro h; cases h
    · intro h; exact absurd (hlt _ h) ha

set_option maxHeartbeats 4000000 in
set_option maxRecDepth 100000 in
theorem knotsF_any (n : Int) (es : Ed) (v : Value) (w : World) (hr : RE w v es) (hl : es.length ≤ 400000) (hn1 : -9223372036854775808 ≤ n) (hn : n ≤ 400000) :
    Calls Tryz.prog 20 #[.int .i64 n, v] w fun e W' => ∃ ov, ∃ ks : Nat → Nat, e = .returned ov ∧ Row 1 w.heap.size W' ov n.toNat (bkv ks n.toNat) ∧ (∀ x, x < n.toNat → LeastK (EdR (toN (amongL n es))) x (ks x)) ∧ Below w.heap.size w W' := by
  by_cases h1 : n < 1
  · obtain ⟨va, vc, rfl⟩ := hr.form
    have h0 : n.toNat = 0 := by omega
    rw [h0]
    clear hr h0
    go_enter Tryz.func20, Tryz.ntmps20
    go_wp2_with fail
    go_ret
    exact ⟨_, fun _ => 0, rfl, Row.nil _ _ _, fun x hx => absurd hx (Nat.not_lt_zero _), Below.refl _ _⟩
  · obtain ⟨N, rfl⟩ : ∃ N : Nat, n = (N : Int) := ⟨n.toNat, by omega⟩
    rw [Int.toNat_natCast]
    have hN1 : 1 ≤ N := by omega
    have hN9 : N ≤ 400000 := by omega
    obtain ⟨ES, hES⟩ : ∃ ES, ES = toN (amongL (N : Int) es) := ⟨_, rfl⟩
    have hEI : amongL (N : Int) es = toI ES := by rw [hES]; exact toI_toN.symm
    have hlt : ∀ e ∈ ES, e.1 < N ∧ e.2 < N := by rw [hES]; exact toN_lt
    have hELn : ES.length ≤ 400000 := by
      have h2 : (amongL (N : Int) es).length ≤ es.length := List.length_filter_le _ _
      rw [hES]
      simp only [toN, List.length_map]
      omega
    have hT := tied_tiedL hlt
    rw [← hES]
    have CA := among_any (N : Int) es v w hr (by omega)
    rw [hEI] at CA
    obtain ⟨T, hTT⟩ : ∃ T, T = tiedL ES N := ⟨_, rfl⟩
    obtain ⟨m, hm⟩ : ∃ m, m = T.length := ⟨_, rfl⟩
    have hmN : m ≤ N := by rw [hm, hTT]; exact tiedL_len ES N
    have HCA := Lib.hid CA
    have HLT := Lib.hid hlt
    have HT := Lib.hid (by rw [hTT]; exact hT : Tied N ES T)
    have HTT := Lib.hid hTT
    have HM := Lib.hid hm
    have HREN := Lib.hid (by rw [hTT]; exact plK_ren hlt : renI (plK ES N) (toI ES) = toI (renE T ES))
    have mk1 := run_make_row' (P := Tryz.prog) 23 3 (.int .i64 0) 8 Tryz.underlying23 infoIk rfl .i64 .i64 N (by omega) (by omega)
    obtain ⟨va, vc, rfl⟩ := hr.form
    have hlI : (toI ES).length = ES.length := by simp [toI]
    have HLI := Lib.hid hlI
    obtain ⟨k, hk⟩ : ∃ k, k = ES.length := ⟨_, rfl⟩
    have HK := Lib.hid hk
    have hNI : ¬ (N : Int) < 1 := by omega
    have hNI2 : ¬ (2147483647 : Int) < (N : Int) := by omega
    rw [← hk] at hELn
    clear hr CA hlt hT hTT hm hES hEI hlI hk h1 hn1 hn
    go_enter Tryz.func20, Tryz.ntmps20
    go_wp2_with fail
    refine HCA.out.mono ?_
    rintro e w2 ⟨kv, rfl, hkr, hb2⟩
    rw [HLI.out, ← HK.out] at hkr
    obtain ⟨ka, kc, rfl⟩ := hkr.form
    have hko : ∀ b, (Value.slice ka k kc).ownBlock = some b → w.heap.size ≤ b ∧ b < w2.heap.size := fun b hb => hkr.lt b hb
    have SW1 := sweep_any (w := w2) ES N (.slice ka k kc) (RE.ofRow (by rw [HLI.out, ← HK.out]; exact hkr)) (by rw [← HK.out]; omega) (by omega) HLT.out
    have HSW := Lib.hid SW1
    have HKR := Lib.hid hkr
    have HKO := Lib.hid hko
    have HB2 := Lib.hid hb2
    clear SW1 hkr hko hb2
    go_wp2_with fail
    refine HSW.out.mono ?_
    rintro e w3 ⟨tv, pb, rfl, htr, hpr, hne, hb3⟩
    rw [← HTT.out, ← HM.out] at htr
    obtain ⟨ta, tc, rfl⟩ := htr.form
    obtain ⟨q, hq⟩ : ∃ q, q = w3.heap.size := ⟨_, rfl⟩
    obtain ⟨w4, hw4⟩ : ∃ w4, w4 = w3.alloc (.cells #[.slice (some ⟨pb, 0, none⟩) N N] 23) := ⟨_, rfl⟩
    have hb34 : Below w3.heap.size w3 w4 := by rw [hw4]; exact (Below.refl _ _).alloc (Nat.le_refl _) _
    have hb24 : Below w2.heap.size w2 w4 := hb3.trans (hb34.mono hb3.size)
    have hqc : w4.cell? ⟨q, 0, none⟩ = some (.slice (some ⟨pb, 0, none⟩) N N) := by rw [hw4, hq, World.cell?_alloc_at _ _ _ _ rfl]; rfl
    have hkr4 := HKR.out.below hb24
    have hpr4 := hpr.below hb34
    have hs24 := hb24.size
    have hs23 := hb3.size
    have hq4 : q < w4.heap.size := cell_lt hqc
    have CK : ∀ x W, (∃ e ∈ toI ES, x = e.1 ∨ x = e.2) → Off (fun i => (Value.slice ka k kc).ownBlock = some i) w4 W → Calls Tryz.prog 47 #[.int .i64 x, .pointer (some ⟨q, 0, none⟩)] W fun e w' => e = .returned (.int .i64 (plK ES N x)) ∧ Below W.heap.size W w' := by
      intro x W hx ho
      obtain ⟨a, haN, rfl⟩ : ∃ a : Nat, a < N ∧ x = (a : Int) := by
        obtain ⟨e, he, hxe⟩ := hx
        obtain ⟨e0, h0, rfl⟩ := List.mem_map.1 he
        obtain ⟨l1, l2⟩ := HLT.out e0 h0
        rcases hxe with rfl | rfl
        · exact ⟨e0.1, l1, rfl⟩
        · exact ⟨e0.2, l2, rfl⟩
      have hqW : W.cell? ⟨q, 0, none⟩ = some (.slice (some ⟨pb, 0, none⟩) N N) := (ho.cell (p := ⟨q, 0, none⟩) hq4 (fun e => by have := (HKO.out q e).2; omega)).trans hqc
      have hpW := hpr4.off ho (fun b hb e => by
        have h1 := (hpr4.lt b hb).1
        have := (HKO.out b e).2
        omega)
      obtain ⟨hcx, _⟩ := hpW.cellF (bkv_at _ haN)
      exact knots1_any q pb N a _ W haN (by omega) hqW hcx
    have RN := renK_any q (plK ES N) (toI ES) w.heap.size (.slice ka k kc) w4 (by rw [HLI.out, ← HK.out]; exact hkr4) (by rw [HLI.out, ← HK.out]; omega) CK
    rw [HREN.out, HLI.out, ← HK.out] at RN
    have HRN := Lib.hid RN
    have HTR := Lib.hid (htr.below hb34)
    have HB24 := Lib.hid (HB2.out.trans (hb24.mono HB2.out.size))
    have HW4 := Lib.hid hw4
    have HQ := Lib.hid hq
    clear htr hpr hne hb3 hb34 hb24 hqc hkr4 hpr4 CK RN hw4 hq4 hq
    go_wp2_with fail
    rw [← HQ.out, ← HW4.out]
    refine HRN.out.mono ?_
    rintro e w5 ⟨rfl, hk5, ho5⟩
    have hlr : (toI (renE T ES)).length = k := by simp [toI, renE, HK.out]
    have WV := weave_any (w := w5) (renE T ES) m (.slice ka k kc) (RE.ofRow (by rw [hlr]; exact hk5)) (by simp only [renE, List.length_map]; rw [← HK.out]; omega) (by omega) (by rw [HM.out]; exact renE_lt HT.out)
    have HWV := Lib.hid WV
    have HT5 := Lib.hid (HTR.out.off ho5 (fun b hb e => by have := (HTR.out.lt b hb).1; have := (HKO.out b e).2; omega))
    have HB5 := Lib.hid (HB24.out.trans (ho5.below (B := w.heap.size) (fun i hi => (HKO.out i hi).1) HB24.out.size))
    have hs45 := ho5.size
    clear hk5 ho5 hlr WV
    go_wp2_with fail
    refine HWV.out.mono ?_
    rintro e w6 ⟨fv, hv, H, rfl, hweb, hhead, hb6⟩
    have KT := knots_any hweb (by omega) (by simp only [renE, List.length_map]; rw [← HK.out]; omega)
    rw [adj_iff (fun e he => by rw [HM.out]; exact (renE_lt HT.out e he).1) hhead] at KT
    have HKT := Lib.hid KT
    have HB6 := Lib.hid (HB5.out.trans (hb6.mono HB5.out.size))
    have HT6 := Lib.hid (HT5.out.below hb6)
    have hs56 := hb6.size
    clear hweb hhead hb6 KT
    go_wp2_with fail
    refine HKT.out.mono ?_
    rintro e w7 ⟨lv, ls, rfl, hlr, hls, hb7⟩
    obtain ⟨la, lc, rfl⟩ := hlr.form
    have hs67 := hb7.size
    have HB7 := Lib.hid (HB6.out.trans (hb7.mono HB6.out.size))
    have hr0 : Row 1 w7.heap.size (w7.alloc (.cells (madeCells #[.int .i64 0] N) 3)) (.slice (some ⟨w7.heap.size, 0, none⟩) N N) N (bkv (fun x => if x < 0 then x else 0) N) := by
      have : bkv (fun x => if x < 0 then x else 0) N = iv (List.replicate N 0) := by rw [← bkv_zero]; exact bkv_congr (fun v _ => by simp)
      rw [this]
      exact made_intk (by omega) (Nat.le_refl _) _
    have hb78 : Below w7.heap.size w7 (w7.alloc (.cells (madeCells #[.int .i64 0] N) 3)) := (Below.refl _ _).alloc (Nat.le_refl _) _
    have HR0 := Lib.hid hr0
    have HB8 := Lib.hid hb78
    have HT8 := Lib.hid ((HT6.out.below hb7))
    have HL8 := Lib.hid hlr
    have HLS := Lib.hid (fun p hp => hls p (by rw [HM.out]; exact hp) : ∀ p, p < T.length → LeastK (EdR (renE T ES)) p (ls p))
    have HW7 : Hid (∀ W, Off (fun b => b = w7.heap.size) (w7.alloc (.cells (madeCells #[.int .i64 0] N) 3)) W → Below w7.heap.size w7 W) := Lib.hid (fun W ho => hb78.trans (ho.below (B := w7.heap.size) (fun i hi => by omega) hb78.size))
    clear hlr hls hb7 hr0 hb78
    go_wp2_with fail
    go_loopw [39] (fun jv wr => ∃ j : Nat, jv = .int .i64 (j : Nat) ∧ j ≤ N ∧ Hid (Row 1 w7.heap.size wr (.slice (some ⟨w7.heap.size, 0, none⟩) N N) N (bkv (fun x => if x < j then x else 0) N)) ∧ Hid (Below w7.heap.size w7 wr)) (fun jv _ => N - (intOf jv).toNat)
    case atStart => exact ⟨0, rfl, Nat.zero_le _, HR0, HB8⟩
    case round =>
      obtain ⟨j, rfl, hjN, HR, HB⟩ := hrel
      by_cases hlt : j < N
      · obtain ⟨xb, xf, _⟩ := HR.out.cellF (bkv_at _ hlt)
        have hn := HR.out.put (j := j) (by rw [bkv_len]; exact hlt) (.int .i64 (j : Int))
        rw [bkv_set _ hlt] at hn
        have hcg : bkv (upd (fun x => if x < j then x else 0) j j) N = bkv (fun x => if x < j + 1 then x else 0) N := bkv_congr (fun v _ => by
          by_cases e : v = j
          · subst e; rw [upd_same, if_pos (by omega)]
          · rw [upd_other _ _ e]
            have : v < j ↔ v < j + 1 := by omega
            simp [this])
        rw [hcg] at hn
        have HN := Lib.hid hn
        have HBN := Lib.hid (HB.out.setCell (p := ⟨w7.heap.size, j, none⟩) (Nat.le_refl _) (.int .i64 (j : Int)))
        clear hn hcg
        go_wp2_with fail
        exact ⟨⟨j + 1, by go_num, by omega, HN, HBN⟩, by simp [intOf]; omega⟩
      · have hjj : N = j := by omega
        have hf : Row 1 w7.heap.size wr (.slice (some ⟨w7.heap.size, 0, none⟩) N N) N (bkv (ansK T ls 0) N) := by
          have h := HR.out
          have : bkv (fun x => if x < j then x else 0) N = bkv (ansK T ls 0) N := bkv_congr (fun v hv => by rw [ansK_zero, if_pos (by omega)])
          rw [this] at h
          exact h
        have HF := Lib.hid hf
        clear hf HR
        subst hjj
        go_wp2_with fail
        go_loopw [49] (fun jv wr => ∃ j : Nat, jv = .int .i64 (j : Nat) ∧ j ≤ m ∧ Hid (Row 1 w7.heap.size wr (.slice (some ⟨w7.heap.size, 0, none⟩) N N) N (bkv (ansK T ls j) N)) ∧ Hid (Below w7.heap.size w7 wr)) (fun jv _ => m - (intOf jv).toNat)
        case atStart => exact ⟨0, rfl, Nat.zero_le _, HF, HB⟩
        case round =>
          obtain ⟨j, rfl, hjm, HR, HB⟩ := hrel
          by_cases hlt : j < m
          · obtain ⟨x, hx⟩ : ∃ x, T[j]? = some x := ⟨T[j]'(by rw [← HM.out]; exact hlt), by simp⟩
            have hxN : x < N := HT.out.lt x (List.mem_of_getElem? hx)
            have hlj : ls j ≤ j := (HLS.out j (by rw [← HM.out]; exact hlt)).le
            obtain ⟨l, hl⟩ : ∃ l, l = ls j := ⟨_, rfl⟩
            rw [← hl] at hlj
            obtain ⟨y, hy⟩ : ∃ y, T[l]? = some y := ⟨T[l]'(by rw [← HM.out]; omega), by simp⟩
            have hlr := HL8.out.below HB.out
            have htr := HT8.out.below HB.out
            obtain ⟨lb, lc', hlv, _, _, hlc1, hlc2, _, hlx⟩ := hlr.pos (by omega)
            injection hlv with hl1 _ hl3
            subst hl1; subst hl3
            obtain ⟨tb, tc', htv, _, _, htc1, htc2, _, htx⟩ := htr.pos (by omega)
            injection htv with ht1 _ ht3
            subst ht1; subst ht3
            have cl := hlx j _ (bkv_at ls hlt)
            rw [← hl] at cl
            have cx := htx j _ (by simp [iv, nl, hx] : (iv (nl T))[j]? = some (.int .i64 (x : Int)))
            have cy := htx l _ (by simp [iv, nl, hy] : (iv (nl T))[l]? = some (.int .i64 (y : Int)))
            obtain ⟨xb, xf, _⟩ := HR.out.cellF (bkv_at _ hxN)
            have hn := HR.out.put (j := x) (by rw [bkv_len]; exact hxN) (.int .i64 (y : Int))
            rw [bkv_set _ hxN] at hn
            have hcg : bkv (upd (ansK T ls j) x y) N = bkv (ansK T ls (j + 1)) N := bkv_congr (fun v _ => by
              rw [ansK_step HT.out.nd hx]
              by_cases e : v = x
              · subst e; rw [upd_same, if_pos rfl, ← hl, List.getD_eq_getElem?_getD, hy]; rfl
              · rw [upd_other _ _ e, if_neg e])
            rw [hcg] at hn
            have HN := Lib.hid hn
            have HBN := Lib.hid (HB.out.setCell (p := ⟨w7.heap.size, x, none⟩) (Nat.le_refl _) (.int .i64 (y : Int)))
            have hlm : l < m := by omega
            unfold maxLen at hlc2 htc2
            clear hn hcg hx hy hl hlr htr hlx htx hlj
            go_wp2_with fail
            go_region
            go_wp2_with fail
            exact ⟨⟨j + 1, by go_num, by omega, Lib.hid (HN.out.below (Below.refl _ _).drew), Lib.hid HBN.out.drew⟩, by simp [intOf]; omega⟩
          · have hjj : m = j := by omega
            have HANS : Hid (∀ x, x < N → LeastK (EdR ES) x (ansK T ls T.length x)) := Lib.hid (fun x _ => ansK_all HT.out HLS.out x)
            have HF2 : Hid (Row 1 w7.heap.size wr (.slice (some ⟨w7.heap.size, 0, none⟩) N N) N (bkv (ansK T ls T.length) N)) := Lib.hid (by rw [← HM.out, hjj]; exact HR.out)
            subst hjj
            go_wp2_with fail
            go_ret
            exact ⟨_, _, rfl, HF2.out.mono HB7.out.size, HANS.out, HB7.out.trans (HB.out.mono HB7.out.size)⟩
end Go.Proofs.YtmfibianieboeaaGreat
