/- The contract of Knots. The contract of Sort. -/
import Derived.Test.YtfpepoebammeoaaGreatU16
import Derived.Test.YtfpepoebammeoaaGreatU17
import Derived.Test.YtfpepoebammeoaaGreatU18
import Derived.Test.YtfpepoebammeoaaGreatU19
import Derived.Test.YtfpepoebammeoaaGreatU2
import Derived.Test.YtfpepoebammeoaaGreatU6
set_option linter.unusedVariables false
namespace Go.Proofs.YtfpepoebammeoaaGreat
open Go.ChangeShapes Go.WideShapes Go.ChangeAt Go.RowKit

theorem knots1_any (q pb N a y : Nat) (W : World) (ha : a < N) (hN : N ≤ 1000000) (hq : W.cell? ⟨q, 0, none⟩ = some (.slice (some ⟨pb, 0, none⟩) N N)) (hx : W.cell? ⟨pb, a, none⟩ = some (.int .i64 (y : Int))) :
    Calls Tryz.prog 47 #[.int .i64 (a : Int), .pointer (some ⟨q, 0, none⟩)] W fun e w' => e = .returned (.int .i64 (y : Int)) ∧ Below W.heap.size W w' := by
  go_enter Tryz.func47, Tryz.ntmps47
  go_wp2
  go_ret
  exact ⟨rfl, Below.refl _ _⟩
def plK (es : List (Nat × Nat)) (n : Nat) (x : Int) : Int := ((named2 es n x.toNat : Nat) : Int)
theorem plK_ren {es : List (Nat × Nat)} {n : Nat} (h : ∀ e ∈ es, e.1 < n ∧ e.2 < n) : renI (plK es n) (toI es) = toI (renE (tiedL es n) es) := by
  have hT := tied_tiedL h
  have key : ∀ a, a < n → endB es a = true → plK es n (a : Int) = (((tiedL es n).idxOf a : Nat) : Int) := fun a ha he => by
    unfold plK named2
    rw [Int.toNat_natCast, he, if_pos rfl, if_pos ha, hT.idx (tiedL_idx es ha he)]
  unfold renI toI renE
  rw [List.map_map, List.map_map]
  refine List.map_congr_left fun e he => ?_
  obtain ⟨h1, h2⟩ := h e he
  simp only [Function.comp_apply]
  rw [key _ h1 (endB_iff.2 ⟨e, he, .inl rfl⟩), key _ h2 (endB_iff.2 ⟨e, he, .inr rfl⟩)]
theorem renE_lt {n : Nat} {es : List (Nat × Nat)} {T : List Nat} (hT : Tied n es T) : ∀ e ∈ renE T es, e.1 < T.length ∧ e.2 < T.length := by
  intro e he
  obtain ⟨e0, h0, rfl⟩ := List.mem_map.1 he
  exact ⟨List.idxOf_lt_length_of_mem (hT.fst e0 h0), List.idxOf_lt_length_of_mem (hT.snd e0 h0)⟩
theorem adj_iff {m : Nat} {es : List (Nat × Nat)} {H : List Nat} (hlt : ∀ e ∈ es, e.1 < m) (hI : HeadI m es es.length H) : (fun a b => b ∈ adjK m (preE es) H a) = EdR es := by
  funext a b
  apply propext
  unfold adjK
  by_cases ha : a < m
  · rw [if_pos ha, head_all hlt hI ha, List.mem_reverse, mem_outsE]
  · rw [if_neg ha]
    constructor
    · intro h; cases h
    · intro h; exact absurd (hlt _ h) ha

set_option maxHeartbeats 4000000 in
set_option maxRecDepth 100000 in
theorem knotsF_any (n : Int) (es : Ed) (v : Value) (w : World) (hr : RE w v es) (hl : es.length ≤ 400000) (hn1 : -9223372036854775808 ≤ n) (hn : n ≤ 400000) :
    Calls Tryz.prog 20 #[.int .i64 n, v] w fun e W' => ∃ ov, ∃ ks : Nat → Nat, e = .returned ov ∧ Row 1 w.heap.size W' ov n.toNat (bkv ks n.toNat) ∧ (∀ x, x < n.toNat → LeastK (EdR (toN (amongL n es))) x (ks x)) ∧ Below w.heap.size w W' := by
  by_cases h1 : n < 1
  · obtain ⟨va, vc, rfl⟩ := hr.form
    have h0 : n.toNat = 0 := by omega
    rw [h0]
    clear hr h0
    go_enter Tryz.func20, Tryz.ntmps20
    go_wp2_with fail
    go_ret
    exact ⟨_, fun _ => 0, rfl, Row.nil _ _ _, fun x hx => absurd hx (Nat.not_lt_zero _), Below.refl _ _⟩
  · obtain ⟨N, rfl⟩ : ∃ N : Nat, n = (N : Int) := ⟨n.toNat, by omega⟩
    rw [Int.toNat_natCast]
    have hN1 : 1 ≤ N := by omega
    have hN9 : N ≤ 400000 := by omega
    obtain ⟨ES, hES⟩ : ∃ ES, ES = toN (amongL (N : Int) es) := ⟨_, rfl⟩
    have hEI : amongL (N : Int) es = toI ES := by rw [hES]; exact toI_toN.symm
    have hlt : ∀ e ∈ ES, e.1 < N ∧ e.2 < N := by rw [hES]; exact toN_lt
    have hELn : ES.length ≤ 400000 := by
      have h2 : (amongL (N : Int) es).length ≤ es.length := List.length_filter_le _ _
      rw [hES]
      simp only [toN, List.length_map]
      omega
    have hT := tied_tiedL hlt
    rw [← hES]
    have CA := among_any (N : Int) es v w hr (by omega)
    rw [hEI] at CA
    obtain ⟨T, hTT⟩ : ∃ T, T = tiedL ES N := ⟨_, rfl⟩
    obtain ⟨m, hm⟩ : ∃ m, m = T.length := ⟨_, rfl⟩
    have hmN : m ≤ N := by rw [hm, hTT]; exact tiedL_len ES N
    have HCA := Lib.hid CA
    have HLT := Lib.hid hlt
    have HT := Lib.hid (by rw [hTT]; exact hT : Tied N ES T)
    have HTT := Lib.hid hTT
    have HM := Lib.hid hm
    have HREN := Lib.hid (by rw [hTT]; exact plK_ren hlt : renI (plK ES N) (toI ES) = toI (renE T ES))
    have mk1 := run_make_row' (P := Tryz.prog) 23 3 (.int .i64 0) 8 Tryz.underlying23 infoIk rfl .i64 .i64 N (by omega) (by omega)
    obtain ⟨va, vc, rfl⟩ := hr.form
    have hlI : (toI ES).length = ES.length := by simp [toI]
    have HLI := Lib.hid hlI
    obtain ⟨k, hk⟩ : ∃ k, k = ES.length := ⟨_, rfl⟩
    have HK := Lib.hid hk
    have hNI : ¬ (N : Int) < 1 := by omega
    have hNI2 : ¬ (2147483647 : Int) < (N : Int) := by omega
    rw [← hk] at hELn
    clear hr CA hlt hT hTT hm hES hEI hlI hk h1 hn1 hn
    go_enter Tryz.func20, Tryz.ntmps20
    go_wp2_with fail
    refine HCA.out.mono ?_
    rintro e w2 ⟨kv, rfl, hkr, hb2⟩
    rw [HLI.out, ← HK.out] at hkr
    obtain ⟨ka, kc, rfl⟩ := hkr.form
    have hko : ∀ b, (Value.slice ka k kc).ownBlock = some b → w.heap.size ≤ b ∧ b < w2.heap.size := fun b hb => hkr.lt b hb
    have SW1 := sweep_any (w := w2) ES N (.slice ka k kc) (RE.ofRow (by rw [HLI.out, ← HK.out]; exact hkr)) (by rw [← HK.out]; omega) (by omega) HLT.out
    have HSW := Lib.hid SW1
    have HKR := Lib.hid hkr
    have HKO := Lib.hid hko
    have HB2 := Lib.hid hb2
    clear SW1 hkr hko hb2
    go_wp2_with fail
    refine HSW.out.mono ?_
    rintro e w3 ⟨tv, pb, rfl, htr, hpr, hne, hb3⟩
    rw [← HTT.out, ← HM.out] at htr
    obtain ⟨ta, tc, rfl⟩ := htr.form
    obtain ⟨q, hq⟩ : ∃ q, q = w3.heap.size := ⟨_, rfl⟩
    obtain ⟨w4, hw4⟩ : ∃ w4, w4 = w3.alloc (.cells #[.slice (some ⟨pb, 0, none⟩) N N] 23) := ⟨_, rfl⟩
    have hb34 : Below w3.heap.size w3 w4 := by rw [hw4]; exact (Below.refl _ _).alloc (Nat.le_refl _) _
    have hb24 : Below w2.heap.size w2 w4 := hb3.trans (hb34.mono hb3.size)
    have hqc : w4.cell? ⟨q, 0, none⟩ = some (.slice (some ⟨pb, 0, none⟩) N N) := by rw [hw4, hq, World.cell?_alloc_at _ _ _ _ rfl]; rfl
    have hkr4 := HKR.out.below hb24
    have hpr4 := hpr.below hb34
    have hs24 := hb24.size
    have hs23 := hb3.size
    have hq4 : q < w4.heap.size := cell_lt hqc
    have CK : ∀ x W, (∃ e ∈ toI ES, x = e.1 ∨ x = e.2) → Off (fun i => (Value.slice ka k kc).ownBlock = some i) w4 W → Calls Tryz.prog 47 #[.int .i64 x, .pointer (some ⟨q, 0, none⟩)] W fun e w' => e = .returned (.int .i64 (plK ES N x)) ∧ Below W.heap.size W w' := by
      intro x W hx ho
      obtain ⟨a, haN, rfl⟩ : ∃ a : Nat, a < N ∧ x = (a : Int) := by
        obtain ⟨e, he, hxe⟩ := hx
        obtain ⟨e0, h0, rfl⟩ := List.mem_map.1 he
        obtain ⟨l1, l2⟩ := HLT.out e0 h0
        rcases hxe with rfl | rfl
        · exact ⟨e0.1, l1, rfl⟩
        · exact ⟨e0.2, l2, rfl⟩
      have hqW : W.cell? ⟨q, 0, none⟩ = some (.slice (some ⟨pb, 0, none⟩) N N) := (ho.cell (p := ⟨q, 0, none⟩) hq4 (fun e => by have := (HKO.out q e).2; omega)).trans hqc
      have hpW := hpr4.off ho (fun b hb e => by
        have h1 := (hpr4.lt b hb).1
        have := (HKO.out b e).2
        omega)
      obtain ⟨hcx, _⟩ := hpW.cellF (bkv_at _ haN)
      exact knots1_any q pb N a _ W haN (by omega) hqW hcx
    have RN := renK_any q (plK ES N) (toI ES) w.heap.size (.slice ka k kc) w4 (by rw [HLI.out, ← HK.out]; exact hkr4) (by rw [HLI.out, ← HK.out]; omega) CK
    rw [HREN.out, HLI.out, ← HK.out] at RN
    have HRN := Lib.hid RN
    have HTR := Lib.hid (htr.below hb34)
    have HB24 := Lib.hid (HB2.out.trans (hb24.mono HB2.out.size))
    have HW4 := Lib.hid hw4
    have HQ := Lib.hid hq
    clear htr hpr hne hb3 hb34 hb24 hqc hkr4 hpr4 CK RN hw4 hq4 hq
    go_wp2_with fail
    rw [← HQ.out, ← HW4.out]
    refine HRN.out.mono ?_
    rintro e w5 ⟨rfl, hk5, ho5⟩
    have hlr : (toI (renE T ES)).length = k := by simp [toI, renE, HK.out]
    have WV := weave_any (w := w5) (renE T ES) m (.slice ka k kc) (RE.ofRow (by rw [hlr]; exact hk5)) (by simp only [renE, List.length_map]; rw [← HK.out]; omega) (by omega) (by rw [HM.out]; exact renE_lt HT.out)
    have HWV := Lib.hid WV
    have HT5 := Lib.hid (HTR.out.off ho5 (fun b hb e => by have := (HTR.out.lt b hb).1; have := (HKO.out b e).2; omega))
    have HB5 := Lib.hid (HB24.out.trans (ho5.below (B := w.heap.size) (fun i hi => (HKO.out i hi).1) HB24.out.size))
    have hs45 := ho5.size
    clear hk5 ho5 hlr WV
    go_wp2_with fail
    refine HWV.out.mono ?_
    rintro e w6 ⟨fv, hv, H, rfl, hweb, hhead, hb6⟩
    have KT := knots_any hweb (by omega) (by simp only [renE, List.length_map]; rw [← HK.out]; omega)
    rw [adj_iff (fun e he => by rw [HM.out]; exact (renE_lt HT.out e he).1) hhead] at KT
    have HKT := Lib.hid KT
    have HB6 := Lib.hid (HB5.out.trans (hb6.mono HB5.out.size))
    have HT6 := Lib.hid (HT5.out.below hb6)
    have hs56 := hb6.size
    clear hweb hhead hb6 KT
    go_wp2_with fail
    refine HKT.out.mono ?_
    rintro e w7 ⟨lv, ls, rfl, hlr, hls, hb7⟩
    obtain ⟨la, lc, rfl⟩ := hlr.form
    have hs67 := hb7.size
    have HB7 := Lib.hid (HB6.out.trans (hb7.mono HB6.out.size))
    have hr0 : Row 1 w7.heap.size (w7.alloc (.cells (madeCells #[.int .i64 0] N) 3)) (.slice (some ⟨w7.heap.size, 0, none⟩) N N) N (bkv (fun x => if x < 0 then x else 0) N) := by
      have : bkv (fun x => if x < 0 then x else 0) N = iv (List.replicate N 0) := by rw [← bkv_zero]; exact bkv_congr (fun v _ => by simp)
      rw [this]
      exact made_intk (by omega) (Nat.le_refl _) _
    have hb78 : Below w7.heap.size w7 (w7.alloc (.cells (madeCells #[.int .i64 0] N) 3)) := (Below.refl _ _).alloc (Nat.le_refl _) _
    have HR0 := Lib.hid hr0
    have HB8 := Lib.hid hb78
    have HT8 := Lib.hid ((HT6.out.below hb7))
    have HL8 := Lib.hid hlr
    have HLS := Lib.hid (fun p hp => hls p (by rw [HM.out]; exact hp) : ∀ p, p < T.length → LeastK (EdR (renE T ES)) p (ls p))
    have HW7 : Hid (∀ W, Off (fun b => b = w7.heap.size) (w7.alloc (.cells (madeCells #[.int .i64 0] N) 3)) W → Below w7.heap.size w7 W) := Lib.hid (fun W ho => hb78.trans (ho.below (B := w7.heap.size) (fun i hi => by omega) hb78.size))
    clear hlr hls hb7 hr0 hb78
    go_wp2_with fail
    go_loopw [39] (fun jv wr => ∃ j : Nat, jv = .int .i64 (j : Nat) ∧ j ≤ N ∧ Hid (Row 1 w7.heap.size wr (.slice (some ⟨w7.heap.size, 0, none⟩) N N) N (bkv (fun x => if x < j then x else 0) N)) ∧ Hid (Below w7.heap.size w7 wr)) (fun jv _ => N - (intOf jv).toNat)
    case atStart => exact ⟨0, rfl, Nat.zero_le _, HR0, HB8⟩
    case round =>
      obtain ⟨j, rfl, hjN, HR, HB⟩ := hrel
      by_cases hlt : j < N
      · obtain ⟨xb, xf, _⟩ := HR.out.cellF (bkv_at _ hlt)
        have hn := HR.out.put (j := j) (by rw [bkv_len]; exact hlt) (.int .i64 (j : Int))
        rw [bkv_set _ hlt] at hn
        have hcg : bkv (upd (fun x => if x < j then x else 0) j j) N = bkv (fun x => if x < j + 1 then x else 0) N := bkv_congr (fun v _ => by
          by_cases e : v = j
          · subst e; rw [upd_same, if_pos (by omega)]
          · rw [upd_other _ _ e]
            have : v < j ↔ v < j + 1 := by omega
            simp [this])
        rw [hcg] at hn
        have HN := Lib.hid hn
        have HBN := Lib.hid (HB.out.setCell (p := ⟨w7.heap.size, j, none⟩) (Nat.le_refl _) (.int .i64 (j : Int)))
        clear hn hcg
        go_wp2_with fail
        exact ⟨⟨j + 1, by go_num, by omega, HN, HBN⟩, by simp [intOf]; omega⟩
      · have hjj : N = j := by omega
        have hf : Row 1 w7.heap.size wr (.slice (some ⟨w7.heap.size, 0, none⟩) N N) N (bkv (ansK T ls 0) N) := by
          have h := HR.out
          have : bkv (fun x => if x < j then x else 0) N = bkv (ansK T ls 0) N := bkv_congr (fun v hv => by rw [ansK_zero, if_pos (by omega)])
          rw [this] at h
          exact h
        have HF := Lib.hid hf
        clear hf HR
        subst hjj
        go_wp2_with fail
        go_loopw [49] (fun jv wr => ∃ j : Nat, jv = .int .i64 (j : Nat) ∧ j ≤ m ∧ Hid (Row 1 w7.heap.size wr (.slice (some ⟨w7.heap.size, 0, none⟩) N N) N (bkv (ansK T ls j) N)) ∧ Hid (Below w7.heap.size w7 wr)) (fun jv _ => m - (intOf jv).toNat)
        case atStart => exact ⟨0, rfl, Nat.zero_le _, HF, HB⟩
        case round =>
          obtain ⟨j, rfl, hjm, HR, HB⟩ := hrel
          by_cases hlt : j < m
          · obtain ⟨x, hx⟩ : ∃ x, T[j]? = some x := ⟨T[j]'(by rw [← HM.out]; exact hlt), by simp⟩
            have hxN : x < N := HT.out.lt x (List.mem_of_getElem? hx)
            have hlj : ls j ≤ j := (HLS.out j (by rw [← HM.out]; exact hlt)).le
            obtain ⟨l, hl⟩ : ∃ l, l = ls j := ⟨_, rfl⟩
            rw [← hl] at hlj
            obtain ⟨y, hy⟩ : ∃ y, T[l]? = some y := ⟨T[l]'(by rw [← HM.out]; omega), by simp⟩
            have hlr := HL8.out.below HB.out
            have htr := HT8.out.below HB.out
            obtain ⟨lb, lc', hlv, _, _, hlc1, hlc2, _, hlx⟩ := hlr.pos (by omega)
            injection hlv with hl1 _ hl3
            subst hl1; subst hl3
            obtain ⟨tb, tc', htv, _, _, htc1, htc2, _, htx⟩ := htr.pos (by omega)
            injection htv with ht1 _ ht3
            subst ht1; subst ht3
            have cl := hlx j _ (bkv_at ls hlt)
            rw [← hl] at cl
            have cx := htx j _ (by simp [iv, nl, hx] : (iv (nl T))[j]? = some (.int .i64 (x : Int)))
            have cy := htx l _ (by simp [iv, nl, hy] : (iv (nl T))[l]? = some (.int .i64 (y : Int)))
            obtain ⟨xb, xf, _⟩ := HR.out.cellF (bkv_at _ hxN)
            have hn := HR.out.put (j := x) (by rw [bkv_len]; exact hxN) (.int .i64 (y : Int))
            rw [bkv_set _ hxN] at hn
            have hcg : bkv (upd (ansK T ls j) x y) N = bkv (ansK T ls (j + 1)) N := bkv_congr (fun v _ => by
              rw [ansK_step HT.out.nd hx]
              by_cases e : v = x
              · subst e; rw [upd_same, if_pos rfl, ← hl, List.getD_eq_getElem?_getD, hy]; rfl
              · rw [upd_other _ _ e, if_neg e])
            rw [hcg] at hn
            have HN := Lib.hid hn
            have HBN := Lib.hid (HB.out.setCell (p := ⟨w7.heap.size, x, none⟩) (Nat.le_refl _) (.int .i64 (y : Int)))
            have hlm : l < m := by omega
            unfold maxLen at hlc2 htc2
            clear hn hcg hx hy hl hlr htr hlx htx hlj
            go_wp2_with fail
            go_region
            go_wp2_with fail
            exact ⟨⟨j + 1, by go_num, by omega, Lib.hid (HN.out.below (Below.refl _ _).drew), Lib.hid HBN.out.drew⟩, by simp [intOf]; omega⟩
          · have hjj : m = j := by omega
            have HANS : Hid (∀ x, x < N → LeastK (EdR ES) x (ansK T ls T.length x)) := Lib.hid (fun x _ => ansK_all HT.out HLS.out x)
            have HF2 : Hid (Row 1 w7.heap.size wr (.slice (some ⟨w7.heap.size, 0, none⟩) N N) N (bkv (ansK T ls T.length) N)) := Lib.hid (by rw [← HM.out, hjj]; exact HR.out)
            subst hjj
            go_wp2_with fail
            go_ret
            exact ⟨_, _, rfl, HF2.out.mono HB7.out.size, HANS.out, HB7.out.trans (HB.out.mono HB7.out.size)⟩
end Go.Proofs.YtfpepoebammeoaaGreat
set_option linter.unusedVariables false
set_option linter.unusedSimpArgs false
namespace Go.Proofs.YtfpepoebammeoaaGreat
open Go.ChangeShapes Go.WideShapes Go.ChangeAt Go.RowKit

theorem count_idx : ∀ {T : List Nat} {a : Nat}, T.Pairwise (· < ·) → a ∈ T → (nl T).countP (· < (a : Int)) = T.idxOf a
  | b :: T, a, h, ha => by
    obtain ⟨h1, h2⟩ := List.pairwise_cons.1 h
    by_cases e : b = a
    · subst e
      rw [List.idxOf_cons_self]
      rw [List.countP_eq_zero]
      intro x hx
      obtain ⟨y, hy, rfl⟩ := List.mem_map.1 hx
      rcases List.mem_cons.1 hy with rfl | hy
      · simp
      · have := h1 y hy; simp; omega
    · have haT : a ∈ T := by
        rcases List.mem_cons.1 ha with rfl | h
        · exact absurd rfl e
        · exact h
      have := h1 a haT
      have hbe : (b == a) = false := by rw [beq_eq_false_iff_ne]; exact e
      have hi : (b :: T).idxOf a = T.idxOf a + 1 := by rw [List.idxOf_cons, hbe]; rfl
      rw [hi, ← count_idx h2 haT]
      have hlt : decide ((b : Int) < (a : Int)) = true := decide_eq_true (by omega)
      simp only [nl, List.map_cons, List.countP_cons, hlt, if_true]
theorem sort1_any (q a : Nat) (T : List Nat) (ta : Option Addr) (tl tc : Nat) (W : World) (hT : T.Pairwise (· < ·)) (ha : a ∈ T) (hl : T.length ≤ 1000000) (hq : W.cell? ⟨q, 0, none⟩ = some (.slice ta tl tc)) (hr : RI W (.slice ta tl tc) (nl T)) :
    Calls Tryz.prog 50 #[.int .i64 (a : Int), .pointer (some ⟨q, 0, none⟩)] W fun e w' => e = .returned (.int .i64 ((T.idxOf a : Nat) : Int)) ∧ Below W.heap.size W w' := by
  have h0 : 0 < tl := by
    obtain ⟨ta', tc', he⟩ := hr.form
    injection he with _ h2 _
    rw [h2, nl_len]
    exact List.length_pos_of_mem ha
  obtain ⟨b, o, rfl, hn, hb, hc1, hc2, hx⟩ := hr.some h0
  have BS := Tryz.slices_BinarySearch_int b o tl tc (nl T) (a : Int) W (by omega) (by rw [hn, nl_len]; omega) (fun j hj => by
    rw [List.getD_eq_getElem?_getD, List.getElem?_eq_getElem hj]
    exact hx j _ (List.getElem?_eq_getElem hj)) (by
    rw [List.take_of_length_le (by omega), nl, List.pairwise_map]
    exact hT.imp fun hab => by omega)
  rw [List.take_of_length_le (by omega), count_idx hT ha] at BS
  have HBS := Lib.hid BS
  clear BS hx hn
  go_enter Tryz.func50, Tryz.ntmps50
  go_wp2_with fail
  refine HBS.out.mono ?_
  rintro e w1 ⟨rfl, d, rfl⟩
  go_wp2_with fail
  go_ret
  exact ⟨rfl, Below.drewN (Below.refl _ _)⟩
theorem riOff2 {Z : Nat → Prop} {w w' : World} {v : Value} {l : List Int} (h : RI w v l) (ho : Off Z w w') (hv : l ≠ [] → ∀ b o c n, v = .slice (some ⟨b, o, none⟩) n c → ¬ Z b) : RI w' v l := by
  rcases h with h | ⟨hn, b, o, c, h1, h2, h3, h4, h5⟩
  · exact .inl h
  · exact .inr ⟨hn, b, o, c, h1, h2, h3, Nat.lt_of_lt_of_le h4 ho.size, fun j x hx => (ho.cell (p := ⟨b, o + j, none⟩) h4 (hv hn b o c _ h1)).trans (h5 j x hx)⟩
structure SQ (w : World) (q s4 k : Nat) (kv tv : Value) (T : List Nat) (ES : List (Nat × Nat)) (ph : Nat) (fv hv : Value) (op : Option Nat) (W : World) : Prop where
  bw : Below w.heap.size w W
  rt : RI W tv (nl T)
  cq : W.cell? ⟨q, 0, none⟩ = some tv
  sz : s4 ≤ W.heap.size
  ws : w.heap.size ≤ s4
  qs : q < s4
  ko : ∀ b, kv.ownBlock = some b → b < q ∧ w.heap.size ≤ b
  tq : nl T ≠ [] → ∀ b o c n, tv = .slice (some ⟨b, o, none⟩) n c → b < q ∧ ¬ kv.ownBlock = some b
  k0 : ph = 0 → Row 2 w.heap.size W kv k (evs (toI ES))
  k1 : ph = 1 → Row 2 w.heap.size W kv k (evs (toI (renE T ES)))
  k2 : ph = 2 → ∃ H, WebK W fv hv T.length k (preE (renE T ES)) H ∧ HeadI T.length (renE T ES) (renE T ES).length H
  pp : ∀ p, op = some p → s4 ≤ p ∧ p < W.heap.size ∧ W.cell? ⟨p, 0, none⟩ = some (.slice none 0 0) ∧ W.cell? ⟨p, 1, none⟩ = some (.slice none 0 0) ∧ W.frozen? ⟨p, 0, none⟩ = false ∧ W.frozen? ⟨p, 1, none⟩ = false
section
variable {w W W' : World} {q s4 k : Nat} {kv tv : Value} {T : List Nat} {ES : List (Nat × Nat)} {ph : Nat} {fv hv : Value} {op : Option Nat}
theorem SQ.pbelow (h : SQ w q s4 k kv tv T ES ph fv hv op W) {Z : Nat → Prop} (ho : Off Z W W') (hz : ∀ i, s4 ≤ i → ¬ Z i) : ∀ p, op = some p → s4 ≤ p ∧ p < W'.heap.size ∧ W'.cell? ⟨p, 0, none⟩ = some (.slice none 0 0) ∧ W'.cell? ⟨p, 1, none⟩ = some (.slice none 0 0) ∧ W'.frozen? ⟨p, 0, none⟩ = false ∧ W'.frozen? ⟨p, 1, none⟩ = false := fun p e => by
  obtain ⟨x, y, a, b, c, d⟩ := h.pp p e
  have hp := hz p x
  exact ⟨x, Nat.lt_of_lt_of_le y ho.size, (ho.cell (p := ⟨p, 0, none⟩) y hp).trans a, (ho.cell (p := ⟨p, 1, none⟩) y hp).trans b, (ho.frozen (p := ⟨p, 0, none⟩) y hp).trans c, (ho.frozen (p := ⟨p, 1, none⟩) y hp).trans d⟩
theorem SQ.below (h : SQ w q s4 k kv tv T ES ph fv hv op W) (hb : Below W.heap.size W W') : SQ w q s4 k kv tv T ES ph fv hv op W' :=
  ⟨h.bw.trans (hb.mono h.bw.size), h.rt.below hb, (hb.cell (p := ⟨q, 0, none⟩) (by have := h.sz; have := h.qs; show q < _; omega)).trans h.cq, Nat.le_trans h.sz hb.size, h.ws, h.qs, h.ko, h.tq, fun e => (h.k0 e).below hb, fun e => (h.k1 e).below hb, fun e => by obtain ⟨H, h1, h2⟩ := h.k2 e; exact ⟨H, h1.below hb, h2⟩, h.pbelow (Off.of_below (Z := fun _ => False) hb) (fun _ _ h => h)⟩
theorem SQ.mkp (h : SQ w q s4 k kv tv T ES ph fv hv none W) (t : TypeId) : SQ w q s4 k kv tv T ES ph fv hv (some W.heap.size) (W.alloc (.cells #[.slice none 0 0, .slice none 0 0] t)) := by
  have hg := h.below ((Below.refl _ W).alloc (Nat.le_refl _) (.cells #[.slice none 0 0, .slice none 0 0] t))
  refine ⟨hg.bw, hg.rt, hg.cq, hg.sz, hg.ws, hg.qs, hg.ko, hg.tq, hg.k0, hg.k1, hg.k2, fun p e => ?_⟩
  obtain rfl := Option.some.inj e
  refine ⟨h.sz, by simp, ?_, ?_, ?_, ?_⟩
  · rw [World.cell?_alloc_at _ _ _ _ rfl]; rfl
  · rw [World.cell?_alloc_at _ _ _ _ rfl]; rfl
  · rw [World.frozen?_alloc_mark]; simp
  · rw [World.frozen?_alloc_mark]; simp
theorem SQ.there {p : Nat} (h : SQ w q s4 k kv tv T ES ph fv hv op W) (e : op = some p) : W.there p 0 2 := fun j hj => by
  obtain ⟨_, _, a, b, c, d⟩ := h.pp p e
  have : j = 0 ∨ j = 1 := by omega
  rcases this with rfl | rfl
  · exact ⟨by rw [a]; rfl, c⟩
  · exact ⟨by rw [b]; rfl, d⟩
def SqA (w : World) (q s4 k : Nat) (kv tv : Value) (T : List Nat) (ES : List (Nat × Nat)) (pv : Value) (W : World) : Prop := ∃ p fb fc hb hc, pv = .pointer (some ⟨p, 0, none⟩) ∧ W.cell? ⟨p, 0, none⟩ = some (.slice (some ⟨fb, 0, none⟩) (T.length + 1) fc) ∧ W.cell? ⟨p, 1, none⟩ = some (.slice (some ⟨hb, 0, none⟩) k hc) ∧
  Hid (SQ w q s4 k kv tv T ES 2 (.slice (some ⟨fb, 0, none⟩) (T.length + 1) fc) (.slice (some ⟨hb, 0, none⟩) k hc) none W)
theorem SQ.done {p fb fc hb hc : Nat} (h : SQ w q s4 k kv tv T ES 2 (.slice (some ⟨fb, 0, none⟩) (T.length + 1) fc) (.slice (some ⟨hb, 0, none⟩) k hc) op W) (hp : op = some p) :
    SqA w q s4 k kv tv T ES (.pointer (some ⟨p, 0, none⟩)) (W.setCells p 0 [.slice (some ⟨fb, 0, none⟩) (T.length + 1) fc, .slice (some ⟨hb, 0, none⟩) k hc]) := by
  obtain ⟨pp1, pp2, pc0, pc1, _⟩ := h.pp p hp
  have hth := h.there hp
  have hh := heap_setCells [.slice (some ⟨fb, 0, none⟩) (T.length + 1) fc, .slice (some ⟨hb, 0, none⟩) k hc] p 0 W
  have hcl : ∀ (j : Nat) v, [Value.slice (some ⟨fb, 0, none⟩) (T.length + 1) fc, Value.slice (some ⟨hb, 0, none⟩) k hc][j]? = some v → (W.setCells p 0 [.slice (some ⟨fb, 0, none⟩) (T.length + 1) fc, .slice (some ⟨hb, 0, none⟩) k hc]).cell? ⟨p, j, none⟩ = some v := fun j v hjv => by
    obtain ⟨hj, e⟩ := List.getElem?_eq_some_iff.1 hjv
    have := World.cell?_setCells_in p _ 0 W (fun j hj => (hth j (by simpa using hj)).1) j hj
    rw [Nat.zero_add] at this
    rw [this, e]
  generalize W.setCells p 0 [.slice (some ⟨fb, 0, none⟩) (T.length + 1) fc, .slice (some ⟨hb, 0, none⟩) k hc] = W9 at *
  have ho : Off (fun i => i = p) W W9 := ⟨hh.2.2.1, hh.2.2.2.1, hh.2.2.2.2, Nat.le_of_eq hh.1.symm, fun i _ hi => hh.2.1 i hi⟩
  have hqs := h.qs
  have hsz := h.sz
  have hws := h.ws
  obtain ⟨H, hw, hH⟩ := h.k2 rfl
  refine ⟨p, fb, fc, hb, hc, rfl, hcl 0 _ rfl, hcl 1 _ rfl, Lib.hid ⟨?_, ?_, ?_, Nat.le_trans h.sz ho.size, h.ws, h.qs, h.ko, h.tq, fun e => (by cases e), fun e => (by cases e), fun _ => ⟨H, ?_, hH⟩, fun p e => (by cases e)⟩⟩
  · exact h.bw.trans (ho.below (B := w.heap.size) (fun i hi => by omega) h.bw.size)
  · refine riOff2 h.rt ho (fun hn b o c n e e2 => ?_)
    have := (h.tq hn b o c n e).1
    omega
  · exact (ho.cell (p := ⟨q, 0, none⟩) (by show q < _; omega) (by show ¬ q = p; omega)).trans h.cq
  · obtain ⟨fb', fc', f1, f2, f3, f4, f5⟩ := hw.f
    obtain ⟨hb', hc', h1, h2, h3, h4, h5⟩ := hw.h
    simp only [Value.slice.injEq, Option.some.injEq, Addr.mk.injEq, and_true, true_and] at f1 h1
    obtain ⟨rfl, rfl⟩ := f1
    obtain ⟨rfl, rfl⟩ := h1
    have hne : fb ≠ p := fun e => by
      have := f5 0 (by omega)
      rw [e, pc0] at this
      cases this
    have hne2 : ∀ (j x : Nat), H[j]? = some x → hb ≠ p := fun j x hx e => by
      have hj0 : 0 < H.length := by have := (List.getElem?_eq_some_iff.1 hx).1; omega
      have := h5 0 _ (List.getElem?_eq_getElem hj0)
      rw [e, pc0] at this
      cases this
    exact ⟨⟨fb, fc, rfl, f2, f3, Nat.lt_of_lt_of_le f4 ho.size, fun j hj => (ho.cell (p := ⟨fb, j, none⟩) f4 hne).trans (f5 j hj)⟩, ⟨hb, hc, rfl, h2, h3, Nat.lt_of_lt_of_le h4 ho.size, fun j x hx => (ho.cell (p := ⟨hb, j, none⟩) h4 (hne2 j x hx)).trans (h5 j x hx)⟩, hw.el, hw.mono, hw.le, hw.lt⟩
end

theorem among_lt {n : Int} {es : Ed} : ∀ e ∈ toN (amongL n es), e.1 < n.toNat ∧ e.2 < n.toNat := by
  intro e he
  obtain ⟨e0, h0, rfl⟩ := List.mem_map.1 he
  obtain ⟨h1, h2, h3, h4⟩ := rightP_iff.1 (List.mem_filter.1 h0).2
  simp only
  omega
theorem Row.lower {k B B' n : Nat} {w : World} {v : Value} {cs : List Value} (h : Row k B w v n cs) (hB : B' ≤ B) : Row k B' w v n cs := by
  obtain ⟨h0, h | ⟨b, cap, h1, h2, h3⟩⟩ := h
  · exact ⟨h0, .inl h⟩
  · exact ⟨h0, .inr ⟨b, cap, h1, Nat.le_trans hB h2, h3⟩⟩
set_option maxHeartbeats 4000000 in
set_option maxRecDepth 100000 in
theorem sortF_row (n : Int) (es : Ed) (v : Value) (w : World) (hr : RE w v es) (hl : es.length ≤ 400000) (hn1 : -9223372036854775808 ≤ n) (hn : n ≤ 400000) :
    Calls Tryz.prog 22 #[.int .i64 n, v] w fun e W' => ∃ ov out ok, e = .returned (.tuple #[ov, .bool ok]) ∧ SortR n.toNat (toN (amongL n es)) out ok ∧ Row 1 w.heap.size W' ov out.length (iv out) ∧ Below w.heap.size w W' := by
  obtain ⟨N, hN⟩ : ∃ N, N = n.toNat := ⟨_, rfl⟩
  obtain ⟨ES, hES⟩ : ∃ ES, ES = toN (amongL n es) := ⟨_, rfl⟩
  have hEI : amongL n es = toI ES := by rw [hES]; exact toI_toN.symm
  have hlt : ∀ e ∈ ES, e.1 < N ∧ e.2 < N := by rw [hES, hN]; exact among_lt
  have hELn : ES.length ≤ 400000 := by
    have h2 : (amongL n es).length ≤ es.length := List.length_filter_le _ _
    rw [hES]
    simp only [toN, List.length_map]
    omega
  have hT := tied_tiedL hlt
  rw [← hES, ← hN]
  have CA := among_any n es v w hr (by omega)
  rw [hEI] at CA
  obtain ⟨T, hTT⟩ : ∃ T, T = tiedL ES N := ⟨_, rfl⟩
  obtain ⟨m, hm⟩ : ∃ m, m = T.length := ⟨_, rfl⟩
  have hmN : m ≤ 400000 := by
    have := tiedL_len ES N
    rw [hm, hTT]; omega
  have HCA := Lib.hid CA
  have HLT := Lib.hid hlt
  have HT := Lib.hid (by rw [hTT]; exact hT : Tied N ES T)
  have HTT := Lib.hid hTT
  have HM := Lib.hid hm
  obtain ⟨va, vc, rfl⟩ := hr.form
  have HLI := Lib.hid (by simp [toI] : (toI ES).length = ES.length)
  obtain ⟨k, hk⟩ : ∃ k, k = ES.length := ⟨_, rfl⟩
  have HK := Lib.hid hk
  have HN := Lib.hid hN
  have hREN : renI (fun x => ((T.idxOf x.toNat : Nat) : Int)) (toI ES) = toI (renE T ES) := by
    unfold renI toI renE
    rw [List.map_map, List.map_map]
    exact List.map_congr_left fun e he => by simp
  have HREN := Lib.hid hREN
  rw [← hk] at hELn
  clear hr CA hlt hT hTT hm hES hEI hk hN hREN
  go_enter Tryz.func22, Tryz.ntmps22
  go_wp2_with fail
  refine HCA.out.mono ?_
  rintro e w2 ⟨kv, rfl, hkr, hb2⟩
  rw [HLI.out, ← HK.out] at hkr
  obtain ⟨ka, kc, rfl⟩ := hkr.form
  have hko : ∀ b, (Value.slice ka k kc).ownBlock = some b → w.heap.size ≤ b ∧ b < w2.heap.size := fun b hb => hkr.lt b hb
  have EN := ends_any (w := w2) ES N (.slice ka k kc) (RE.ofRow (by rw [HLI.out, ← HK.out]; exact hkr)) (by rw [← HK.out]; omega) HLT.out
  have HEN := Lib.hid EN
  have HKR := Lib.hid hkr
  have HKO := Lib.hid hko
  have HB2 := Lib.hid hb2
  clear EN hkr hko hb2
  go_wp2_with fail
  refine HEN.out.mono ?_
  rintro e w3 ⟨tv, rfl, htr, hto, hb3⟩
  rw [← HTT.out] at htr
  obtain ⟨ta, tc, htv⟩ := htr.form
  rw [nl_len, ← HM.out] at htv
  subst htv
  obtain ⟨q, hq⟩ : ∃ q, q = w3.heap.size := ⟨_, rfl⟩
  obtain ⟨w4, hw4⟩ : ∃ w4, w4 = w3.alloc (.cells #[.slice ta m tc] 23) := ⟨_, rfl⟩
  have hb34 : Below w3.heap.size w3 w4 := by rw [hw4]; exact (Below.refl _ _).alloc (Nat.le_refl _) _
  have hb24 : Below w2.heap.size w2 w4 := hb3.trans (hb34.mono hb3.size)
  have hqc : w4.cell? ⟨q, 0, none⟩ = some (.slice ta m tc) := by rw [hw4, hq, World.cell?_alloc_at _ _ _ _ rfl]; rfl
  have hs23 := hb3.size
  have hq4 : q < w4.heap.size := cell_lt hqc
  have hs22 := HB2.out.size
  have hsq : SQ w q w4.heap.size k (.slice ka k kc) (.slice ta m tc) T ES 0 .nilIface .nilIface none w4 := by
    refine ⟨HB2.out.trans (hb24.mono HB2.out.size), htr.below hb34, hqc, Nat.le_refl _, by omega, hq4, fun b hb => by have := HKO.out b hb; omega, fun hn b o c n' e => ?_, fun _ => HKR.out.below hb24, fun e => (by cases e), fun e => (by cases e), fun p e => (by cases e)⟩
    have h1 := hto b (by rw [e]; rfl)
    have h2 : b < w3.heap.size := by
      rcases htr with ⟨h, _⟩ | ⟨_, b', o', c', h, _, _, h4, _⟩
      · exact absurd h hn
      · rw [e] at h
        injection h with h _ _
        injection h with h
        injection h with h _ _
        omega
    refine ⟨by omega, fun e2 => ?_⟩
    have := (HKO.out b e2).2
    omega
  have RN : ∀ op W, SQ w q w4.heap.size k (.slice ka k kc) (.slice ta m tc) T ES 0 .nilIface .nilIface op W → Calls Tryz.prog 46 #[.slice ka k kc, .func (.func 50) #[] #[.pointer (some ⟨q, 0, none⟩)]] W fun e W' => e = .returned (.slice ka k kc) ∧ SQ w q w4.heap.size k (.slice ka k kc) (.slice ta m tc) T ES 1 .nilIface .nilIface op W' := by
    intro op W hS
    have hkW : ∀ W', Off (fun i => (Value.slice ka k kc).ownBlock = some i) W W' → W'.cell? ⟨q, 0, none⟩ = some (.slice ta m tc) ∧ RI W' (.slice ta m tc) (nl T) := fun W' ho =>
      ⟨(ho.cell (p := ⟨q, 0, none⟩) (by have := hS.sz; show q < _; omega) (fun e => by have := (hS.ko q e).1; omega)).trans hS.cq, riOff2 hS.rt ho (fun hn b o c n' e => (hS.tq hn b o c n' e).2)⟩
    have h := renS_any q (fun x => ((T.idxOf x.toNat : Nat) : Int)) (toI ES) w.heap.size (.slice ka k kc) W (by rw [HLI.out, ← HK.out]; exact hS.k0 rfl) (by rw [HLI.out, ← HK.out]; omega) (fun x W' hx ho => by
      obtain ⟨a, haT, rfl⟩ : ∃ a : Nat, a ∈ T ∧ x = (a : Int) := by
        obtain ⟨e, he, hxe⟩ := hx
        obtain ⟨e0, h0, rfl⟩ := List.mem_map.1 he
        rcases hxe with rfl | rfl
        · exact ⟨e0.1, HT.out.fst e0 h0, rfl⟩
        · exact ⟨e0.2, HT.out.snd e0 h0, rfl⟩
      obtain ⟨h1, h2⟩ := hkW W' ho
      rw [Int.toNat_natCast]
      exact sort1_any q a T ta m tc W' HT.out.asc haT (by rw [← HM.out]; omega) h1 h2)
    rw [HREN.out, HLI.out, ← HK.out] at h
    refine h.mono ?_
    rintro e W' ⟨rfl, h1, ho⟩
    obtain ⟨c1, c2⟩ := hkW W' ho
    exact ⟨rfl, hS.bw.trans (ho.below (B := w.heap.size) (fun i hi => (hS.ko i hi).2) hS.bw.size), c2, c1, Nat.le_trans hS.sz ho.size, hS.ws, hS.qs, hS.ko, hS.tq, fun e => (by cases e), fun _ => h1, fun e => (by cases e), hS.pbelow ho (fun i hi e => by have := (hS.ko i e).1; have := hS.qs; omega)⟩
  have WV : ∀ op W, SQ w q w4.heap.size k (.slice ka k kc) (.slice ta m tc) T ES 1 .nilIface .nilIface op W → Calls Tryz.prog 45 #[.int .i64 (m : Nat), .slice ka k kc] W fun e W' => ∃ fb fc hb hc, e = .returned (.agg #[.slice (some ⟨fb, 0, none⟩) (T.length + 1) fc, .slice (some ⟨hb, 0, none⟩) k hc]) ∧ SQ w q w4.heap.size k (.slice ka k kc) (.slice ta m tc) T ES 2 (.slice (some ⟨fb, 0, none⟩) (T.length + 1) fc) (.slice (some ⟨hb, 0, none⟩) k hc) op W' := by
    intro op W hS
    have hlr : (toI (renE T ES)).length = k := by simp [toI, renE, HK.out]
    have hl2 : (renE T ES).length = k := by simp [renE, HK.out]
    have h := weave_any (w := W) (renE T ES) m (.slice ka k kc) (RE.ofRow (by rw [hlr]; exact hS.k1 rfl)) (by rw [hl2]; omega) (by omega) (by rw [HM.out]; exact renE_lt HT.out)
    refine h.mono ?_
    rintro e W' ⟨fv, hv, H, rfl, hweb, hhead, hb⟩
    rw [hl2, HM.out] at hweb
    rw [HM.out] at hhead
    obtain ⟨fb, fc, rfl, f2⟩ := hweb.f
    obtain ⟨hb', hc, rfl, h2⟩ := hweb.h
    have hg := hS.below hb
    exact ⟨fb, fc, hb', hc, rfl, hg.bw, hg.rt, hg.cq, hg.sz, hg.ws, hg.qs, hg.ko, hg.tq, fun e => (by cases e), fun e => (by cases e), fun _ => ⟨H, hweb, hhead⟩, hg.pp⟩
  have HRN := Lib.hid RN
  have HWV := Lib.hid WV
  have HSQ := Lib.hid (hsq.below (Below.refl _ _).drew)
  have HW4 := Lib.hid hw4
  have HQ := Lib.hid hq
  clear htr hto hb3 hb34 hb24 hqc RN WV hsq hw4 hq4 hq hs23 hs22
  go_wp2_with fail
  rw [← HQ.out, ← HW4.out]
  go_cut [8] from 15 to 20 (fun pv W => SqA w q w4.heap.size k (.slice ka k kc) (.slice ta m tc) T ES pv W)
  case first =>
    refine wp_region_held_drew (S := (fun W => W.cell? ⟨q, 0, none⟩ = some (.slice ta m tc))) (by kernel_rfl) ?_ (fun hHeld => ?_)
    · exact HSQ.out.cq
    refine tkH 0 ⟨some 15, .load 23 (.tmp 7), 23, "knots.go:39", #[], none⟩ ?_
    try simp only [Act.put, List.setIfInBounds_toArray, List.set_cons_zero, List.set_cons_succ]
    refine tkH 1 ⟨some 16, .call { callee := Callee.builtin Builtin.len, args := #[.tmp 15], argTypes := #[23] }, 3, "knots.go:39", #[⟨0, .data⟩], none⟩ ?_
    try simp only [Act.put, List.setIfInBounds_toArray, List.set_cons_zero, List.set_cons_succ]
    refine tkH 2 ⟨some 17, .move (.tmp 6), 22, "knots.go:39", #[], none⟩ ?_
    try simp only [Act.put, List.setIfInBounds_toArray, List.set_cons_zero, List.set_cons_succ]
    refine tkH 3 ⟨some 18, .makeFunc (Fn.func 50) #[] #[.tmp 7], 54, "knots.go:39", #[], none⟩ ?_
    try simp only [Act.put, List.setIfInBounds_toArray, List.set_cons_zero, List.set_cons_succ]
    refine wpAnyH_ready (rs := [4, 6]) (by kernel_rfl) (by simp) ?_
    refine AllReadyH.cons (o := ⟨some 19, .call { callee := Callee.value (Operand.func 46), args := #[.tmp 17, .tmp 18], argTypes := #[22, 54] }, 22, "knots.go:39", #[⟨2, .data⟩, ⟨3, .data⟩], none⟩) rfl (fun KK hK => ?_) (AllReadyH.cons (o := ⟨some 8, .alloc 71, 0, "knots.go:39", #[], none⟩) rfl (fun KK hK => ?_) AllReadyH.nil)
    · go_simp
      go_at_call 46
      refine (HRN.out _ _ HSQ.out).mono ?_
      rintro e wn1 ⟨rfl, hS⟩
      have HSQ := Lib.hid hS
      clear hS
      refine hK.out _ _ ?_ (fun hHeld => ?_)
      · exact HSQ.out.cq
      clear hK KK
      try simp only [Act.put, List.setIfInBounds_toArray, List.set_cons_zero, List.set_cons_succ]
      refine wpAnyH_ready (rs := [5, 6]) (by kernel_rfl) (by simp) ?_
      refine AllReadyH.cons (o := ⟨some 20, .call { callee := Callee.value (Operand.func 45), args := #[.tmp 16, .tmp 19], argTypes := #[3, 22] }, 71, "knots.go:39", #[⟨1, .data⟩, ⟨4, .data⟩, ⟨4, .chain⟩], none⟩) rfl (fun KK hK => ?_) (AllReadyH.cons (o := ⟨some 8, .alloc 71, 0, "knots.go:39", #[], none⟩) rfl (fun KK hK => ?_) AllReadyH.nil)
      · go_simp
        go_at_call 45
        refine (HWV.out _ _ HSQ.out).mono ?_
        rintro e wn2 ⟨fb, fc, hb, hc, rfl, hS⟩
        have HSQ := Lib.hid hS
        clear hS
        refine hK.out _ _ ?_ (fun hHeld => ?_)
        · exact HSQ.out.cq
        clear hK KK
        try simp only [Act.put, List.setIfInBounds_toArray, List.set_cons_zero, List.set_cons_succ]
        refine wpAnyH_ready (rs := [6]) (by kernel_rfl) (by simp) ?_
        refine AllReadyH.cons (o := ⟨some 8, .alloc 71, 0, "knots.go:39", #[], none⟩) rfl (fun KK hK => ?_) AllReadyH.nil
        go_simp
        have HSQ := Lib.hid (HSQ.out.mkp 71)
        refine hK.out _ _ ?_ (fun hHeld => ?_)
        · exact HSQ.out.cq
        clear hK KK
        try simp only [Act.put, List.setIfInBounds_toArray, List.set_cons_zero, List.set_cons_succ]
        refine wpAnyH_ready (rs := [7]) (by kernel_rfl) (by simp) ?_
        refine AllReadyH.cons (o := ⟨none, .store 71 (.tmp 8) (.tmp 20), 0, "knots.go:39", #[⟨6, .data⟩, ⟨5, .data⟩, ⟨5, .chain⟩, ⟨0, .phase⟩, ⟨1, .phase⟩, ⟨2, .phase⟩, ⟨3, .phase⟩, ⟨4, .phase⟩, ⟨5, .phase⟩, ⟨6, .phase⟩], none⟩) rfl (fun KK hK => ?_) AllReadyH.nil
        refine step_store_mid rfl 71 (.tmp 8) (.tmp 20) rfl _ 0 #[.slice (some ⟨_, 0, none⟩) (T.length + 1) _, .slice (some ⟨_, 0, none⟩) k _] rfl rfl (HSQ.out.there (by simp)) (by kernel_rfl) (by simp [Value.oneCell']) ?_
        refine hK.out _ _ ?_ (fun hHeld => ?_)
        · exact (HSQ.out.done (by simp)).choose_spec.choose_spec.choose_spec.choose_spec.choose_spec.2.2.2.out.cq
        clear hK KK
        try simp only [Act.put, List.setIfInBounds_toArray, List.set_cons_zero, List.set_cons_succ]
        refine wpAnyH_done (by kernel_rfl) ?_ _
        go_wp2_with fail
        go_meet
        exact HSQ.out.done (by simp)
      · go_simp
        have HSQ := Lib.hid (HSQ.out.mkp 71)
        refine hK.out _ _ ?_ (fun hHeld => ?_)
        · exact HSQ.out.cq
        clear hK KK
        try simp only [Act.put, List.setIfInBounds_toArray, List.set_cons_zero, List.set_cons_succ]
        refine wpAnyH_ready (rs := [5]) (by kernel_rfl) (by simp) ?_
        refine AllReadyH.cons (o := ⟨some 20, .call { callee := Callee.value (Operand.func 45), args := #[.tmp 16, .tmp 19], argTypes := #[3, 22] }, 71, "knots.go:39", #[⟨1, .data⟩, ⟨4, .data⟩, ⟨4, .chain⟩], none⟩) rfl (fun KK hK => ?_) AllReadyH.nil
        go_simp
        go_at_call 45
        refine (HWV.out _ _ HSQ.out).mono ?_
        rintro e wn2 ⟨fb, fc, hb, hc, rfl, hS⟩
        have HSQ := Lib.hid hS
        clear hS
        refine hK.out _ _ ?_ (fun hHeld => ?_)
        · exact HSQ.out.cq
        clear hK KK
        try simp only [Act.put, List.setIfInBounds_toArray, List.set_cons_zero, List.set_cons_succ]
        refine wpAnyH_ready (rs := [7]) (by kernel_rfl) (by simp) ?_
        refine AllReadyH.cons (o := ⟨none, .store 71 (.tmp 8) (.tmp 20), 0, "knots.go:39", #[⟨6, .data⟩, ⟨5, .data⟩, ⟨5, .chain⟩, ⟨0, .phase⟩, ⟨1, .phase⟩, ⟨2, .phase⟩, ⟨3, .phase⟩, ⟨4, .phase⟩, ⟨5, .phase⟩, ⟨6, .phase⟩], none⟩) rfl (fun KK hK => ?_) AllReadyH.nil
        refine step_store_mid rfl 71 (.tmp 8) (.tmp 20) rfl _ 0 #[.slice (some ⟨_, 0, none⟩) (T.length + 1) _, .slice (some ⟨_, 0, none⟩) k _] rfl rfl (HSQ.out.there (by simp)) (by kernel_rfl) (by simp [Value.oneCell']) ?_
        refine hK.out _ _ ?_ (fun hHeld => ?_)
        · exact (HSQ.out.done (by simp)).choose_spec.choose_spec.choose_spec.choose_spec.choose_spec.2.2.2.out.cq
        clear hK KK
        try simp only [Act.put, List.setIfInBounds_toArray, List.set_cons_zero, List.set_cons_succ]
        refine wpAnyH_done (by kernel_rfl) ?_ _
        go_wp2_with fail
        go_meet
        exact HSQ.out.done (by simp)
    · go_simp
      have HSQ := Lib.hid (HSQ.out.mkp 71)
      refine hK.out _ _ ?_ (fun hHeld => ?_)
      · exact HSQ.out.cq
      clear hK KK
      try simp only [Act.put, List.setIfInBounds_toArray, List.set_cons_zero, List.set_cons_succ]
      refine wpAnyH_ready (rs := [4]) (by kernel_rfl) (by simp) ?_
      refine AllReadyH.cons (o := ⟨some 19, .call { callee := Callee.value (Operand.func 46), args := #[.tmp 17, .tmp 18], argTypes := #[22, 54] }, 22, "knots.go:39", #[⟨2, .data⟩, ⟨3, .data⟩], none⟩) rfl (fun KK hK => ?_) AllReadyH.nil
      go_simp
      go_at_call 46
      refine (HRN.out _ _ HSQ.out).mono ?_
      rintro e wn1 ⟨rfl, hS⟩
      have HSQ := Lib.hid hS
      clear hS
      refine hK.out _ _ ?_ (fun hHeld => ?_)
      · exact HSQ.out.cq
      clear hK KK
      try simp only [Act.put, List.setIfInBounds_toArray, List.set_cons_zero, List.set_cons_succ]
      refine wpAnyH_ready (rs := [5]) (by kernel_rfl) (by simp) ?_
      refine AllReadyH.cons (o := ⟨some 20, .call { callee := Callee.value (Operand.func 45), args := #[.tmp 16, .tmp 19], argTypes := #[3, 22] }, 71, "knots.go:39", #[⟨1, .data⟩, ⟨4, .data⟩, ⟨4, .chain⟩], none⟩) rfl (fun KK hK => ?_) AllReadyH.nil
      go_simp
      go_at_call 45
      refine (HWV.out _ _ HSQ.out).mono ?_
      rintro e wn2 ⟨fb, fc, hb, hc, rfl, hS⟩
      have HSQ := Lib.hid hS
      clear hS
      refine hK.out _ _ ?_ (fun hHeld => ?_)
      · exact HSQ.out.cq
      clear hK KK
      try simp only [Act.put, List.setIfInBounds_toArray, List.set_cons_zero, List.set_cons_succ]
      refine wpAnyH_ready (rs := [7]) (by kernel_rfl) (by simp) ?_
      refine AllReadyH.cons (o := ⟨none, .store 71 (.tmp 8) (.tmp 20), 0, "knots.go:39", #[⟨6, .data⟩, ⟨5, .data⟩, ⟨5, .chain⟩, ⟨0, .phase⟩, ⟨1, .phase⟩, ⟨2, .phase⟩, ⟨3, .phase⟩, ⟨4, .phase⟩, ⟨5, .phase⟩, ⟨6, .phase⟩], none⟩) rfl (fun KK hK => ?_) AllReadyH.nil
      refine step_store_mid rfl 71 (.tmp 8) (.tmp 20) rfl _ 0 #[.slice (some ⟨_, 0, none⟩) (T.length + 1) _, .slice (some ⟨_, 0, none⟩) k _] rfl rfl (HSQ.out.there (by simp)) (by kernel_rfl) (by simp [Value.oneCell']) ?_
      refine hK.out _ _ ?_ (fun hHeld => ?_)
      · exact (HSQ.out.done (by simp)).choose_spec.choose_spec.choose_spec.choose_spec.choose_spec.2.2.2.out.cq
      clear hK KK
      try simp only [Act.put, List.setIfInBounds_toArray, List.set_cons_zero, List.set_cons_succ]
      refine wpAnyH_done (by kernel_rfl) ?_ _
      go_wp2_with fail
      go_meet
      exact HSQ.out.done (by simp)
  case rest =>
    obtain ⟨p, fb, fc, hb, hc, rfl, pc0, pc1, HSA⟩ := hcut
    clear HSQ HRN HWV
    have LN : Calls Tryz.prog 51 #[.agg #[.slice (some ⟨fb, 0, none⟩) (T.length + 1) fc, .slice (some ⟨hb, 0, none⟩) k hc]] wc fun e w' => ∃ ov, ∃ told : List Int, e = .returned ov ∧ ReachK (needE (renE T ES)) T.length told ∧ nextK (needE (renE T ES)) T.length told = none ∧ Row 1 wc.heap.size w' ov told.length (iv told) ∧ Below wc.heap.size wc w' := by
      obtain ⟨H, hweb, hhead⟩ := HSA.out.k2 rfl
      have hl2 : (renE T ES).length = k := by simp [renE, HK.out]
      exact kline_any (renE T ES) T.length k _ _ H hweb hhead hl2.symm (by rw [← HM.out]; exact hmN) hELn (renE_lt HT.out)
    have HLNE := Lib.hid LN
    clear LN
    go_wp2_with fail
    refine HLNE.out.mono ?_
    rintro e w6 ⟨lv, told, rfl, hre, hnx, hlr, hb6⟩
    obtain ⟨la, lc, rfl⟩ := hlr.form
    obtain ⟨ll, hll⟩ : ∃ ll, ll = told.length := ⟨_, rfl⟩
    rw [← hll] at hlr
    have hllm : ll ≤ m := by rw [hll, HM.out]; exact reach_len hre
    have HS6 := Lib.hid (HSA.out.below hb6)
    have q6 := HS6.out.cq
    have HRI : Hid (RI w6 (.slice la ll lc) told) := Lib.hid (RI.ofRow (by rw [← hll]; exact hlr))
    have HRE := Lib.hid hre
    have HNX := Lib.hid hnx
    have HLL := Lib.hid hll
    clear hre hnx hlr hb6 pc0 pc1
    rw [← hll]
    clear hll
    by_cases hlm : ll < m
    · have hlmI : (ll : Int) < (m : Int) := by omega
      have HSR : Hid (SortR N ES [] false) := Lib.hid (sort_stuck HT.out HM.out (by rw [HM.out]; exact HRE.out) (by rw [HM.out]; exact HNX.out) (by rw [← HLL.out]; omega))
      go_wp2_with fail
      go_ret2
      exact ⟨_, [], false, rfl, HSR.out, Row.nil _ _ _, HS6.out.bw⟩
    · have hlmI : ¬ (ll : Int) < (m : Int) := by omega
      have hnI : ¬ (2147483647 : Int) < n := by omega
      have hle : ll = m := by omega
      have MG := merge_any (w := w6) ES T told N n (.slice ta m tc) (.slice la ll lc) HN.out.symm hn hn1 HT.out HS6.out.rt HRI.out HRE.out HNX.out
      have HMG := Lib.hid MG
      have HLE : Hid (told.length = m) := Lib.hid (by rw [← HLL.out]; exact hle)
      clear MG hle
      go_wp2_with fail
      refine HMG.out.mono ?_
      rintro e w7 ⟨ov, out, rfl, hor, hmg, hb7⟩
      have HSR : Hid (SortR N ES out true) := Lib.hid (merge_end HT.out HM.out (by rw [HM.out]; exact HRE.out) HLE.out hmg)
      have HOR := Lib.hid (hor.lower HS6.out.bw.size)
      have HB7 := Lib.hid (HS6.out.bw.trans (hb7.mono HS6.out.bw.size))
      clear hor hmg hb7
      go_wp2_with fail
      go_ret2
      exact ⟨_, out, true, rfl, HSR.out, HOR.out, HB7.out⟩
theorem sortF_any (n : Int) (es : Ed) (v : Value) (w : World) (hr : RE w v es) (hl : es.length ≤ 400000) (hn1 : -9223372036854775808 ≤ n) (hn : n ≤ 400000) :
    Calls Tryz.prog 22 #[.int .i64 n, v] w fun e W' => ∃ ov out ok, e = .returned (.tuple #[ov, .bool ok]) ∧ SortR n.toNat (toN (amongL n es)) out ok ∧ RI W' ov out ∧ Below w.heap.size w W' := by
  refine (sortF_row n es v w hr hl hn1 hn).mono ?_
  rintro e w' ⟨ov, out, ok, h1, h2, h3, h4⟩
  exact ⟨ov, out, ok, h1, h2, RI.ofRow h3, h4⟩
end Go.Proofs.YtfpepoebammeoaaGreat
