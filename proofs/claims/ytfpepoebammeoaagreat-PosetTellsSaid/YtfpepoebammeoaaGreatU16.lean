/- The contract of a web's line. -/
import Derived.Test.YtfpepoebammeoaaGreatU14
import Derived.Test.YtfpepoebammeoaaGreatU15
import Derived.Test.YtfpepoebammeoaaGreatU3
set_option linter.unusedVariables false
namespace Go.Proofs.YtfpepoebammeoaaGreat
open Go.ChangeShapes Go.WideShapes Go.ChangeAt Go.RowKit

theorem iv_snocN (l : List Int) (u : Int) : iv (l ++ [u]) = iv l ++ [.int .i64 u] := by simp [iv]
set_option maxHeartbeats 4000000 in
set_option maxRecDepth 100000 in
theorem kline_any {w : World} (es : List (Nat × Nat)) (m E : Nat) (fv hv : Value) (H : List Nat) (hweb : WebK w fv hv m E (preE es) H) (hhead : HeadI m es es.length H) (hE : E = es.length) (hm : m ≤ 400000) (hE9 : E ≤ 400000) (hlt : ∀ e ∈ es, e.1 < m ∧ e.2 < m) :
    Calls Tryz.prog 51 #[.agg #[fv, hv]] w fun e w' => ∃ ov, ∃ told : List Int, e = .returned ov ∧ ReachK (needE es) m told ∧ nextK (needE es) m told = none ∧ Row 1 w.heap.size w' ov told.length (iv told) ∧ Below w.heap.size w w' := by
  obtain ⟨fb, fc, rfl, _⟩ := hweb.f
  obtain ⟨hb, hc, rfl, hc1, hc2, hbl, hcell⟩ := hweb.h
  have mk1 := run_make_row' (P := Tryz.prog) 23 3 (.int .i64 0) 8 Tryz.underlying23 infoIk rfl .i64 .i64 m (by omega) (by omega)
  have SZ := Lib.hid (fun W => ksize_any (some ⟨fb, 0, none⟩) m fc (.slice (some ⟨hb, 0, none⟩) E hc) W (by omega))
  have HWB := Lib.hid hweb
  have HEL : Hid (H.length = E) := Lib.hid hweb.el
  have HCELL := Lib.hid hcell
  have HLTM := Lib.hid hweb.lt
  have HADJ : Hid (∀ u, u < m → adjK m (preE es) H u = (outsE es u).reverse) := Lib.hid (fun u hu => by unfold adjK; rw [if_pos hu]; exact head_all (fun e he => (hlt e he).1) hhead hu)
  have HCNT : Hid (∀ c : Nat, H.count c = (needE es (c : Int)).length) := Lib.hid (fun c => by rw [needE_len]; exact head_count (fun e he => (hlt e he).1) hhead c)
  have HDEG : Hid (∀ u, (outsE es u).length ≤ E) := Lib.hid (fun u => by unfold outsE; rw [List.length_map, hE]; exact List.length_filter_le _ _)
  have HNEED : Hid (∀ c : Nat, (needE es (c : Int)).length ≤ E) := Lib.hid (fun c => by unfold needE; rw [List.length_map, hE]; exact List.length_filter_le _ _)
  have HOUT : Hid (∀ u x, x ∈ outsE es u → x < m) := Lib.hid (fun u x hx => (hlt _ (mem_outsE.1 hx)).2)
  obtain ⟨B0, hB0⟩ : ∃ B0, B0 = w.heap.size := ⟨_, rfl⟩
  obtain ⟨w1, hw1⟩ : ∃ w1, w1 = w.alloc (.cells #[.slice (some ⟨fb, 0, none⟩) (m + 1) fc, .slice (some ⟨hb, 0, none⟩) E hc] 71) := ⟨_, rfl⟩
  have hb1 : Below w.heap.size w w1 := by rw [hw1]; exact (Below.refl _ _).alloc (Nat.le_refl _) _
  have hs1 : w1.heap.size = w.heap.size + 1 := by rw [hw1]; simp
  have d0 : w1.cell? ⟨w.heap.size, 0, none⟩ = some (.slice (some ⟨fb, 0, none⟩) (m + 1) fc) := by rw [hw1, World.cell?_alloc_at _ _ _ _ rfl]; rfl
  have d1 : w1.cell? ⟨w.heap.size, 1, none⟩ = some (.slice (some ⟨hb, 0, none⟩) E hc) := by rw [hw1, World.cell?_alloc_at _ _ _ _ rfl]; rfl
  obtain ⟨w2, hw2⟩ : ∃ w2, w2 = w1.alloc (.cells #[.slice (some ⟨fb, 0, none⟩) (m + 1) fc, .slice (some ⟨hb, 0, none⟩) E hc] 71) := ⟨_, rfl⟩
  have hb12 : Below w1.heap.size w1 w2 := by rw [hw2]; exact (Below.refl _ _).alloc (Nat.le_refl _) _
  have hs2 : w2.heap.size = w.heap.size + 2 := by rw [hw2]; simp [hs1]
  obtain ⟨w3, hw3⟩ : ∃ w3, w3 = w2.alloc (.cells (madeCells #[.int .i64 0] m) 3) := ⟨_, rfl⟩
  have hb23 : Below w2.heap.size w2 w3 := by rw [hw3]; exact (Below.refl _ _).alloc (Nat.le_refl _) _
  have hs3 : w3.heap.size = w.heap.size + 3 := by rw [hw3]; simp [hs2]
  have hrw3 : Row 1 w.heap.size w3 (.slice (some ⟨w2.heap.size, 0, none⟩) m m) m (iv (cntL H m 0)) := by
    rw [cntL_zero, hw3]
    exact made_intk (by omega) (by omega) _
  have hb13 : Below w1.heap.size w1 w3 := hb12.trans (hb23.mono (by omega))
  have D0 := (hb13.cell (p := ⟨w.heap.size, 0, none⟩) (by rw [hs1]; show w.heap.size < _; omega)).trans d0
  have D1 := (hb13.cell (p := ⟨w.heap.size, 1, none⟩) (by rw [hs1]; show w.heap.size < _; omega)).trans d1
  have hbw3 : Below w.heap.size w w3 := hb1.trans (hb13.mono (by omega))
  obtain ⟨wb, hwb⟩ : ∃ wb, wb = w2.heap.size := ⟨_, rfl⟩
  rw [← hwb] at hrw3
  have hwb2 : wb = w.heap.size + 2 := by rw [hwb, hs2]
  have LC : ∀ W, Off (fun i => i = wb ∨ w.heap.size + 3 ≤ i) w3 W → W.cell? ⟨w.heap.size, 0, none⟩ = some (.slice (some ⟨fb, 0, none⟩) (m + 1) fc) ∧ W.cell? ⟨w.heap.size, 1, none⟩ = some (.slice (some ⟨hb, 0, none⟩) E hc) ∧ Below w.heap.size w W := fun W ho =>
    ⟨(ho.cell (p := ⟨w.heap.size, 0, none⟩) (by rw [hs3]; show w.heap.size < _; omega) (by show ¬ (w.heap.size = wb ∨ _ ≤ w.heap.size); omega)).trans D0, (ho.cell (p := ⟨w.heap.size, 1, none⟩) (by rw [hs3]; show w.heap.size < _; omega) (by show ¬ (w.heap.size = wb ∨ _ ≤ w.heap.size); omega)).trans D1, hbw3.trans (ho.below (B := w.heap.size) (fun i hi => by omega) (by omega))⟩
  have HLC := Lib.hid LC
  have HRW3 := Lib.hid hrw3
  have HW1 := Lib.hid hw1
  have HW2 := Lib.hid hw2
  have HW3 := Lib.hid hw3
  have HS3 := Lib.hid hs3
  have HWB2 := Lib.hid hwb
  have HWBV := Lib.hid hwb2
  have ta : ∀ (x : Int) (w' : World), (Instr.typeAssert (.iface 3 (.int .i64 x)) 20 3 false).run Tryz.prog w' = .ok (.int .i64 x) w' := fun _ _ => by kernel_rfl
  have HTA := Lib.hid ta
  have hc2' := hc2
  unfold maxLen at hc2'
  clear hweb hhead hcell hw1 hb1 hs1 hw2 hb12 hs2 hw3 hb23 hs3 hrw3 hb13 D0 D1 hbw3 hwb hwb2 LC ta hE hlt hB0 hc2
  go_enter Tryz.func51, Tryz.ntmps51
  go_wp2_with fail
  rw [← HW1.out]
  clear d0 d1
  refine (SZ.out w1).mono ?_
  rintro e wx ⟨rfl, rfl⟩
  rw [← HW2.out]
  obtain ⟨l0, l1, _⟩ := HLC.out w3 (Off.refl _ _)
  have l1' : (w2.alloc (.cells (madeCells #[.int .i64 0] m) 3)).cell? ⟨w.heap.size, 1, none⟩ = some (.slice (some ⟨hb, 0, none⟩) E hc) := by rw [← HW3.out]; exact l1
  go_wp2_with fail
  rw [← HW3.out, ← HWB2.out]
  clear l1'
  go_loopw [19] (fun jv wr => ∃ j : Nat, jv = .int .i64 (j : Nat) ∧ j ≤ E ∧ Hid (Row 1 w.heap.size wr (.slice (some ⟨wb, 0, none⟩) m m) m (iv (cntL H m j))) ∧ Hid (Off (fun i => i = wb ∨ w.heap.size + 3 ≤ i) w3 wr)) (fun jv _ => E - (intOf jv).toNat)
  case atStart => exact ⟨0, rfl, Nat.zero_le _, HRW3, Lib.hid (Off.refl _ _)⟩
  case round =>
    obtain ⟨j, rfl, hjE, HR, HO⟩ := hrel
    have LCC := HLC.out wr HO.out
    by_cases hlt : j < E
    · obtain ⟨x, hx⟩ : ∃ x, H[j]? = some x := ⟨H[j]'(by rw [HEL.out]; exact hlt), by simp⟩
      have hxm : x < m := HLTM.out x (List.mem_of_getElem? hx)
      have hxI : (x : Int) < (m : Int) := by omega
      have hcx := (LCC.2.2.cell (p := ⟨hb, j, none⟩) hbl).trans (HCELL.out j x hx)
      obtain ⟨xb, xf, _⟩ := HR.out.cellF (iv_at (by rw [cntL_len]; exact hxm))
      rw [cntL_at H hxm] at xb
      obtain ⟨d, hd⟩ : ∃ d, d = (H.take j).count x := ⟨_, rfl⟩
      obtain ⟨D1, hD1⟩ : ∃ D1, D1 = d + 1 := ⟨_, rfl⟩
      have hD2 : (d : Int) + 1 = (D1 : Int) := by omega
      have hd9 : d ≤ 400000 := by
        have h1 : (H.take j).count x ≤ (H.take j).length := List.count_le_length
        rw [List.length_take, ← hd] at h1
        omega
      have hput := HR.out.put (j := x) (by rw [iv_len, cntL_len]; exact hxm) (.int .i64 (D1 : Int))
      have hse : (iv (cntL H m j)).set x (.int .i64 (D1 : Int)) = iv (cntL H m (j + 1)) := by rw [iv_set, ← cntL_step hx hxm, ← hd, hD2]
      rw [hse] at hput
      rw [← hd] at xb
      have HP := Lib.hid hput
      have HOF := Lib.hid (HO.out.setCell (p := ⟨wb, x, none⟩) (.inr (.inl rfl)) (.int .i64 (D1 : Int)))
      clear hput hse hd hD1 hx LCC
      go_wp2_with fail
      exact ⟨⟨j + 1, by go_num, by omega, HP, HOF⟩, by simp [intOf]; omega⟩
    · have hjj : E = j := by omega
      have hwr : Row 1 w.heap.size wr (.slice (some ⟨wb, 0, none⟩) m m) m (iv (cntL H m E)) := by have := HR.out; rw [← hjj] at this; exact this
      have HWV0 : Hid (∀ u : Nat, u < m → (cntL H m E).getD u 0 = (waitK (needE es) [] (u : Int) : Nat)) := Lib.hid (fun u hu => by
        rw [cntL_at H hu, List.take_of_length_le (by rw [HEL.out]; exact Nat.le_refl _), HCNT.out, wait_begin])
      obtain ⟨p, hp⟩ : ∃ p, p = wr.heap.size := ⟨_, rfl⟩
      obtain ⟨wp, hwp⟩ : ∃ wp, wp = wr.alloc (.cells #[.slice none 0 0] 101) := ⟨_, rfl⟩
      have hp0 : Hp p (p + 1) wp (.slice none 0 0) [] := ⟨by rw [hwp, hp, World.cell?_alloc_at _ _ _ _ rfl]; rfl, by rw [hwp, hp, World.frozen?_alloc_mark]; simp, Row.nil _ _ _, Nat.lt_succ_self _⟩
      have hbp : Below wr.heap.size wr wp := by rw [hwp]; exact (Below.refl _ _).alloc (Nat.le_refl _) _
      have hpw : w.heap.size + 3 ≤ p := by rw [hp]; have := HO.out.size; have := HS3.out; omega
      have hop : Off (fun i => i = wb ∨ w.heap.size + 3 ≤ i) w3 wp := HO.out.trans (Off.of_below hbp)
      have hszp : p + 1 ≤ wp.heap.size := by rw [hwp, hp]; simp
      have hwp2 : Row 1 w.heap.size wp (.slice (some ⟨wb, 0, none⟩) m m) m (iv (cntL H m E)) := hwr.below hbp
      have HP0 := Lib.hid hp0
      have HOP := Lib.hid hop
      have HWP2 := Lib.hid hwp2
      have HPV := Lib.hid hp
      have HWPV := Lib.hid hwp
      have hwbp : wb < p := by have := HWBV.out; omega
      clear hwr hp0 hbp hop hwp2 hp hwp HR HO LCC l0 l1
      subst hjj
      go_wp2_with fail
      rw [← HPV.out, ← HWPV.out]
      go_loopw [32] (fun jv wx => ∃ (i : Nat) (v : Value), jv = .int .i64 (i : Nat) ∧ i ≤ m ∧ Hid (Hp p (p + 1) wx v (readyL (needE es) i)) ∧ Hid (Row 1 w.heap.size wx (.slice (some ⟨wb, 0, none⟩) m m) m (iv (cntL H m E))) ∧ Hid (Off (fun i => i = wb ∨ w.heap.size + 3 ≤ i) w3 wx) ∧ p + 1 ≤ wx.heap.size) (fun jv _ => m - (intOf jv).toNat)
      case atStart => exact ⟨0, _, rfl, Nat.zero_le _, HP0, HWP2, HOP, hszp⟩
      case round =>
        obtain ⟨i, v, rfl, hin, HH, HR, HO, hsz⟩ := hrel
        by_cases hlt : i < m
        · obtain ⟨hcw, _⟩ := HR.out.cellF (j := i) (iv_at (by rw [cntL_len]; exact hlt))
          rw [HWV0.out i hlt, wait_begin] at hcw
          obtain ⟨L, hL⟩ : ∃ L, L = (needE es (i : Int)).length := ⟨_, rfl⟩
          rw [← hL] at hcw
          have hst := readyL_step (needE es) i
          rw [← hL] at hst
          have HST := Lib.hid hst
          have hLM : L ≤ 400000 := by have := HNEED.out i; omega
          obtain ⟨ra, rc, hve⟩ := HH.out.row.form
          obtain ⟨k, hk⟩ : ∃ k, k = (readyL (needE es) i).length := ⟨_, rfl⟩
          rw [← hk] at hve
          subst hve
          have hml := readyL_len (needE es) i
          rw [← hk] at hml
          have hcp := HH.out.cell
          have hrow := HH.out.row
          rw [← hk] at hrow
          have HMM := Lib.hid hk
          have hfp := HH.out.fro
          have hpl := HH.out.box
          clear hL hst hk
          by_cases hL0 : L = 0
          · subst hL0
            have hst : readyL (needE es) (i + 1) = readyL (needE es) i ++ [(i : Int)] := by rw [HST.out, if_pos rfl]
            have HST2 := Lib.hid hst
            have hsrc : Src Tryz.prog 1 99 (.slice (some ⟨wr.heap.size, 0, none⟩) 1 1) 1 [.int .i64 (i : Int)] (wr.alloc (.cells #[.int .i64 (i : Int)] 3)) := src_new Tryz.underlying99 [.int .i64 (i : Int)] 1 3 1 rfl oneIk
            have HSRC := Lib.hid hsrc
            have HRA := Lib.hid (hrow.alloc (.cells #[.int .i64 (i : Int)] 3))
            have hszw : p + 1 ≤ (wr.alloc (.cells #[.int .i64 (i : Int)] 3)).heap.size := by simp; omega
            have hnp : ¬ (Value.slice ra k rc).ownBlock = some p := fun e => by have := (hrow.lt _ e).1; omega
            have hpa : p < (wr.alloc (.cells #[.int .i64 (i : Int)] 3)).heap.size := by simp; omega
            have hca : (wr.alloc (.cells #[.int .i64 (i : Int)] 3)).cell? ⟨p, 0, none⟩ = some (.slice ra k rc) := (((Below.refl _ wr).alloc (Nat.le_refl _) _).cell (p := ⟨p, 0, none⟩) hpl).trans hcp
            have hfa : (wr.alloc (.cells #[.int .i64 (i : Int)] 3)).frozen? ⟨p, 0, none⟩ = false := (((Below.refl _ wr).alloc (Nat.le_refl _) _).frozen (p := ⟨p, 0, none⟩) hpl).trans hfp
            have HCA := Lib.hid hca
            have HFA := Lib.hid hfa
            have HRW := Lib.hid hrow
            clear hst hsrc hrow hca hfa
            go_wp2_with (at_builtin; refine wpList_append_row rfl (.tmp 40) (.tmp 42) 99 99 rfl 1 3 (.int .i64 0) 8 Tryz.underlying99 infoIk rfl (p + 1) (.slice ra k rc) k (iv (readyL (needE es) i)) (by simp [Act.eval]) HRA.out (.slice (some ⟨wr.heap.size, 0, none⟩) 1 1) (by simp [Act.eval]) 1 [.int .i64 (i : Int)] HSRC.out hszw (by omega) (by decide) ?_; intro v6 w6 hr6 ho6 hw6; obtain ⟨a6, c6, hv6⟩ := hr6.form; subst hv6; have k6 := (ho6.cell (p := ⟨p, 0, none⟩) hpa hnp).trans HCA.out; have f6 := (ho6.frozen (p := ⟨p, 0, none⟩) hpa hnp).trans HFA.out; have HR6 := Lib.hid hr6; have HO6 := Lib.hid ho6; clear hr6 ho6 hw6)
            have hoa : Off (fun b => (Value.slice ra k rc).ownBlock = some b) wr w6 := ((Off.refl _ wr).alloc _).trans HO6.out
            have hr6 := HR6.out
            have h6 : Hp p (p + 1) (w6.setCell ⟨p, 0, none⟩ (.slice a6 (k + 1) c6)) (.slice a6 (k + 1) c6) (readyL (needE es) (i + 1)) := by
              refine Hp.store k6 f6 (Nat.lt_succ_self _) ?_
              rw [HST2.out, List.length_append, List.length_singleton, ← HMM.out]
              have : iv (readyL (needE es) i ++ [(i : Int)]) = iv (readyL (needE es) i) ++ [.int .i64 (i : Int)] := by simp [iv]
              rw [this]
              exact hr6
            have hrw6 := HR.out.off hoa (fun b hb e => by have hb : wb = b := Option.some.inj hb; have := (HRW.out.lt b e).1; omega)
            have hrw7 := hrw6.setOther (p := ⟨p, 0, none⟩) (fun e => by have : wb = p := Option.some.inj e; omega) (.slice a6 (k + 1) c6)
            have hof7 := (HO.out.trans (hoa.mono fun b hb => .inr (by have := (HRW.out.lt b hb).1; omega))).setCell (p := ⟨p, 0, none⟩) (.inr (.inr (by show _ ≤ p; omega))) (.slice a6 (k + 1) c6)
            have hs6 := hoa.size
            exact ⟨⟨i + 1, _, by go_num, by omega, Lib.hid h6, Lib.hid hrw7, Lib.hid hof7, by simp [World.setCell]; omega⟩, by simp [intOf]; omega⟩
          · have e2 : ((L : Int) == (0 : Int)) = false := by rw [beq_eq_false_iff_ne]; omega
            have hst : readyL (needE es) (i + 1) = readyL (needE es) i := by rw [HST.out, if_neg hL0]
            have HH2 := Lib.hid (by rw [hst]; exact HH.out : Hp p (p + 1) wr (.slice ra k rc) (readyL (needE es) (i + 1)))
            clear hst hrow
            go_wp2_with fail
            exact ⟨⟨i + 1, _, by go_num, by omega, HH2, HR, HO, hsz⟩, by simp [intOf]; omega⟩
        · have hie : m = i := by omega
          subst hie
          have HEAP0 := Lib.hid (readyL_heap (needE es) m)
          have RDY0 := Lib.hid (readyL_ready (needE es) m)
          have HRO : Hid (Row 1 (p + 1) wr (.slice none 0 0) 0 []) := Lib.hid (Row.nil _ _ _)
          go_wp2_with fail
          go_loopw [9] (fun ov wx => ∃ (told W r : List Int) (v : Value), Hid (ReachK (needE es) m told) ∧ Hid (Readied (needE es) m told r) ∧ Hid (Heap r r.length) ∧ Hid (∀ t ∈ told, waitK (needE es) told t = 0) ∧ Hid (W.length = m ∧ ∀ u : Nat, u < m → W.getD u 0 = (waitK (needE es) told (u : Int) : Nat)) ∧ Hid (Row 1 w.heap.size wx (.slice (some ⟨wb, 0, none⟩) m m) m (iv W)) ∧
            Hid (Hp p (p + 1) wx v r) ∧ Hid (Row 1 (p + 1) wx ov told.length (iv told)) ∧ Hid (v.ownBlock ≠ none → v.ownBlock ≠ ov.ownBlock) ∧ Hid (Off (fun b => b = wb ∨ w.heap.size + 3 ≤ b) w3 wx)) (fun ov _ => m - slLen ov)
          case atStart => exact ⟨[], cntL H m E, readyL (needE es) m, v, Lib.hid .nil, RDY0, HEAP0, Lib.hid (by simp), Lib.hid ⟨cntL_len H m E, fun u hu => HWV0.out u hu⟩, HR, HH, HRO, Lib.hid (fun h e => h e), HO⟩
          case round =>
            obtain ⟨told, W, r, v2, HRE, HRD, HHP, HWZ, HWV, HRW, HH2, HOV, HDI, HOF⟩ := hrel
            obtain ⟨oa, oc, hov⟩ := HOV.out.form
            obtain ⟨q, hq⟩ : ∃ q, q = told.length := ⟨_, rfl⟩
            have hqn : q ≤ m := by rw [hq]; exact reach_len HRE.out
            have HQ := Lib.hid hq
            have HOV2 := Lib.hid (by rw [hq]; exact HOV.out : Row 1 (p + 1) wr _ q (iv told))
            rw [← hq] at hov
            subst hov
            clear hq
            obtain ⟨va, vc, hve2⟩ := HH2.out.row.form
            obtain ⟨k, hk⟩ : ∃ k, k = r.length := ⟨_, rfl⟩
            rw [← hk] at hve2
            subst hve2
            have hcp := HH2.out.cell
            have HMM := Lib.hid hk
            clear hk
            have HVL := Lib.hid (fun b hb => (HH2.out.row.lt b hb).1 : ∀ b, (Value.slice va k vc).ownBlock = some b → p + 1 ≤ b)
            have HOL := Lib.hid (fun b hb => HOV2.out.lt b hb : ∀ b, (Value.slice oa q oc).ownBlock = some b → p + 1 ≤ b ∧ b < wr.heap.size)
            have hpw2 : p < wr.heap.size := HH2.out.box
            have LEN := Lib.hid (fun W => len_any va k vc W)
            have hk9 : k ≤ m := by rw [HMM.out]; exact ready_len HRD.out
            by_cases h0 : k = 0
            · subst h0
              have hr0 : r = [] := List.length_eq_zero_iff.1 HMM.out.symm
              have HNN := Lib.hid (by have := HRD.out; rw [hr0] at this; exact ready_none this : nextK (needE es) m told = none)
              have LCW := Lib.hid (HLC.out wr HOF.out).2.2
              clear hr0
              go_wp2_with fail
              refine (LEN.out _).mono ?_
              rintro e w5 ⟨rfl, rfl⟩
              go_wp2_with fail
              go_ret
              exact ⟨_, told, rfl, HRE.out, HNN.out, HOV.out.mono (by omega), LCW.out⟩
            · obtain ⟨u, hu, he, hnx, hcan⟩ := ready_next HRD.out HHP.out (fun e => h0 (by rw [HMM.out, e]; rfl))
              have POP : Calls Tryz.prog 75 #[hpI p] wr fun e w4 => e = .returned (.iface 3 (.int .i64 (u : Int))) ∧ ∃ v4 r1, Hp p (p + 1) w4 v4 r1 ∧ Heap r1 r1.length ∧ r1.length + 1 = k ∧ (∀ y, r1.count y + (if (u : Int) = y then 1 else 0) = r.count y) ∧ Off (fun b => b = wb ∨ w.heap.size + 3 ≤ b) w3 w4 ∧ Off (fun i => i = p ∨ (Value.slice va k vc).ownBlock = some i) wr w4 ∧ v4.ownBlock = (Value.slice va k vc).ownBlock := by
                refine (hpop_any r _ _ _ wr HH2.out HHP.out (by rw [← HMM.out]; omega) (by rw [← HMM.out]; omega)).mono ?_
                rintro e w4 ⟨rfl, v4, r1, h1, h2, h3, h4, h5, h6⟩
                rw [he] at h4 ⊢
                exact ⟨rfl, v4, r1, h1, h2, by rw [h3, HMM.out], h4, HOF.out.trans (h5.mono fun b hb => by rcases hb with hb | hb; exact .inr (by omega); exact .inr (by have := HVL.out b hb; omega)), h5, h6⟩
              have HPOP := Lib.hid POP
              have HNX := Lib.hid hnx
              have HCAN := Lib.hid hcan
              have ta := HTA.out
              have hk0 : (0 : Int) < (k : Int) := by omega
              clear POP he hnx hcan
              go_wp2_with fail
              refine (LEN.out _).mono ?_
              rintro e w5 ⟨rfl, rfl⟩
              go_wp2_with fail
              refine HPOP.out.mono ?_
              rintro e w4 ⟨rfl, v4, r1, hp4, hh4, hl4, hc4, ho4, ho4', hv4⟩
              have hsz4 := ho4'.size
              have hov4 := HOV2.out.off ho4' (fun b hb hz => by
                rcases hz with hz | hz
                · have := (HOL.out b hb).1; omega
                · exact HDI.out (by rw [hz]; exact Option.some_ne_none _) (hz.trans hb.symm))
              have hwr4 := HRW.out.off ho4' (fun b hb hz => by
                have hb : wb = b := Option.some.inj hb
                rcases hz with hz | hz
                · omega
                · have := HVL.out b hz; omega)
              have HOV4 := Lib.hid hov4
              have HWR4 := Lib.hid hwr4
              have HP4 := Lib.hid hp4
              have HH4 := Lib.hid hh4
              have HL4 := Lib.hid hl4
              have HC4 := Lib.hid hc4
              have HO4 := Lib.hid ho4
              have HV4 := Lib.hid hv4
              have hq9 : q ≤ 400000 := by omega
              have hsrc : Src Tryz.prog 1 23 (.slice (some ⟨w4.heap.size, 0, none⟩) 1 1) 1 [.int .i64 (u : Int)] (w4.alloc (.cells #[.int .i64 (u : Int)] 3)) := src_new Tryz.underlying23 [.int .i64 (u : Int)] 1 3 1 rfl oneIk
              have HSRC := Lib.hid hsrc
              have HRA := Lib.hid (hov4.alloc (.cells #[.int .i64 (u : Int)] 3))
              have hszw : p + 1 ≤ (w4.alloc (.cells #[.int .i64 (u : Int)] 3)).heap.size := by simp; omega
              have hx6 : ∀ w6, Off (fun i => (Value.slice oa q oc).ownBlock = some i) (w4.alloc (.cells #[.int .i64 (u : Int)] 3)) w6 → Off (fun i => (Value.slice oa q oc).ownBlock = some i) w4 w6 ∧ Off (fun b => b = wb ∨ w.heap.size + 3 ≤ b) w3 w6 ∧ w6.cell? ⟨w.heap.size, 0, none⟩ = some (.slice (some ⟨fb, 0, none⟩) (m + 1) fc) ∧ w6.cell? ⟨w.heap.size, 1, none⟩ = some (.slice (some ⟨hb, 0, none⟩) E hc) := fun w6 h6 => by
                have h7 : Off (fun i => (Value.slice oa q oc).ownBlock = some i) w4 w6 := ((Off.refl _ w4).alloc _).trans h6
                have h8 := HO4.out.trans (h7.mono fun b hb => .inr (by have := (HOL.out b hb).1; omega))
                exact ⟨h7, h8, (HLC.out w6 h8).1, (HLC.out w6 h8).2.1⟩
              have HX6 := Lib.hid hx6
              clear hov4 hwr4 hp4 hh4 hl4 hc4 ho4 ho4' hv4 hsrc hx6 hcp
              go_wp2_with (at_builtin; refine wpList_append_row rfl (.tmp 53) (.tmp 55) 23 23 rfl 1 3 (.int .i64 0) 8 Tryz.underlying23 infoIk rfl (p + 1) (.slice oa q oc) q (iv told) (by simp [Act.eval]) HRA.out (.slice (some ⟨w4.heap.size, 0, none⟩) 1 1) (by simp [Act.eval]) 1 [.int .i64 (u : Int)] HSRC.out hszw (by omega) (by decide) ?_; intro v6 w6 hr6 ho6 hw6; obtain ⟨a6, c6, hv6⟩ := hr6.form; subst hv6; obtain ⟨h46, h26, k60, k61⟩ := HX6.out w6 ho6; have HR6 := Lib.hid hr6; have H46 := Lib.hid h46; have H26 := Lib.hid h26; have HW6 := Lib.hid hw6; clear hr6 ho6 hw6 h46 h26)
              have BH := behind_any (.slice (some ⟨fb, 0, none⟩) (m + 1) fc) (.slice (some ⟨hb, 0, none⟩) E hc) m E (preE es) H w w6 HWB.out (HLC.out w6 H26.out).2.2 (by omega) (by omega) u hu
              rw [HADJ.out u hu] at BH
              refine BH.mono ?_
              rintro e w7 ⟨bv, rfl, hbv, hb67⟩
              obtain ⟨L, hL⟩ : ∃ L, L = (outsE es u).length := ⟨_, rfl⟩
              have hus : (nl (outsE es u).reverse).length = L := by rw [nl_len, List.length_reverse, hL]
              obtain ⟨ba, bc, hbe⟩ := hbv.form
              rw [hus] at hbe
              subst hbe
              have hLM : L ≤ 400000 := by have := HDEG.out u; omega
              have HBV := Lib.hid hbv
              have HUSL := Lib.hid hus
              have hnt : (u : Int) ∉ told := can_fresh HCAN.out
              have HNT := Lib.hid hnt
              have HUC : Hid (∀ c : Nat, c < m → (nl (outsE es u).reverse).count (c : Int) = (needE es (c : Int)).count (u : Int)) := Lib.hid (fun c _ => outs_count es u c)
              have HROOM := Lib.hid (lowered_room hnt HWV.out.2 HUC.out)
              have H27 := Lib.hid (H26.out.trans (Off.of_below hb67))
              have HP7 : Hid (Hp p (p + 1) w7 v4 r1) := Lib.hid ((HP4.out.off H46.out (fun e => by have := (HOL.out _ e).1; omega) (fun b hb e => HDI.out (by rw [← HV4.out, hb]; exact Option.some_ne_none _) (by rw [← HV4.out, hb, e]))).below hb67)
              have HWR7 := Lib.hid ((HWR4.out.off H46.out (fun b hb e => by have hb : wb = b := Option.some.inj hb; have := (HOL.out b e).1; omega)).below hb67)
              have HR7 := Lib.hid (HR6.out.below hb67)
              have HDI6 : Hid (v4.ownBlock ≠ none → v4.ownBlock ≠ (Value.slice a6 (q + 1) c6).ownBlock) := Lib.hid (fun hne e => by
                rcases HW6.out with h | h
                · exact HDI.out (by rw [← HV4.out]; exact hne) (by rw [← HV4.out, e, h])
                · have hlt := (HP4.out.row.lt _ (e.trans h)).2
                  rw [World.size_alloc] at hlt
                  omega)
              have HR1M : Hid (∀ x ∈ r1, ∃ c : Nat, c < m ∧ x = (c : Int)) := Lib.hid (fun x hx => HRD.out.2 x (by
                have h1 := List.count_pos_iff.2 hx
                have h2 := HC4.out x
                exact List.count_pos_iff.1 (by omega)))
              have HR1L : Hid (r1.length ≤ m + 0) := Lib.hid (by have := HL4.out; omega)
              have HLB := Lib.hid (lowered_begin (us := nl (outsE es u).reverse) (r1 := r1) HWV.out.1)
              clear hnt hbv hus hL hb67 BH k60 k61
              go_wp2_with fail
              go_loopw [61] (fun jv wi => ∃ (j : Nat) (W2 r2 : List Int) (v5 : Value), jv = .int .i64 (j : Nat) ∧ j ≤ L ∧ Hid (Lowered m W (nl (outsE es u).reverse) j W2 r1 r2) ∧ Hid (Heap r2 r2.length) ∧ Hid (∀ x ∈ r2, ∃ c : Nat, c < m ∧ x = (c : Int)) ∧ Hid (r2.length ≤ m + j) ∧ Hid (Row 1 w.heap.size wi (.slice (some ⟨wb, 0, none⟩) m m) m (iv W2)) ∧
                Hid (Hp p (p + 1) wi v5 r2) ∧ Hid (Row 1 (p + 1) wi (.slice a6 (q + 1) c6) (q + 1) (iv told ++ [.int .i64 (u : Int)])) ∧ Hid (v5.ownBlock ≠ none → v5.ownBlock ≠ (Value.slice a6 (q + 1) c6).ownBlock) ∧ Hid (Off (fun b => b = wb ∨ w.heap.size + 3 ≤ b) w3 wi)) (fun jv _ => L - (intOf jv).toNat)
              case atStart => exact ⟨0, W, r1, v4, rfl, Nat.zero_le _, HLB, HH4, HR1M, HR1L, HWR7, HP7, HR7, HDI6, H27⟩
              case round =>
                obtain ⟨j, W2, r2, v5, rfl, hjL, HLO, HHJ, HMJ, HLJ, HWJ, HPJ, HRJ, HDJ, HOJ⟩ := hrel
                by_cases hlt2 : j < L
                · have hjl : j < (nl (outsE es u).reverse).length := by rw [HUSL.out]; exact hlt2
                  obtain ⟨y, hy⟩ : ∃ y, (nl (outsE es u).reverse)[j]? = some y := ⟨_, List.getElem?_eq_getElem hjl⟩
                  obtain ⟨c, hc', rfl⟩ := nl_inv hy
                  have hcn : c < m := HOUT.out u c (List.mem_reverse.1 (List.mem_of_getElem? hc'))
                  have hyj : (nl (outsE es u).reverse)[j]'hjl = (c : Int) := (List.getElem?_eq_some_iff.1 hy).2
                  obtain ⟨b5, o5, rfl, hb5, hbc1, hbc2, hcy⟩ := (HBV.out.below (HLC.out wr HOJ.out).2.2).at hy
                  have hLA := lowered_at HLO.out hjl hcn hyj (HROOM.out c hcn)
                  have hw0 := HWV.out.2 c hcn
                  have hw1' := wait_le (needE es) told (c : Int)
                  have hw2' := HNEED.out c
                  have hWl : W2.length = m := HLO.out.1
                  have hcI : (c : Int) < (m : Int) := by omega
                  obtain ⟨hcw, hfw, _, _, _, _⟩ := HWJ.out.cellF (j := c) (iv_at (by rw [hWl]; exact hcn))
                  have hput := HWJ.out.put (j := c) (by rw [iv_len, hWl]; exact hcn)
                  have HPUT := Lib.hid hput
                  have LST := Lib.hid (fun r' hr => lowered_step (r' := r') HLO.out hjl hcn hyj (HROOM.out c hcn) hr)
                  obtain ⟨z, hz⟩ : ∃ z, z = W2.getD c 0 := ⟨_, rfl⟩
                  rw [← hz] at hcw hLA
                  have hz0 : 0 < z := hLA.1
                  have hz1 : z ≤ 400000 := by omega
                  have HZ := Lib.hid hz
                  have hszj := HPJ.out.box
                  have HW7 : ∀ t, Hid (Hp p (p + 1) (wr.setCell ⟨wb, c, none⟩ (.int .i64 t)) v5 r2 ∧ Row 1 (p + 1) (wr.setCell ⟨wb, c, none⟩ (.int .i64 t)) (.slice a6 (q + 1) c6) (q + 1) (iv told ++ [.int .i64 (u : Int)]) ∧ Off (fun b => b = wb ∨ w.heap.size + 3 ≤ b) w3 (wr.setCell ⟨wb, c, none⟩ (.int .i64 t))) := fun t => Lib.hid (by
                    have ho7 : Off (fun b => b = wb) wr (wr.setCell ⟨wb, c, none⟩ (.int .i64 t)) := (Off.refl (fun b => b = wb) wr).setCell (p := ⟨wb, c, none⟩) (.inr rfl) _
                    exact ⟨HPJ.out.off ho7 (by omega) (fun b hb e => by have := (HPJ.out.row.lt b hb).1; omega), HRJ.out.off ho7 (fun b hb e => by have := (HRJ.out.lt b hb).1; omega), HOJ.out.trans (ho7.mono fun b hb => .inl hb)⟩)
                  unfold maxLen at hbc2
                  clear hy hyj hLA hw0 hw1' hw2' hWl hput hz hjl hc'
                  by_cases hz2 : z = 1
                  · subst hz2
                    have h7 := (HW7 0).out
                    have PU := hpush_any r2 _ _ (c : Int) v5 _ h7.1 HHJ.out (by simp [World.setCell]; omega) (by have := HLJ.out; omega)
                    have HPU := Lib.hid PU
                    have H7 := Lib.hid h7
                    clear PU h7 HW7
                    go_wp2_with fail
                    refine HPU.out.mono ?_
                    rintro e w8 ⟨rfl, v8, r8, hp8, hh8, hl8, hc8, ho8, hv8⟩
                    have hlo8 : Lowered m W (nl (outsE es u).reverse) (j + 1) (W2.set c (W2.getD c 0 - 1)) r1 r8 := LST.out r8 (fun u' hu' => by
                      rw [hc8, ← HZ.out]
                      congr 1
                      by_cases e : u' = c
                      · subst e; simp
                      · rw [if_neg (by omega), if_neg (fun h => e h.1)])
                    have HLO8 := Lib.hid hlo8
                    have hm8 : ∀ x ∈ r8, ∃ c : Nat, c < m ∧ x = (c : Int) := fun x hx => by
                      have h1 := List.count_pos_iff.2 hx
                      have h2 := hc8 x
                      by_cases e : (c : Int) = x
                      · exact ⟨c, hcn, e.symm⟩
                      · rw [if_neg e] at h2
                        exact HMJ.out x (List.count_pos_iff.1 (by omega))
                    have hwv : (wr.setCell ⟨wb, c, none⟩ (.int .i64 0)).heap.size = wr.heap.size := by simp [World.setCell]
                    have hrow8 : Row 1 w.heap.size w8 (.slice (some ⟨wb, 0, none⟩) m m) m (iv (W2.set c (W2.getD c 0 - 1))) := by
                      have h := HPUT.out (.int .i64 0)
                      rw [iv_set] at h
                      rw [← HZ.out]
                      exact h.off ho8 (fun b hb e => by
                        have hb : wb = b := Option.some.inj hb
                        rcases e with e | e
                        · omega
                        · have := (H7.out.1.row.lt b e).1; omega)
                    have hout8 := H7.out.2.1.off ho8 (fun b hb e => by
                      rcases e with e | e
                      · have := (H7.out.2.1.lt b hb).1; omega
                      · exact HDJ.out (by rw [e]; exact Option.some_ne_none _) (e.trans hb.symm))
                    have hdi8 : v8.ownBlock ≠ none → v8.ownBlock ≠ (Value.slice a6 (q + 1) c6).ownBlock := fun hne e => by
                      rcases hv8 with h | ⟨b, h, hb⟩
                      · exact HDJ.out (by rw [← h]; exact hne) (by rw [← h, e])
                      · have := (H7.out.2.1.lt b (by rw [← e, h])).2
                        omega
                    have hof8 := H7.out.2.2.trans (ho8.mono fun b hb => by
                      rcases hb with hb | hb
                      · exact .inr (by omega)
                      · exact .inr (by have := (H7.out.1.row.lt b hb).1; omega))
                    have hl8' : r8.length ≤ m + (j + 1) := by have := HLJ.out; omega
                    have A1 := Lib.hid hm8
                    have A2 := Lib.hid hrow8
                    have A3 := Lib.hid hout8
                    have A4 := Lib.hid hdi8
                    have A5 := Lib.hid hof8
                    have A6 := Lib.hid hl8'
                    have A7 := Lib.hid hp8
                    have A8 := Lib.hid hh8
                    clear hm8 hrow8 hout8 hdi8 hof8 hl8' hp8 hh8 hlo8 hc8 ho8 hv8 hl8 hwv
                    go_wp2_with fail
                    exact ⟨⟨j + 1, _, r8, v8, by go_num, by omega, HLO8, A8, A1, A6, A2, A7, A3, A4, A5⟩, by simp [intOf]; omega⟩
                  · have e3 : ((z - 1 : Int) == (0 : Int)) = false := by rw [beq_eq_false_iff_ne]; omega
                    have h7 := (HW7 (z - 1)).out
                    have hlo8 : Lowered m W (nl (outsE es u).reverse) (j + 1) (W2.set c (W2.getD c 0 - 1)) r1 r2 := LST.out r2 (fun u' hu' => by
                      rw [← HZ.out, if_neg (fun h => by omega), Nat.add_zero])
                    have hrow8 : Row 1 w.heap.size (wr.setCell ⟨wb, c, none⟩ (.int .i64 (z - 1))) (.slice (some ⟨wb, 0, none⟩) m m) m (iv (W2.set c (W2.getD c 0 - 1))) := by
                      have h := HPUT.out (.int .i64 (z - 1))
                      rw [iv_set] at h
                      rw [← HZ.out]
                      exact h
                    have H7 := Lib.hid h7.1
                    have H72 := Lib.hid h7.2.1
                    have H73 := Lib.hid h7.2.2
                    have HLO8 := Lib.hid hlo8
                    have A2 := Lib.hid hrow8
                    have hl8' : Hid (r2.length ≤ m + (j + 1)) := Lib.hid (by have := HLJ.out; omega)
                    clear h7 hlo8 hrow8 HW7
                    go_wp2_with fail
                    exact ⟨⟨j + 1, _, r2, v5, by go_num, by omega, HLO8, HHJ, HMJ, hl8', A2, H7, H72, HDJ, H73⟩, by simp [intOf]; omega⟩
                · have hjl : j = L := by omega
                  have hlo := HLO.out
                  rw [hjl, ← HUSL.out] at hlo
                  obtain ⟨hWn, hrn⟩ := lowered_end HNT.out hlo HWV.out.2 HUC.out
                  obtain ⟨hrd2, hwz2⟩ := ready_step HRD.out hu HCAN.out HWZ.out HC4.out hrn HMJ.out
                  have hre2 : ReachK (needE es) m (told ++ [(u : Int)]) := .step HRE.out HNX.out
                  have hout2 : Row 1 (p + 1) wr (.slice a6 (q + 1) c6) (told ++ [(u : Int)]).length (iv (told ++ [(u : Int)])) := by
                    rw [iv_snocN, List.length_append, List.length_singleton, ← HQ.out]
                    exact HRJ.out
                  have hqn2 : q + 1 ≤ m := by
                    have := reach_len hre2
                    rw [List.length_append, List.length_singleton, ← HQ.out] at this
                    exact this
                  have A1 := Lib.hid hre2
                  have A2 := Lib.hid hrd2
                  have A3 := Lib.hid hwz2
                  have A4 : Hid (W2.length = m ∧ ∀ c : Nat, c < m → W2.getD c 0 = (waitK (needE es) (told ++ [(u : Int)]) (c : Int) : Nat)) := Lib.hid ⟨HLO.out.1, hWn⟩
                  have A5 := Lib.hid hout2
                  clear hlo hWn hrn hrd2 hwz2 hre2 hout2
                  go_wp2_with fail
                  exact ⟨⟨told ++ [(u : Int)], W2, r2, v5, A1, A2, HHJ, A3, A4, HWJ, HPJ, A5, HDJ, HOJ⟩, by simp [slLen]; omega⟩
end Go.Proofs.YtfpepoebammeoaaGreat
