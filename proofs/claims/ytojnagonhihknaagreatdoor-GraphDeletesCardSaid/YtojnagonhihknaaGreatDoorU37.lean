/- The contract of line. -/
import Derived.Test.YtojnagonhihknaaGreatDoorU16
import Derived.Test.YtojnagonhihknaaGreatDoorU34
import Derived.Test.YtojnagonhihknaaGreatDoorU35
import Derived.Test.YtojnagonhihknaaGreatDoorU36
set_option linter.unusedVariables false
namespace Go.Proofs.YtojnagonhihknaaGreatDoor
open Go.ChangeShapes Go.WideShapes Go.ChangeAt Go.RowKit

theorem infoS6 : (Tryz.prog.info? 9).map (fun i => (i.zero, i.size, i.bytes)) = some (some (.string ByteArray.empty), 1, 16) := by kernel_rfl
theorem oneS6 {x : ByteArray} : ∀ u ∈ [Value.string x], u.oneCell' = true := by
  intro u hu
  rw [List.mem_singleton] at hu
  rw [hu]; rfl
structure LineC (B0 wb ub p n : Nat) (nv gv : Value) (ns : Lb) (need : Int → List Int) (W : World) : Prop where
  b0 : W.cell? ⟨B0, 0, none⟩ = some nv
  b1 : W.cell? ⟨B0, 1, none⟩ = some gv
  names : Reads W nv ns
  rows : ∀ d : Nat, d < n → ∃ a c L, W.cell? ⟨ub, d, none⟩ = some (.slice a L c) ∧ L = (useB need n (d : Int)).length ∧ L ≤ c ∧ c ≤ maxLen ∧ ∀ j (y : Int), (useB need n (d : Int))[j]? = some y → ∃ b, a = some ⟨b, 0, none⟩ ∧ W.cell? ⟨b, j, none⟩ = some (.int .i64 y)
theorem lineC_of {B0 wb ub s p n : Nat} {nv gv : Value} {ns : Lb} {need : Int → List Int} {w w2 W : World} (hB : B0 = w.heap.size) (hp : p = w2.heap.size) (h0 : w2.cell? ⟨B0, 0, none⟩ = some nv) (h1 : w2.cell? ⟨B0, 1, none⟩ = some gv) (hr : Reads w nv ns) (hb : Below w.heap.size w w2) (hg : Grid ub s w2 (gridU need n n 0)) (hwu : wb ≠ ub) (hws : wb < s) (hwB : B0 < wb) (hBp : B0 < p) (ho : Off (fun i => i = wb ∨ p ≤ i) w2 W) : LineC B0 wb ub p n nv gv ns need W := by
  have hbl : B0 < w2.heap.size := by omega
  have hzB : ¬ (B0 = wb ∨ p ≤ B0) := by omega
  have hbW : Below w.heap.size w W := hb.trans (ho.below (B := w.heap.size) (fun i hi => by omega) hb.size)
  have hgW := hg.off ho (fun e => by rcases e with e | e; exact hwu e.symm; have := hg.lt; omega) (fun i hi hi2 e => by omega)
  refine ⟨(ho.cell (p := ⟨B0, 0, none⟩) hbl hzB).trans h0, (ho.cell (p := ⟨B0, 1, none⟩) hbl hzB).trans h1, hr.below hbW, fun d hd => ?_⟩
  obtain ⟨v, hv, _, hrow⟩ := hgW.each d _ (gridU_at hd)
  rw [useM_zero] at hrow
  obtain ⟨a, c, rfl, hc1, hc2⟩ := hrow.form'
  refine ⟨a, c, _, hv, rfl, hc1, hc2, fun j y hy => ?_⟩
  have hj := (List.getElem?_eq_some_iff.1 hy).1
  obtain ⟨b, cap, he, _, _, _, _, _, hx⟩ := hrow.pos (by omega)
  injection he with he1 _ _
  exact ⟨b, he1, hx j _ (by simp [iv, hy])⟩

def LineP (ns : Lb) (n : Nat) (need : Int → List Int) (w : World) (e : Ending) (w' : World) : Prop :=
  ∃ ov, ∃ told : List Int, e = .returned ov ∧ ReachK need n told ∧ nextK need n told = none ∧ Row 1 w.heap.size w' ov told.length (outV ns told) ∧ Below w.heap.size w w'
set_option maxHeartbeats 2000000 in
set_option maxRecDepth 100000 in
theorem line_any (ns : Lb) (n : Nat) (need : Int → List Int) (nv gv : Value) (w : World) (hw : Web w nv gv ns ((List.range n).map fun u : Nat => need (u : Int))) (hns : ns.length = n) (hn : n ≤ 61) (hM : ∀ u : Nat, (need (u : Int)).length ≤ 401) (hR : ∀ u : Nat, u < n → ∀ d ∈ need (u : Int), d = -1 ∨ ∃ v : Nat, v < n ∧ d = (v : Int)) :
    Calls Tryz.prog 80 #[.agg #[nv, gv]] w (LineP ns n need w) := by
  obtain ⟨na, nc, hnv, _⟩ := hw.names.form
  rw [hns] at hnv
  subst hnv
  obtain ⟨w1, hw1⟩ : ∃ w1, w1 = w.alloc (.cells #[.slice na n nc, gv] 148) := ⟨_, rfl⟩
  have hs1 : w1.heap.size = w.heap.size + 1 := by rw [hw1]; simp
  have hb1 : Below w.heap.size w w1 := by rw [hw1]; exact (Below.refl _ _).alloc (Nat.le_refl _) _
  have U := users_any ns n need _ gv w1 (hw.below hb1) hns hn hM hR
  have d0 : w1.cell? ⟨w.heap.size, 0, none⟩ = some (.slice na n nc) := by rw [hw1, World.cell?_alloc_at _ _ _ _ rfl]; rfl
  have d1 : w1.cell? ⟨w.heap.size, 1, none⟩ = some gv := by rw [hw1, World.cell?_alloc_at _ _ _ _ rfl]; rfl
  have HU := Lib.hid U
  have HNR := Lib.hid hw.names
  have HB1 := Lib.hid hb1
  have HD0 := Lib.hid d0
  have HD1 := Lib.hid d1
  have HM := Lib.hid hM
  have HR := Lib.hid hR
  have HNS := Lib.hid hns
  have HS1 := Lib.hid hs1
  have ta : ∀ (x : Int) (w' : World), (Instr.typeAssert (.iface 3 (.int .i64 x)) 20 3 false).run Tryz.prog w' = .ok (.int .i64 x) w' := fun _ _ => by kernel_rfl
  have HTA := Lib.hid ta
  clear U hw hb1 d0 d1 hM hR hns hs1 ta
  go_enter Tryz.func80, Tryz.ntmps80
  go_wp2_with fail
  rw [← hw1]
  refine HU.out.mono ?_
  rintro e w2 ⟨wb, ub, wc, uc, s, rfl, hwu, hws, hwB, huB, hwr, hgr, hb2⟩
  have hs1 := HS1.out
  have hsz2 := hb2.size
  have hB0l : (⟨w.heap.size, 0, none⟩ : Addr).block < w1.heap.size := by show w.heap.size < _; omega
  have e0 : w2.cell? ⟨w.heap.size, 0, none⟩ = some (.slice na n nc) := (hb2.cell (p := ⟨w.heap.size, 0, none⟩) hB0l).trans HD0.out
  have e1 : w2.cell? ⟨w.heap.size, 1, none⟩ = some gv := (hb2.cell (p := ⟨w.heap.size, 1, none⟩) hB0l).trans HD1.out
  have hbw : Below w.heap.size w w2 := HB1.out.trans (hb2.mono (by omega))
  have LC : ∀ W, Off (fun i => i = wb ∨ w2.heap.size ≤ i) w2 W → LineC w.heap.size wb ub w2.heap.size n (.slice na n nc) gv ns need W := fun W ho => lineC_of rfl rfl e0 e1 HNR.out hbw hgr hwu hws (by omega) (by omega) ho
  have HLC := Lib.hid LC
  have HBW := Lib.hid hbw
  have hwp : wb < w2.heap.size := (hwr.lt wb rfl).2
  have hup : ub < w2.heap.size := hgr.lt
  have hwB0 : w.heap.size < wb := by omega
  have HWR := Lib.hid (hwr.mono (B' := w.heap.size) (by omega))
  have hBp : w.heap.size < w2.heap.size := by omega
  clear LC hbw hb2 e0 e1 hwr hgr hs1 hsz2 hB0l hws hwB huB hw1
  have hp0 : Hp w2.heap.size (w2.heap.size + 1) (w2.alloc (.cells #[.slice none 0 0] 191)) (.slice none 0 0) [] := ⟨by rw [World.cell?_alloc_at _ _ _ _ rfl]; rfl, by rw [World.frozen?_alloc_mark]; simp, Row.nil _ _ _, Nat.lt_succ_self _⟩
  have hbp0 : Below w2.heap.size w2 (w2.alloc (.cells #[.slice none 0 0] 191)) := (Below.refl _ _).alloc (Nat.le_refl _) _
  have hszp : w2.heap.size + 1 ≤ (w2.alloc (.cells #[.slice none 0 0] 191)).heap.size := by simp
  have HP0 := Lib.hid hp0
  have HBP0 := Lib.hid hbp0
  have HSZP := Lib.hid hszp
  clear hp0 hbp0 hszp
  go_wp2_with fail
  go_loopw [19] (fun jv wr => ∃ (i : Nat) (v : Value), jv = .int .i64 (i : Nat) ∧ i ≤ n ∧ Hid (Hp w2.heap.size (w2.heap.size + 1) wr v (readyL need i)) ∧ Hid (Below w2.heap.size w2 wr) ∧ w2.heap.size + 1 ≤ wr.heap.size) (fun jv _ => n - (intOf jv).toNat)
  case atStart => exact ⟨0, _, rfl, Nat.zero_le _, HP0, HBP0, HSZP.out⟩
  case round =>
    obtain ⟨i, v, rfl, hin, HH, HB, hsz⟩ := hrel
    by_cases hlt : i < n
    · have hwi := HWR.out.below HB.out
      obtain ⟨hcw, _⟩ := hwi.cellF (j := i) (iv_at (by rw [waitsL_len]; exact hlt))
      have hval : (waitsL need n n).getD i 0 = ((need (i : Int)).length : Int) := by rw [waitsL_full need hlt, wait_begin]
      rw [hval] at hcw
      obtain ⟨L, hL⟩ : ∃ L, L = (need (i : Int)).length := ⟨_, rfl⟩
      rw [← hL] at hcw
      have hst := readyL_step need i
      rw [← hL] at hst
      have HST := Lib.hid hst
      have hLM : L ≤ 401 := by rw [hL]; exact HM.out i
      obtain ⟨ra, rc, hve⟩ := HH.out.row.form
      obtain ⟨m, hm⟩ : ∃ m, m = (readyL need i).length := ⟨_, rfl⟩
      rw [← hm] at hve
      subst hve
      have hml := readyL_len need i
      rw [← hm] at hml
      have hcp := HH.out.cell
      have hrow := HH.out.row
      rw [← hm] at hrow
      have HMM := Lib.hid hm
      have hfp := HH.out.fro
      have hpl := HH.out.box
      clear hwi hval hL hst hm
      by_cases hL0 : L = 0
      · subst hL0
        have hst : readyL need (i + 1) = readyL need i ++ [(i : Int)] := by rw [HST.out, if_pos rfl]
        have HST2 := Lib.hid hst
        have hsrc : Src Tryz.prog 1 191 (.slice (some ⟨wr.heap.size, 0, none⟩) 1 1) 1 [.int .i64 (i : Int)] (wr.alloc (.cells #[.int .i64 (i : Int)] 3)) := src_new Tryz.underlying191 [.int .i64 (i : Int)] 1 3 1 rfl one6
        have HSRC := Lib.hid hsrc
        have HRA := Lib.hid (hrow.alloc (.cells #[.int .i64 (i : Int)] 3))
        have hszw : w2.heap.size + 1 ≤ (wr.alloc (.cells #[.int .i64 (i : Int)] 3)).heap.size := by simp; omega
        have hnp : ¬ (Value.slice ra m rc).ownBlock = some w2.heap.size := fun e => by have := (hrow.lt _ e).1; omega
        have hpa : w2.heap.size < (wr.alloc (.cells #[.int .i64 (i : Int)] 3)).heap.size := by simp; omega
        have hca : (wr.alloc (.cells #[.int .i64 (i : Int)] 3)).cell? ⟨w2.heap.size, 0, none⟩ = some (.slice ra m rc) := (((Below.refl _ wr).alloc (Nat.le_refl _) _).cell (p := ⟨w2.heap.size, 0, none⟩) hpl).trans hcp
        have hfa : (wr.alloc (.cells #[.int .i64 (i : Int)] 3)).frozen? ⟨w2.heap.size, 0, none⟩ = false := (((Below.refl _ wr).alloc (Nat.le_refl _) _).frozen (p := ⟨w2.heap.size, 0, none⟩) hpl).trans hfp
        have HCA := Lib.hid hca
        have HFA := Lib.hid hfa
        have HRW := Lib.hid hrow
        clear hst hsrc hrow hca hfa
        go_wp2_with (at_builtin; refine wpList_append_row rfl (.tmp 26) (.tmp 28) 191 191 rfl 1 3 (.int .i64 0) 8 Tryz.underlying191 infoI6 rfl (w2.heap.size + 1) (.slice ra m rc) m (iv (readyL need i)) (by simp [Act.eval]) HRA.out (.slice (some ⟨wr.heap.size, 0, none⟩) 1 1) (by simp [Act.eval]) 1 [.int .i64 (i : Int)] HSRC.out hszw (by omega) (by decide) ?_; intro v6 w6 hr6 ho6 hw6; obtain ⟨a6, c6, hv6⟩ := hr6.form; subst hv6; have k6 := (ho6.cell (p := ⟨w2.heap.size, 0, none⟩) hpa hnp).trans HCA.out; have f6 := (ho6.frozen (p := ⟨w2.heap.size, 0, none⟩) hpa hnp).trans HFA.out; have HR6 := Lib.hid hr6; have HO6 := Lib.hid ho6; clear hr6 ho6 hw6)
        have hoa : Off (fun k => (Value.slice ra m rc).ownBlock = some k) wr w6 := ((Off.refl _ wr).alloc _).trans HO6.out
        have hr6 := HR6.out
        have h6 : Hp w2.heap.size (w2.heap.size + 1) (w6.setCell ⟨w2.heap.size, 0, none⟩ (.slice a6 (m + 1) c6)) (.slice a6 (m + 1) c6) (readyL need (i + 1)) := by
          refine Hp.store k6 f6 (Nat.lt_succ_self _) ?_
          rw [HST2.out, List.length_append, List.length_singleton, ← HMM.out]
          have : iv (readyL need i ++ [(i : Int)]) = iv (readyL need i) ++ [.int .i64 (i : Int)] := by simp [iv]
          rw [this]
          exact hr6
        have hb6 : Below w2.heap.size w2 (w6.setCell ⟨w2.heap.size, 0, none⟩ (.slice a6 (m + 1) c6)) := (HB.out.trans (hoa.below (B := w2.heap.size) (fun k hk => by have := (HRW.out.lt k hk).1; omega) (by omega))).setCell (p := ⟨w2.heap.size, 0, none⟩) (Nat.le_refl _) _
        have hs6 := hoa.size
        exact ⟨⟨i + 1, _, by go_num, by omega, Lib.hid h6, Lib.hid hb6, by simp [World.setCell]; omega⟩, by simp [intOf]; omega⟩
      · have e2 : ((L : Int) == (0 : Int)) = false := by rw [beq_eq_false_iff_ne]; omega
        have hst : readyL need (i + 1) = readyL need i := by rw [HST.out, if_neg hL0]
        have HH2 := Lib.hid (by rw [hst]; exact HH.out : Hp w2.heap.size (w2.heap.size + 1) wr (.slice ra m rc) (readyL need (i + 1)))
        clear hst hrow
        go_wp2_with fail
        exact ⟨⟨i + 1, _, by go_num, by omega, HH2, HB, hsz⟩, by simp [intOf]; omega⟩
    · have hie : n = i := by omega
      subst hie
      have HEAP0 := Lib.hid (readyL_heap need n)
      have RDY0 := Lib.hid (readyL_ready need n)
      obtain ⟨ra, rc, hve⟩ := HH.out.row.form
      have hro : Row 1 (w2.heap.size + 1) wr (.slice none 0 0) 0 [] := Row.nil _ _ _
      have HRO := Lib.hid hro
      have ho0 : Off (fun k => k = wb ∨ w2.heap.size ≤ k) w2 wr := ⟨HB.out.os, HB.out.tape, HB.out.output, HB.out.size, fun k hk hz => HB.out.block k (by omega)⟩
      have HO0 := Lib.hid ho0
      have HWR0 := Lib.hid (HWR.out.below HB.out)
      clear hro ho0 hve
      go_wp2_with fail
      go_loopw [8] (fun ov wx => ∃ (told W r : List Int) (v : Value), Hid (ReachK need n told) ∧ Hid (Readied need n told r) ∧ Hid (Heap r r.length) ∧ Hid (∀ t ∈ told, waitK need told t = 0) ∧ Hid (W.length = n ∧ ∀ u : Nat, u < n → W.getD u 0 = (waitK need told (u : Int) : Nat)) ∧ Hid (Row 1 w.heap.size wx (.slice (some ⟨wb, 0, none⟩) n wc) n (iv W)) ∧
        Hid (Hp w2.heap.size (w2.heap.size + 1) wx v r) ∧ Hid (Row 1 (w2.heap.size + 1) wx ov told.length (outV ns told)) ∧ Hid (v.ownBlock ≠ none → v.ownBlock ≠ ov.ownBlock) ∧ Hid (Off (fun k => k = wb ∨ w2.heap.size ≤ k) w2 wx)) (fun ov _ => n - slLen ov)
      case atStart => exact ⟨[], waitsL need n n, readyL need n, v, Lib.hid .nil, RDY0, HEAP0, Lib.hid (by simp), Lib.hid ⟨waitsL_len need n n, fun u hu => waitsL_full need hu⟩, HWR0, HH, HRO, Lib.hid (fun h e => h e), HO0⟩
      case round =>
        obtain ⟨told, W, r, v2, HRE, HRD, HHP, HWZ, HWV, HRW, HH2, HOV, HDI, HOF⟩ := hrel
        obtain ⟨oa, oc, hov⟩ := HOV.out.form
        obtain ⟨q, hq⟩ : ∃ q, q = told.length := ⟨_, rfl⟩
        have hqn : q ≤ n := by rw [hq]; exact reach_len HRE.out
        have HQ := Lib.hid hq
        have HOV2 := Lib.hid (by rw [hq]; exact HOV.out : Row 1 (w2.heap.size + 1) wr _ q (outV ns told))
        rw [← hq] at hov
        subst hov
        clear hq
        obtain ⟨va, vc, hve2⟩ := HH2.out.row.form
        obtain ⟨m, hm⟩ : ∃ m, m = r.length := ⟨_, rfl⟩
        rw [← hm] at hve2
        subst hve2
        have hcp := HH2.out.cell
        have HMM := Lib.hid hm
        clear hm
        have hvlt : ∀ k, (Value.slice va m vc).ownBlock = some k → w2.heap.size + 1 ≤ k := fun k hk => (HH2.out.row.lt k hk).1
        have HVL := Lib.hid hvlt
        have holt : ∀ k, (Value.slice oa q oc).ownBlock = some k → w2.heap.size + 1 ≤ k ∧ k < wr.heap.size := fun k hk => HOV2.out.lt k hk
        have HOL := Lib.hid holt
        have hpw : w2.heap.size < wr.heap.size := HH2.out.box
        clear hvlt holt
        by_cases h0 : m = 0
        · subst h0
          have hr0 : r = [] := List.length_eq_zero_iff.1 HMM.out.symm
          have HNN := Lib.hid (by have := HRD.out; rw [hr0] at this; exact ready_none this : nextK need n told = none)
          clear hr0
          go_wp2_with fail
          go_ret
          exact ⟨_, told, rfl, HRE.out, HNN.out, HOV.out.mono (by omega), HBW.out.trans (HOF.out.below (B := w.heap.size) (fun k hk => by omega) (by omega))⟩
        · obtain ⟨u, hu, he, hnx, hcan⟩ := ready_next HRD.out HHP.out (fun e => h0 (by rw [HMM.out, e]; rfl))
          have hmn : m ≤ n := by rw [HMM.out]; exact ready_len HRD.out
          have POP : Calls Tryz.prog 109 #[hpI w2.heap.size] wr fun e w4 => e = .returned (.iface 3 (.int .i64 (u : Int))) ∧ ∃ v4 r1, Hp w2.heap.size (w2.heap.size + 1) w4 v4 r1 ∧ Heap r1 r1.length ∧ r1.length + 1 = m ∧ (∀ y, r1.count y + (if (u : Int) = y then 1 else 0) = r.count y) ∧ Off (fun k => k = wb ∨ w2.heap.size ≤ k) w2 w4 ∧ Off (fun i => i = w2.heap.size ∨ (Value.slice va m vc).ownBlock = some i) wr w4 ∧ v4.ownBlock = (Value.slice va m vc).ownBlock := by
            refine (hpop_any r _ _ _ wr HH2.out HHP.out (by rw [← HMM.out]; omega) (by rw [← HMM.out]; omega)).mono ?_
            rintro e w4 ⟨rfl, v4, r1, h1, h2, h3, h4, h5, h6⟩
            rw [he] at h4 ⊢
            exact ⟨rfl, v4, r1, h1, h2, by rw [h3, HMM.out], h4, HOF.out.trans (h5.mono fun k hk => by rcases hk with hk | hk; exact .inr (by omega); exact .inr (by have := HVL.out k hk; omega)), h5, h6⟩
          have HPOP := Lib.hid POP
          obtain ⟨x, hx⟩ : ∃ x, ns[u]? = some x := ⟨ns[u]'(by rw [HNS.out]; exact hu), by simp⟩
          have HX := Lib.hid hx
          have HNX := Lib.hid hnx
          have HCAN := Lib.hid hcan
          have ta := HTA.out
          clear POP he hnx hcan hx
          go_wp2_with fail
          refine HPOP.out.mono ?_
          rintro e w4 ⟨rfl, v4, r1, hp4, hh4, hl4, hc4, ho4, ho4', hv4⟩
          have L4 := HLC.out w4 ho4
          have k40 := L4.b0
          obtain ⟨nb, no, rfl, hnl4, hnc4⟩ := L4.names.at HX.out
          clear hnl4
          have k4x := hnc4.2 u x HX.out
          have hsz4 := ho4'.size
          have hov4 := HOV2.out.off ho4' (fun k hk hz => by
            rcases hz with hz | hz
            · have := (HOL.out k hk).1; omega
            · exact HDI.out (by rw [hz]; exact Option.some_ne_none _) (hz.trans hk.symm))
          have hwr4 := HRW.out.off ho4' (fun k hk hz => by
            have hk : wb = k := Option.some.inj hk
            rcases hz with hz | hz
            · omega
            · have := HVL.out k hz; omega)
          have HOV4 := Lib.hid hov4
          have HWR4 := Lib.hid hwr4
          have HP4 := Lib.hid hp4
          have HH4 := Lib.hid hh4
          have HL4 := Lib.hid hl4
          have HC4 := Lib.hid hc4
          have HO4 := Lib.hid ho4
          have HV4 := Lib.hid hv4
          have hq60 : q ≤ 61 := by omega
          have hsrc : Src Tryz.prog 1 44 (.slice (some ⟨w4.heap.size, 0, none⟩) 1 1) 1 [.string x] (w4.alloc (.cells #[.string x] 9)) := src_new Tryz.underlying44 [.string x] 1 9 1 rfl oneS6
          have HSRC := Lib.hid hsrc
          have HRA := Lib.hid (hov4.alloc (.cells #[.string x] 9))
          have hszw : w2.heap.size + 1 ≤ (w4.alloc (.cells #[.string x] 9)).heap.size := by simp; omega
          have hx6 : ∀ w6, Off (fun i => (Value.slice oa q oc).ownBlock = some i) (w4.alloc (.cells #[.string x] 9)) w6 → Off (fun i => (Value.slice oa q oc).ownBlock = some i) w4 w6 ∧ Off (fun k => k = wb ∨ w2.heap.size ≤ k) w2 w6 := fun w6 h6 => by
            have h7 : Off (fun i => (Value.slice oa q oc).ownBlock = some i) w4 w6 := ((Off.refl _ w4).alloc _).trans h6
            exact ⟨h7, HO4.out.trans (h7.mono fun k hk => .inr (by have := (HOL.out k hk).1; omega))⟩
          have HX6 := Lib.hid hx6
          clear L4 hnc4 hov4 hwr4 hp4 hh4 hl4 hc4 ho4 ho4' hv4 hsrc hx6
          go_wp2_with (at_builtin; refine wpList_append_row rfl (.tmp 37) (.tmp 43) 44 44 rfl 1 9 (.string ByteArray.empty) 16 Tryz.underlying44 infoS6 rfl (w2.heap.size + 1) (.slice oa q oc) q (outV ns told) (by simp [Act.eval]) HRA.out (.slice (some ⟨w4.heap.size, 0, none⟩) 1 1) (by simp [Act.eval]) 1 [.string x] HSRC.out hszw (by omega) (by decide) ?_; intro v6 w6 hr6 ho6 hw6; obtain ⟨a6, c6, hv6⟩ := hr6.form; subst hv6; obtain ⟨h46, h26⟩ := HX6.out w6 ho6; obtain ⟨ua, uc7, L, k7, hL7, hLc, hcm7, hcell7⟩ := (HLC.out w6 h26).rows u hu; have HR6 := Lib.hid hr6; have H46 := Lib.hid h46; have H26 := Lib.hid h26; have HW6 := Lib.hid hw6; have HL7 := Lib.hid hL7; have HCL7 := Lib.hid hcell7; clear hr6 ho6 hw6 h46 h26 hL7 hcell7)
          have hnt : (u : Int) ∉ told := can_fresh HCAN.out
          have HNT := Lib.hid hnt
          have HUC := Lib.hid (fun c (hc : c < n) => by rw [useB_count, if_pos hc] : ∀ c : Nat, c < n → (useB need n (u : Int)).count (c : Int) = (need (c : Int)).count (u : Int))
          have HROOM := Lib.hid (lowered_room hnt HWV.out.2 HUC.out)
          have hLM : L ≤ 24461 := by
            have h1 := useB_len need 401 HM.out (u : Int) n
            have h2 : n * 401 ≤ 61 * 401 := Nat.mul_le_mul_right 401 hn
            rw [HL7.out]; omega
          have hp6 : Hp w2.heap.size (w2.heap.size + 1) w6 v4 r1 := HP4.out.off H46.out (fun e => by have := (HOL.out _ e).1; omega) (fun k hk e => HDI.out (by rw [← HV4.out, hk]; exact Option.some_ne_none _) (by rw [← HV4.out, hk, e]))
          have HP6 := Lib.hid hp6
          have HWR6 := Lib.hid (HWR4.out.off H46.out (fun k hk e => by have hk : wb = k := Option.some.inj hk; have := (HOL.out k e).1; omega))
          have HDI6 : Hid (v4.ownBlock ≠ none → v4.ownBlock ≠ (Value.slice a6 (q + 1) c6).ownBlock) := Lib.hid (fun hne e => by
            rcases HW6.out with h | h
            · exact HDI.out (by rw [← HV4.out]; exact hne) (by rw [← HV4.out, e, h])
            · have hlt := (HP4.out.row.lt _ (e.trans h)).2
              rw [World.size_alloc] at hlt
              omega)
          have HR1M : Hid (∀ x ∈ r1, ∃ c : Nat, c < n ∧ x = (c : Int)) := Lib.hid (fun x hx => HRD.out.2 x (by
            have h1 := List.count_pos_iff.2 hx
            have h2 := HC4.out x
            exact List.count_pos_iff.1 (by omega)))
          have HR1L : Hid (r1.length ≤ 61 + 0) := Lib.hid (by have := HL4.out; omega)
          have HLB := Lib.hid (lowered_begin (us := useB need n (u : Int)) (r1 := r1) HWV.out.1)
          clear hnt hp6
          go_loopw [50] (fun jv wi => ∃ (j : Nat) (W2 r2 : List Int) (v5 : Value), jv = .int .i64 (j : Nat) ∧ j ≤ L ∧ Hid (Lowered n W (useB need n (u : Int)) j W2 r1 r2) ∧ Hid (Heap r2 r2.length) ∧ Hid (∀ x ∈ r2, ∃ c : Nat, c < n ∧ x = (c : Int)) ∧ Hid (r2.length ≤ 61 + j) ∧ Hid (Row 1 w.heap.size wi (.slice (some ⟨wb, 0, none⟩) n wc) n (iv W2)) ∧
            Hid (Hp w2.heap.size (w2.heap.size + 1) wi v5 r2) ∧ Hid (Row 1 (w2.heap.size + 1) wi (.slice a6 (q + 1) c6) (q + 1) (outV ns told ++ [.string x])) ∧ Hid (v5.ownBlock ≠ none → v5.ownBlock ≠ (Value.slice a6 (q + 1) c6).ownBlock) ∧ Hid (Off (fun k => k = wb ∨ w2.heap.size ≤ k) w2 wi)) (fun jv _ => L - (intOf jv).toNat)
          case atStart => exact ⟨0, W, r1, v4, rfl, Nat.zero_le _, HLB, HH4, HR1M, HR1L, HWR6, HP6, HR6, HDI6, H26⟩
          case round =>
            obtain ⟨j, W2, r2, v5, rfl, hjL, HLO, HHJ, HMJ, HLJ, HWJ, HPJ, HRJ, HDJ, HOJ⟩ := hrel
            by_cases hlt2 : j < L
            · obtain ⟨y, hy⟩ : ∃ y, (useB need n (u : Int))[j]? = some y := ⟨_, List.getElem?_eq_getElem (by rw [← HL7.out]; exact hlt2)⟩
              obtain ⟨ua', uc', L', k', _, _, _, hcell'⟩ := (HLC.out wr HOJ.out).rows u hu
              have hzub : ¬ (ub = wb ∨ w2.heap.size ≤ ub) := by omega
              have ek : wr.cell? ⟨ub, u, none⟩ = w6.cell? ⟨ub, u, none⟩ := (HOJ.out.cell (p := ⟨ub, u, none⟩) hup hzub).trans (H26.out.cell (p := ⟨ub, u, none⟩) hup hzub).symm
              rw [ek, k7] at k'
              injection k' with k'
              injection k' with ka kb kc
              subst ka
              obtain ⟨b5, rfl, hcy⟩ := hcell' j y hy
              obtain ⟨c, hcn, rfl⟩ := useB_lt (List.mem_of_getElem? hy)
              have hyj : (useB need n (u : Int))[j]'(by rw [← HL7.out]; exact hlt2) = (c : Int) := (List.getElem?_eq_some_iff.1 hy).2
              have hLA := lowered_at HLO.out (by rw [← HL7.out]; exact hlt2) hcn hyj (HROOM.out c hcn)
              have hw0 := HWV.out.2 c hcn
              have hw1' := wait_le need told (c : Int)
              have hw2' := HM.out c
              have hWl : W2.length = n := HLO.out.1
              obtain ⟨hcw, hfw, _, _, _, _⟩ := HWJ.out.cellF (j := c) (iv_at (by rw [hWl]; exact hcn))
              have hput := HWJ.out.put (j := c) (by rw [iv_len, hWl]; exact hcn)
              have HPUT := Lib.hid hput
              have LST := Lib.hid (fun r' hr => lowered_step (r' := r') HLO.out (by rw [← HL7.out]; exact hlt2) hcn hyj (HROOM.out c hcn) hr)
              obtain ⟨z, hz⟩ : ∃ z, z = W2.getD c 0 := ⟨_, rfl⟩
              rw [← hz] at hcw hLA
              have hz0 : 0 < z := hLA.1
              have hz1 : z ≤ 401 := by omega
              have HZ := Lib.hid hz
              have hszj := HPJ.out.box
              have HW7 : ∀ t, Hid (Hp w2.heap.size (w2.heap.size + 1) (wr.setCell ⟨wb, c, none⟩ (.int .i64 t)) v5 r2 ∧ Row 1 (w2.heap.size + 1) (wr.setCell ⟨wb, c, none⟩ (.int .i64 t)) (.slice a6 (q + 1) c6) (q + 1) (outV ns told ++ [.string x]) ∧ Off (fun k => k = wb ∨ w2.heap.size ≤ k) w2 (wr.setCell ⟨wb, c, none⟩ (.int .i64 t))) := fun t => Lib.hid (by
                have ho7 : Off (fun k => k = wb) wr (wr.setCell ⟨wb, c, none⟩ (.int .i64 t)) := (Off.refl (fun k => k = wb) wr).setCell (p := ⟨wb, c, none⟩) (.inr rfl) _
                exact ⟨HPJ.out.off ho7 (by omega) (fun k hk e => by have := (HPJ.out.row.lt k hk).1; omega), HRJ.out.off ho7 (fun k hk e => by have := (HRJ.out.lt k hk).1; omega), HOJ.out.trans (ho7.mono fun k hk => .inl hk)⟩)
              clear hy hyj hLA hw0 hw1' hw2' hWl hput hcell' ek kb kc hz hzub
              by_cases hz2 : z = 1
              · subst hz2
                have h7 := (HW7 0).out
                have PU := hpush_any r2 _ _ (c : Int) v5 _ h7.1 HHJ.out (by simp [World.setCell]; omega) (by have := HLJ.out; omega)
                have HPU := Lib.hid PU
                have H7 := Lib.hid h7
                clear PU h7 HW7
                go_wp2_with fail
                refine HPU.out.mono ?_
                rintro e w8 ⟨rfl, v8, r8, hp8, hh8, hl8, hc8, ho8, hv8⟩
                have hlo8 : Lowered n W (useB need n (u : Int)) (j + 1) (W2.set c (W2.getD c 0 - 1)) r1 r8 := LST.out r8 (fun u' hu' => by
                  rw [hc8, ← HZ.out]
                  congr 1
                  by_cases e : u' = c
                  · subst e; simp
                  · rw [if_neg (by omega), if_neg (fun h => e h.1)])
                have HLO8 := Lib.hid hlo8
                have hm8 : ∀ x ∈ r8, ∃ c : Nat, c < n ∧ x = (c : Int) := fun x hx => by
                  have h1 := List.count_pos_iff.2 hx
                  have h2 := hc8 x
                  by_cases e : (c : Int) = x
                  · exact ⟨c, hcn, e.symm⟩
                  · rw [if_neg e] at h2
                    exact HMJ.out x (List.count_pos_iff.1 (by omega))
                have hwv : (wr.setCell ⟨wb, c, none⟩ (.int .i64 0)).heap.size = wr.heap.size := by simp [World.setCell]
                have hrow8 : Row 1 w.heap.size w8 (.slice (some ⟨wb, 0, none⟩) n wc) n (iv (W2.set c (W2.getD c 0 - 1))) := by
                  have h := HPUT.out (.int .i64 0)
                  rw [iv_set] at h
                  rw [← HZ.out]
                  exact h.off ho8 (fun k hk e => by
                    have hk : wb = k := Option.some.inj hk
                    rcases e with e | e
                    · omega
                    · have := (H7.out.1.row.lt k e).1; omega)
                have hout8 := H7.out.2.1.off ho8 (fun k hk e => by
                  rcases e with e | e
                  · have := (H7.out.2.1.lt k hk).1; omega
                  · exact HDJ.out (by rw [e]; exact Option.some_ne_none _) (e.trans hk.symm))
                have hdi8 : v8.ownBlock ≠ none → v8.ownBlock ≠ (Value.slice a6 (q + 1) c6).ownBlock := fun hne e => by
                  rcases hv8 with h | ⟨k, h, hk⟩
                  · exact HDJ.out (by rw [← h]; exact hne) (by rw [← h, e])
                  · have := (H7.out.2.1.lt k (by rw [← e, h])).2
                    omega
                have hof8 := H7.out.2.2.trans (ho8.mono fun k hk => by
                  rcases hk with hk | hk
                  · exact .inr (by omega)
                  · exact .inr (by have := (H7.out.1.row.lt k hk).1; omega))
                have hl8' : r8.length ≤ 61 + (j + 1) := by have := HLJ.out; omega
                have A1 := Lib.hid hm8
                have A2 := Lib.hid hrow8
                have A3 := Lib.hid hout8
                have A4 := Lib.hid hdi8
                have A5 := Lib.hid hof8
                have A6 := Lib.hid hl8'
                have A7 := Lib.hid hp8
                have A8 := Lib.hid hh8
                clear hm8 hrow8 hout8 hdi8 hof8 hl8' hp8 hh8 hlo8 hc8 ho8 hv8 hl8 hwv
                go_wp2_with fail
                exact ⟨⟨j + 1, _, r8, v8, by go_num, by omega, HLO8, A8, A1, A6, A2, A7, A3, A4, A5⟩, by simp [intOf]; omega⟩
              · have e3 : ((z - 1 : Int) == (0 : Int)) = false := by rw [beq_eq_false_iff_ne]; omega
                have h7 := (HW7 (z - 1)).out
                have hlo8 : Lowered n W (useB need n (u : Int)) (j + 1) (W2.set c (W2.getD c 0 - 1)) r1 r2 := LST.out r2 (fun u' hu' => by
                  rw [← HZ.out, if_neg (fun h => by omega), Nat.add_zero])
                have hrow8 : Row 1 w.heap.size (wr.setCell ⟨wb, c, none⟩ (.int .i64 (z - 1))) (.slice (some ⟨wb, 0, none⟩) n wc) n (iv (W2.set c (W2.getD c 0 - 1))) := by
                  have h := HPUT.out (.int .i64 (z - 1))
                  rw [iv_set] at h
                  rw [← HZ.out]
                  exact h
                have H7 := Lib.hid h7.1
                have H72 := Lib.hid h7.2.1
                have H73 := Lib.hid h7.2.2
                have HLO8 := Lib.hid hlo8
                have A2 := Lib.hid hrow8
                have hl8' : Hid (r2.length ≤ 61 + (j + 1)) := Lib.hid (by have := HLJ.out; omega)
                clear h7 hlo8 hrow8 HW7
                go_wp2_with fail
                exact ⟨⟨j + 1, _, r2, v5, by go_num, by omega, HLO8, HHJ, HMJ, hl8', A2, H7, H72, HDJ, H73⟩, by simp [intOf]; omega⟩
            · have hjl : j = L := by omega
              have hlo := HLO.out
              rw [hjl, HL7.out] at hlo
              obtain ⟨hWn, hrn⟩ := lowered_end HNT.out hlo HWV.out.2 HUC.out
              obtain ⟨hrd2, hwz2⟩ := ready_step HRD.out hu HCAN.out HWZ.out HC4.out hrn HMJ.out
              have hre2 : ReachK need n (told ++ [(u : Int)]) := .step HRE.out HNX.out
              have hxg : ns.getD u ByteArray.empty = x := by rw [List.getD_eq_getElem?_getD, HX.out]; rfl
              have hout2 : Row 1 (w2.heap.size + 1) wr (.slice a6 (q + 1) c6) (told ++ [(u : Int)]).length (outV ns (told ++ [(u : Int)])) := by
                rw [outV_snoc, hxg, List.length_append, List.length_singleton, ← HQ.out]
                exact HRJ.out
              have hqn2 : q + 1 ≤ n := by
                have := reach_len hre2
                rw [List.length_append, List.length_singleton, ← HQ.out] at this
                exact this
              have A1 := Lib.hid hre2
              have A2 := Lib.hid hrd2
              have A3 := Lib.hid hwz2
              have A4 : Hid (W2.length = n ∧ ∀ c : Nat, c < n → W2.getD c 0 = (waitK need (told ++ [(u : Int)]) (c : Int) : Nat)) := Lib.hid ⟨HLO.out.1, hWn⟩
              have A5 := Lib.hid hout2
              clear hlo hWn hrn hrd2 hwz2 hre2 hxg hout2
              go_wp2_with fail
              exact ⟨⟨told ++ [(u : Int)], W2, r2, v5, A1, A2, HHJ, A3, A4, HWJ, HPJ, A5, HDJ, HOJ⟩, by simp [slLen]; omega⟩
end Go.Proofs.YtojnagonhihknaaGreatDoor
