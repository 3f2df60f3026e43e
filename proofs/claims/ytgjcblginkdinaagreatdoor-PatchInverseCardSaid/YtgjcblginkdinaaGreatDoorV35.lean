/- The contract of the document's form. -/
import Derived.Deep.RegionHeld3
import Derived.Test.YtgjcblginkdinaaGreatDoorV25
import Derived.Test.YtgjcblginkdinaaGreatDoorV33
import Derived.Test.YtgjcblginkdinaaGreatDoorV34
set_option linter.unusedVariables false
namespace Go.Proofs.YtgjcblginkdinaaGreatDoor
open Go.ChangeShapes Go.WideShapes Go.ChangeAt Go.RowKit
open Go.Lib (itoa)

abbrev OlS (ob bl s : Nat) (K x1 y1 x2 y2 : Int) (lv dv : Value) (W : World) : Prop := (W.cell? ⟨ob, 0, none⟩ = some (.int .i64 K) ∧ W.cell? ⟨ob, 1, none⟩ = some (.int .i64 x1) ∧ W.cell? ⟨ob, 2, none⟩ = some (.int .i64 y1) ∧ W.cell? ⟨ob, 3, none⟩ = some (.int .i64 x2) ∧ W.cell? ⟨ob, 4, none⟩ = some (.int .i64 y2) ∧ W.cell? ⟨ob, 5, none⟩ = some lv) ∧
  (W.cell? ⟨bl, 0, none⟩ = some (.bool true) ∧ W.cell? ⟨bl, 1, none⟩ = some (.string noText) ∧ W.cell? ⟨bl, 2, none⟩ = some dv) ∧ s ≤ W.heap.size
theorem ol_off {Y : Nat → Prop} {ob bl s : Nat} {K x1 y1 x2 y2 : Int} {lv dv : Value} {W W2 : World} (ho : Off Y W W2) (h1 : ¬ Y ob) (h2 : ¬ Y bl) (h : OlS ob bl s K x1 y1 x2 y2 lv dv W) : OlS ob bl s K x1 y1 x2 y2 lv dv W2 := by
  obtain ⟨⟨c0, c1, c2, c3, c4, c5⟩, ⟨d0, d1, d2⟩, hs⟩ := h
  have c : ∀ j u, W.cell? ⟨ob, j, none⟩ = some u → W2.cell? ⟨ob, j, none⟩ = some u := fun j u hu => (ho.cell (p := ⟨ob, j, none⟩) (cell_lt hu) h1).trans hu
  have d : ∀ j u, W.cell? ⟨bl, j, none⟩ = some u → W2.cell? ⟨bl, j, none⟩ = some u := fun j u hu => (ho.cell (p := ⟨bl, j, none⟩) (cell_lt hu) h2).trans hu
  exact ⟨⟨c _ _ c0, c _ _ c1, c _ _ c2, c _ _ c3, c _ _ c4, c _ _ c5⟩, ⟨d _ _ d0, d _ _ d1, d _ _ d2⟩, Nat.le_trans hs ho.size⟩
theorem ol_call {ob bl s : Nat} {K x1 y1 x2 y2 : Int} {lv dv : Value} {W W2 : World} (hb : Below W.heap.size W W2) (h : OlS ob bl s K x1 y1 x2 y2 lv dv W) : OlS ob bl s K x1 y1 x2 y2 lv dv W2 := ol_off (Y := fun _ => False) (Off.of_below hb) (fun h => h) (fun h => h) h
theorem ol_alloc {ob bl s : Nat} {K x1 y1 x2 y2 : Int} {lv dv : Value} {W : World} (o : Obj) (h : OlS ob bl s K x1 y1 x2 y2 lv dv W) : OlS ob bl s K x1 y1 x2 y2 lv dv (W.alloc o) := ol_call ((Below.refl _ _).alloc (Nat.le_refl _) _) h
theorem opBox_new (w : World) (K x1 y1 x2 y2 : Int) (lv : Value) (t : TypeId) : OpBox w K x1 y1 x2 y2 lv (w.alloc (.cells #[.int .i64 K, .int .i64 x1, .int .i64 y1, .int .i64 x2, .int .i64 y2, lv] t)) := by
  have c : ∀ j, (w.alloc (.cells #[.int .i64 K, .int .i64 x1, .int .i64 y1, .int .i64 x2, .int .i64 y2, lv] t)).cell? ⟨w.heap.size, j, none⟩ = #[Value.int .i64 K, .int .i64 x1, .int .i64 y1, .int .i64 x2, .int .i64 y2, lv][j]? := fun j => World.cell?_alloc_at _ _ _ _ rfl
  exact ⟨⟨c 0, c 1, c 2, c 3, c 4, c 5⟩, (Below.refl _ _).alloc (Nat.le_refl _) _⟩
theorem opBox_off {w W W2 : World} {K x1 y1 x2 y2 : Int} {lv : Value} {b : Nat} (hb : Off (fun i => b ≤ i) W W2) (hl : w.heap.size < b) (h : OpBox w K x1 y1 x2 y2 lv W) : OpBox w K x1 y1 x2 y2 lv W2 := by
  obtain ⟨⟨c0, c1, c2, c3, c4, c5⟩, hB⟩ := h
  have c : ∀ j u, W.cell? ⟨w.heap.size, j, none⟩ = some u → W2.cell? ⟨w.heap.size, j, none⟩ = some u := fun j u hu => (hb.cell (p := ⟨w.heap.size, j, none⟩) (cell_lt hu) (by show ¬ b ≤ w.heap.size; omega)).trans hu
  exact ⟨⟨c _ _ c0, c _ _ c1, c _ _ c2, c _ _ c3, c _ _ c4, c _ _ c5⟩, hB.trans (hb.below (fun i hi => by omega) hB.size)⟩

attribute [-go_sem] Builtin.append_
set_option maxHeartbeats 4000000 in
set_option maxRecDepth 100000 in
theorem rform_any (Z : Nat → Prop) (p : Pt) (dv ov : Value) (w : World) (hp : PReads w p.note dv ov p) (hf : p.fine) (hd : p.deps.length ≤ 64) (hol : p.ops.length ≤ 400) (hln : linesN p.ops ≤ 300) (hzn : ∀ i, w.heap.size ≤ i → Z i) :
    Calls Tryz.prog 34 #[ptV p.note dv ov] w fun e w' => ∃ v, e = .returned v ∧ IsV Z w' v (ptT p) ∧ Below w.heap.size w w' := by
  obtain ⟨_, hdr, ho⟩ := hp
  obtain ⟨da, dc, rfl, hdn⟩ := hdr.form
  obtain ⟨oa, oc, rfl, hon⟩ := ho.form
  obtain ⟨t, htt⟩ : ∃ t, t = p.note := ⟨_, rfl⟩
  obtain ⟨n, hnn⟩ : ∃ n, n = p.ops.length := ⟨_, rfl⟩
  obtain ⟨m, hmm⟩ : ∃ m, m = p.deps.length := ⟨_, rfl⟩
  rw [← htt]
  rw [← hnn] at ho hon hol ⊢
  rw [← hmm] at hdr hdn hd ⊢
  have HN := Lib.hid hnn
  have HM := Lib.hid hmm
  have HT := Lib.hid htt
  have HO := Lib.hid ho
  have HD := Lib.hid hdr
  have HF := Lib.hid hf
  have HLN := Lib.hid hln
  have HZN := Lib.hid hzn
  clear hnn hmm htt ho hdr hf hln hzn
  go_enter Tryz.func34, Tryz.ntmps34
  go_wp2_with fail
  refine (rlist0_any _).mono ?_
  rintro e w2 ⟨rfl, hb2⟩
  have hfp0 := fp_start (w := w) hb2
  have hfp : FpS w t (.slice da m dc) (.slice oa n oc) w2 := ⟨hfp0.1, ⟨hfp0.2.1.1.trans ⟨rfl, rfl, rfl, Nat.le_refl _, fun _ _ => rfl⟩, hfp0.2.1.2⟩, hfp0.2.2.1, hfp0.2.2.2⟩
  have hmx : Tryz.prog.follows .mixedOrders = true := by kernel_rfl
  have HFP := Lib.hid (show FpS w t (.slice da m dc) (.slice oa n oc) (w2.alloc (.cells #[.bool true, .string noText, .slice none 0 0] 61)) from fp_alloc _ hfp)
  have hbx := BoxF.new w2 61
  have HBX := Lib.hid hbx
  have hb0 : w.heap.size + 1 < w2.heap.size := hfp.2.1.2
  obtain ⟨b, hb⟩ : ∃ b, b = w2.heap.size := ⟨_, rfl⟩
  clear hb2 hfp hfp0 hbx
  go_wp2_with fail
  rw [← hb] at HBX hb0 ⊢
  clear hb
  go_loopw [4] (fun i wr => ∃ (k : Nat) (es : List FE) (v : Value), k ≤ m ∧ i = .int .i64 (k : Nat) ∧ Hid (es.length = k) ∧ Hid (es.map FE.tm = (p.deps.take k).map txT) ∧ Hid (BoxF b wr v es) ∧ Hid (FpS w t (.slice da m dc) (.slice oa n oc) wr)) (fun i _ => m - (intOf i).toNat)
  case atStart => exact ⟨0, [], _, Nat.zero_le _, rfl, Lib.hid rfl, Lib.hid (by simp), HBX, HFP⟩
  case round =>
    obtain ⟨k, es, v, hk, rfl, HEL, HMP, HB, HFR⟩ := hrel
    obtain ⟨va, vc, hv, _, _⟩ := HB.out.m.row.form'
    rw [HEL.out] at hv
    subst hv
    have hbc := HB.out.c.2.2
    have hbf := HB.out.f
    obtain ⟨⟨k0, k1, k2⟩, ⟨hbw, hlt2⟩, _⟩ := HFR.out
    have HBW := Lib.hid hbw
    clear hbw
    by_cases hlt : k < m
    · obtain ⟨x, hx⟩ : ∃ x, p.deps[k]? = some x := ⟨p.deps[k]'(by rw [← HM.out]; exact hlt), by simp⟩
      obtain ⟨db, do_, rfl, hnl, hdb, hdx⟩ := HD.out.at hx
      clear hnl
      have hcd : wr.cell? ⟨db, do_ + k, none⟩ = some (.string x) := (HBW.out.cell (p := ⟨db, do_ + k, none⟩) hdb).trans (hdx k x hx)
      have hpush := fun w3 (hb3 : Below wr.heap.size wr w3) => box_push (W := wr) (w2 := w3) HB.out HEL.out.symm (by rw [HEL.out]; omega) (l := false) (t := x) (ys := []) (s := .slice none 0 0) (HF.out.deps x (List.mem_of_getElem? hx)) hb3 (.nil _ _ (Nat.zero_le _))
      have HPUSH := Lib.hid hpush
      have HX := Lib.hid hx
      clear hpush hx hdx
      go_wp2_with fail
      go_region_with_o (first
        | (go_at_call 73; refine (rtext_any _ _).mono ?_; rintro e w3 ⟨rfl, hb3⟩; obtain ⟨hv2, hv2a, a6, c6, w6, hr6, hc6, hf6, hq1, hq2, hq3⟩ := HPUSH.out w3 ((Below.refl _ wr).drew.trans hb3); have HR6 := Lib.hid hr6; have HQ1 := Lib.hid hq1; have HQ2 := Lib.hid hq2; clear hr6 hq1 hq2 hq3 hb3)
        | rw [HR6.out])
      all_goals go_wp2_with fail
      all_goals exact ⟨⟨k + 1, _, _, by omega, by go_num, Lib.hid (by rw [List.length_append, HEL.out]; rfl), Lib.hid (by rw [List.map_append, HMP.out, take_snoc HX.out, List.map_append, List.map_singleton, List.map_singleton]; rfl), Lib.hid HQ1.out, Lib.hid (fp_off HQ2.out hb0 HFR.out)⟩, by simp [intOf]; omega⟩
    · have hke : m ≤ k := by omega
      have hdf := HB.out.dep (T := p.deps.map txT) (by rw [HMP.out, List.take_of_length_le (by rw [← HM.out]; exact hke)])
      obtain rfl : m = k := by omega
      have HDF := Lib.hid hdf
      have hbl := cell_lt hbc
      clear hdf hke HMP HEL HB hbf hbc
      go_wp2_with fail
      refine (rlist0_any _).mono ?_
      rintro e w3 ⟨rfl, hb3⟩
      have hdf3 := (HDF.out.below hb3).mono hb3.size
      have hfp3 := fp_alloc (.cells #[.bool true, .string noText, .slice none 0 0] 61) (fp_call hb3 HFR.out)
      have hdf4 := hdf3.below ((Below.refl _ w3).alloc (Nat.le_refl _) (.cells #[.bool true, .string noText, .slice none 0 0] 61))
      have hbx := BoxF.new w3 61
      have hbo : b < w3.heap.size := Nat.lt_of_lt_of_le hbl hb3.size
      have HFP3 := Lib.hid hfp3
      have HDF4 := Lib.hid hdf4
      have HBX3 := Lib.hid hbx
      obtain ⟨bo, hbo'⟩ : ∃ b, b = w3.heap.size := ⟨_, rfl⟩
      clear hb3 hdf3 hfp3 hdf4 hbx hbl HFR HDF k0 k1 k2 hlt2 HBW
      go_wp2_with fail
      rw [← hbo'] at HDF4 HBX3 hbo ⊢
      clear hbo'
      go_loopw [6] (fun i wr => ∃ (k : Nat) (es : List FE) (v : Value), k ≤ n ∧ i = .int .i64 (k : Nat) ∧ Hid (es.length = k) ∧ Hid (es.map FE.tm = (p.ops.take k).map opT) ∧ Hid (BoxF bo wr v es) ∧ Hid (FpS w t (.slice da m dc) (.slice oa n oc) wr) ∧ Hid (DepF b bo (b + 1) (.slice va m vc) (p.deps.map txT) wr)) (fun i _ => n - (intOf i).toNat)
      case atStart => exact ⟨0, [], _, Nat.zero_le _, rfl, Lib.hid rfl, Lib.hid (by simp), HBX3, HFP3, HDF4⟩
      case round =>
        obtain ⟨wo, rfl⟩ : ∃ w0, w0 = wr := ⟨wr, rfl⟩
        obtain ⟨k, es, v, hk, rfl, HEL, HMP, HB, HFR, HDR⟩ := hrel
        obtain ⟨wa, wc, hv, _, _⟩ := HB.out.m.row.form'
        rw [HEL.out] at hv
        subst hv
        by_cases hlt : k < n
        · obtain ⟨x, hx⟩ : ∃ x, p.ops[k]? = some x := ⟨p.ops[k]'(by rw [← HN.out]; exact hlt), by simp⟩
          obtain ⟨qb, qo, rfl, hnl, hcl⟩ := HO.out.at hx
          clear hnl
          obtain ⟨⟨k0, k1, k2⟩, ⟨hbw, hlt2⟩, _⟩ := HFR.out
          obtain ⟨lv, d0, d1, d2, d3, d4, d5, d6⟩ := (hcl.below hbw).2 k x hx
          obtain ⟨la, lc, hlv, _⟩ := d6.form
          obtain ⟨N, hN⟩ : ∃ N, N = x.lines.length := ⟨_, rfl⟩
          rw [← hN] at hlv
          subst hlv
          have hwf := HF.out.wf x (List.mem_of_getElem? hx)
          have hlx : N ≤ 300 := by have h1 := lines_mem (List.mem_of_getElem? hx); have := HLN.out; omega
          have hls := HF.out.ops x (List.mem_of_getElem? hx)
          have HX := Lib.hid hx
          have HWF := Lib.hid hwf
          have HLS := Lib.hid hls
          have HLR := Lib.hid d6
          have HNL := Lib.hid hN
          have HBW := Lib.hid hbw
          clear hx hcl d6 hwf hls hbw hN
          obtain ⟨K, ⟨ax, ay⟩, ⟨bx, bY⟩, ls⟩ := x
          simp only at d0 d1 d2 d3 d4
          have hbc := HB.out.c.2.2
          have hbolt := cell_lt hbc
          go_wp2_with fail
          refine (rlist0_any _).mono ?_
          rintro e w5 ⟨rfl, hb5⟩
          have hop := opBox_call hb5 (opBox_new wo K ax ay bx bY (.slice la N lc) 56)
          have hop6 := opBox_call ((Below.refl _ w5).alloc (Nat.le_refl _) (.cells #[.bool true, .string noText, .slice none 0 0] 61)) hop
          have hbx5 := BoxF.new w5 61
          have hob : wo.heap.size < w5.heap.size := cell_lt hop.1.1
          obtain ⟨bl, hbl⟩ : ∃ b, b = w5.heap.size := ⟨_, rfl⟩
          have HOP6 := Lib.hid hop6
          have HBX5 := Lib.hid hbx5
          clear hb5 hop hop6 hbx5 d0 d1 d2 d3 d4 d5 k0 k1 k2
          go_wp2_with fail
          rw [← hbl] at HBX5 hob ⊢
          clear hbl
          go_loopw [9] (fun i wi => ∃ (j : Nat) (fs : List FE) (v : Value), j ≤ N ∧ i = .int .i64 (j : Nat) ∧ Hid (fs.length = j) ∧ Hid (fs.map FE.tm = (ls.take j).map txT) ∧ Hid (BoxF bl wi v fs) ∧ Hid (OpBox wo K ax ay bx bY (.slice la N lc) wi)) (fun i _ => N - (intOf i).toNat)
          case atStart => exact ⟨0, [], _, Nat.zero_le _, rfl, Lib.hid rfl, Lib.hid (by simp), HBX5, HOP6⟩
          case round =>
            obtain ⟨wi, rfl⟩ : ∃ w0, w0 = wr := ⟨wr, rfl⟩
            obtain ⟨j, fs, v, hj, rfl, HFL, HMF, HBF, HOB⟩ := hrel
            obtain ⟨va2, vc2, hv, _, _⟩ := HBF.out.m.row.form'
            rw [HFL.out] at hv
            subst hv
            have hbc2 := HBF.out.c.2.2
            have hbf2 := HBF.out.f
            obtain ⟨⟨o0, o1, o2, o3, o4, o5⟩, hbi⟩ := HOB.out
            have HBI := Lib.hid hbi
            clear hbi
            by_cases hjl : j < N
            · obtain ⟨y, hy⟩ : ∃ y, ls[j]? = some y := ⟨ls[j]'(by rw [← HNL.out]; exact hjl), by simp⟩
              obtain ⟨yb, yo, rfl, hnl, hyb, hyx⟩ := HLR.out.at hy
              clear hnl
              have hcy : wi.cell? ⟨yb, yo + j, none⟩ = some (.string y) := (HBI.out.cell (p := ⟨yb, yo + j, none⟩) hyb).trans (hyx j y hy)
              have hpush := fun w3 (hb3 : Below wi.heap.size wi w3) => box_push (W := wi) (w2 := w3) HBF.out HFL.out.symm (by rw [HFL.out]; omega) (l := false) (t := y) (ys := []) (s := .slice none 0 0) (HLS.out y (List.mem_of_getElem? hy)) hb3 (.nil _ _ (Nat.zero_le _))
              have HPUSH := Lib.hid hpush
              have HY := Lib.hid hy
              clear hpush hy hyx
              go_wp2_with fail
              go_region_with_o (first
                | (go_at_call 73; refine (rtext_any _ _).mono ?_; rintro e w3 ⟨rfl, hb3⟩; obtain ⟨hv2, hv2a, a6, c6, w6, hr6, hc6, hf6, hq1, hq2, hq3⟩ := HPUSH.out w3 ((Below.refl _ wi).drew.trans hb3); have HR6 := Lib.hid hr6; have HQ1 := Lib.hid hq1; have HQ2 := Lib.hid hq2; clear hr6 hq1 hq2 hq3 hb3)
                | rw [HR6.out])
              all_goals go_wp2_with fail
              all_goals exact ⟨⟨j + 1, _, _, by omega, by go_num, Lib.hid (by rw [List.length_append, HFL.out]; rfl), Lib.hid (by rw [List.map_append, HMF.out, take_snoc HY.out, List.map_append, List.map_singleton, List.map_singleton]; rfl), Lib.hid HQ1.out, Lib.hid (opBox_off HQ2.out hob HOB.out)⟩, by simp [intOf]; omega⟩
            · obtain rfl : N = j := by omega
              have hdf := HBF.out.dep (T := ls.map txT) (by rw [HMF.out, List.take_of_length_le (by rw [← HNL.out]; exact Nat.le_refl _)])
              have hbi := HBI.out
              have hbo2 := (HB.out.below hbi)
              have hbc3 := hbo2.c.2.2
              have hbf3 := hbo2.f
              have hownlt : ∀ i, (Value.slice wa k wc).ownBlock = some i → bo < i ∧ i < wo.heap.size := fun i hi => by have := HB.out.m.row.lt i hi; omega
              have hcK : ∀ W : World, Calls Tryz.prog 74 #[.int .i64 K] W fun e w' => e = .returned (fv false (tx (itoa K)) (.slice none 0 0)) ∧ Below W.heap.size W w' := fun W => rnumf_any K W HWF.out.1.1 HWF.out.1.2
              have hcA : ∀ W : World, wi.heap.size ≤ W.heap.size → Calls Tryz.prog 75 #[.agg #[.int .i64 ax, .int .i64 ay]] W fun e w' => ∃ v, e = .returned v ∧ IsV (fun i => wo.heap.size ≤ i) w' v (rfT ⟨ax, ay⟩) ∧ Below W.heap.size W w' := fun W hW => rtwo_any _ ⟨ax, ay⟩ W HWF.out.2.1 (fun i hi => by have := hbi.size; omega)
              have hcB : ∀ W : World, wi.heap.size ≤ W.heap.size → Calls Tryz.prog 75 #[.agg #[.int .i64 bx, .int .i64 bY]] W fun e w' => ∃ v, e = .returned v ∧ IsV (fun i => wo.heap.size ≤ i) w' v (rfT ⟨bx, bY⟩) ∧ Below W.heap.size W w' := fun W hW => rtwo_any _ ⟨bx, bY⟩ W HWF.out.2.2 (fun i hi => by have := hbi.size; omega)
              have hks : (tx (itoa K)).size ≤ 140737488355328 := itoa_size _ HWF.out.1.1 HWF.out.1.2
              have hst : OlS wo.heap.size bl wi.heap.size K ax ay bx bY (.slice la N lc) (.slice va2 N vc2) wi.drew := ⟨⟨o0, o1, o2, o3, o4, o5⟩, hdf.c, Nat.le_refl _⟩
              have hlen2 : N = (ls.map txT).length := by rw [List.length_map]; exact HNL.out
              have hsd : SlU (fun i => wo.heap.size ≤ i) wi (.slice va2 (ls.map txT).length vc2) (ls.map txT) := by rw [← hlen2]; exact hdf.s.mono fun i _ hi => by omega
              have hpush := fun (w6 : World) (l6 : Option Addr) (c6 : Nat) (ys : List Tm) (hb6 : Below wi.heap.size wi w6) (hs6 : SlU (fun i => wo.heap.size ≤ i) w6 (.slice l6 4 c6) ys) => box_push (W := wi) (w2 := w6) hbo2 HEL.out.symm (by rw [HEL.out]; omega) (l := true) (t := noText) (ys := ys) (s := .slice l6 4 c6) (by decide) hb6 (hs6.mono fun i _ hi => ⟨by omega, fun e => by have := hownlt i e; omega⟩)
              have HPUSH := Lib.hid hpush
              have CK := Lib.hid hcK
              have CA := Lib.hid hcA
              have CB := Lib.hid hcB
              have HKS := Lib.hid hks
              have HST := Lib.hid hst
              have HSW := Lib.hid (show OlS wo.heap.size bl wi.heap.size K ax ay bx bY (.slice la N lc) (.slice va2 N vc2) wi from ⟨⟨o0, o1, o2, o3, o4, o5⟩, hdf.c, Nat.le_refl _⟩)
              have HNO := Lib.hid (show ¬ (Value.slice wa k wc).ownBlock = some wo.heap.size from fun e => by have := hownlt _ e; omega)
              have HNB := Lib.hid (show ¬ (Value.slice wa k wc).ownBlock = some bl from fun e => by have := hownlt _ e; omega)
              have HSD := Lib.hid hsd
              have HL2 := Lib.hid hlen2
              have HOWL := Lib.hid hownlt
              have hbl2 : bl < wi.heap.size := cell_lt hdf.c.1
              have HBI2 := Lib.hid hbi
              have hwoi := hbi.size
              clear hpush hcK hcA hcB hks hst hsd hlen2 hownlt hdf hbi hbo2 hbc2 hbf2 HMF HFL HBF HOB o0 o1 o2 o3 o4 HBI
              go_wp2_with fail
              clear o5
              refine wp_region_til (S := (fun W => ((W.cell? ⟨wo.heap.size, 0, none⟩ = some (.int .i64 K) ∧ W.cell? ⟨wo.heap.size, 1, none⟩ = some (.int .i64 ax) ∧ W.cell? ⟨wo.heap.size, 2, none⟩ = some (.int .i64 ay) ∧ W.cell? ⟨wo.heap.size, 3, none⟩ = some (.int .i64 bx) ∧ W.cell? ⟨wo.heap.size, 4, none⟩ = some (.int .i64 bY) ∧ W.cell? ⟨wo.heap.size, 5, none⟩ = some (.slice la N lc)) ∧   (W.cell? ⟨bl, 0, none⟩ = some (.bool true) ∧ W.cell? ⟨bl, 1, none⟩ = some (.string noText) ∧ W.cell? ⟨bl, 2, none⟩ = some (.slice va2 N vc2)) ∧ wi.heap.size ≤ W.heap.size) ∧ W.cell? ⟨bo, 2, none⟩ = some (.slice wa k wc))) 17 (by kernel_rfl) ?_ (fun hHeld => ?_)
              · exact ⟨HST.out, hbc3⟩
              refine tkT 0 ⟨some 61, .fieldAddr 61 (.tmp 5) 2, 0, "ref.go:80", #[], none⟩ ?_
              try simp only [Act.put, List.setIfInBounds_toArray, List.set_cons_zero, List.set_cons_succ]
              refine tkT 1 ⟨some 62, .load 59 (.tmp 61), 59, "ref.go:80", #[⟨0, .data⟩], none⟩ ?_
              try simp only [Act.put, List.setIfInBounds_toArray, List.set_cons_zero, List.set_cons_succ]
              refine tkT 2 ⟨some 63, .fieldAddr 56 (.tmp 7) 0, 0, "ref.go:80", #[], none⟩ ?_
              try simp only [Act.put, List.setIfInBounds_toArray, List.set_cons_zero, List.set_cons_succ]
              refine tkT 3 ⟨some 64, .load 3 (.tmp 63), 3, "ref.go:80", #[⟨2, .data⟩], none⟩ ?_
              try simp only [Act.put, List.setIfInBounds_toArray, List.set_cons_zero, List.set_cons_succ]
              refine tkT 5 ⟨some 66, .fieldAddr 56 (.tmp 7) 1, 0, "ref.go:80", #[], none⟩ ?_
              try simp only [Act.put, List.setIfInBounds_toArray, List.set_cons_zero, List.set_cons_succ]
              refine tkT 6 ⟨some 67, .load 54 (.tmp 66), 54, "ref.go:80", #[⟨5, .data⟩], none⟩ ?_
              try simp only [Act.put, List.setIfInBounds_toArray, List.set_cons_zero, List.set_cons_succ]
              refine tkT 8 ⟨some 69, .fieldAddr 56 (.tmp 7) 2, 0, "ref.go:80", #[], none⟩ ?_
              try simp only [Act.put, List.setIfInBounds_toArray, List.set_cons_zero, List.set_cons_succ]
              refine tkT 9 ⟨some 70, .load 54 (.tmp 69), 54, "ref.go:80", #[⟨8, .data⟩], none⟩ ?_
              try simp only [Act.put, List.setIfInBounds_toArray, List.set_cons_zero, List.set_cons_succ]
              refine tkT 11 ⟨some 72, .load 61 (.tmp 8), 61, "ref.go:80", #[], none⟩ ?_
              try simp only [Act.put, List.setIfInBounds_toArray, List.set_cons_zero, List.set_cons_succ]
              refine til_one (i := 4) (o := ⟨some 65, .call { callee := Callee.value (Operand.func 74), args := #[.tmp 64], argTypes := #[3] }, 61, "ref.go:80", #[⟨3, .data⟩], none⟩) (by kernel_rfl) rfl (fun KK hK => ?_)
              go_simp
              go_at_call 74
              (with_reducible refine (CK.out _).mono ?_)
              rintro e w2 ⟨rfl, hb2⟩
              have g2 := (hb2.cell (p := ⟨bo, 2, none⟩) (cell_lt hbc3)).trans hbc3
              have hq2 := ol_call hb2 HST.out
              refine hK.out _ _ ?_ (fun hHeld => ?_)
              · exact ⟨hq2, g2⟩
              clear hK KK
              try simp only [Act.put, List.setIfInBounds_toArray, List.set_cons_zero, List.set_cons_succ]
              refine til_one (i := 7) (o := ⟨some 68, .call { callee := Callee.value (Operand.func 75), args := #[.tmp 67], argTypes := #[54] }, 61, "ref.go:80", #[⟨6, .data⟩, ⟨4, .chain⟩], none⟩) (by kernel_rfl) rfl (fun KK hK => ?_)
              go_simp
              go_at_call 75
              (with_reducible refine (CA.out _ hq2.2.2).mono ?_)
              rintro e w3 ⟨vA, rfl, ⟨lA, tA, ysA, aA, _, cA, rfl, rfl, hTA, htA, hsA⟩, hb3⟩
              have g3 := (hb3.cell (p := ⟨bo, 2, none⟩) (cell_lt g2)).trans g2
              have hq3 := ol_call hb3 hq2
              refine hK.out _ _ ?_ (fun hHeld => ?_)
              · exact ⟨hq3, g3⟩
              clear hK KK
              try simp only [Act.put, List.setIfInBounds_toArray, List.set_cons_zero, List.set_cons_succ]
              refine til_one (i := 10) (o := ⟨some 71, .call { callee := Callee.value (Operand.func 75), args := #[.tmp 70], argTypes := #[54] }, 61, "ref.go:80", #[⟨9, .data⟩, ⟨7, .chain⟩], none⟩) (by kernel_rfl) rfl (fun KK hK => ?_)
              go_simp
              go_at_call 75
              (with_reducible refine (CB.out _ hq3.2.2).mono ?_)
              rintro e w4 ⟨vB, rfl, ⟨lB, tB, ysB, aB, _, cB, rfl, rfl, hTB, htB, hsB⟩, hb4⟩
              have g4 := (hb4.cell (p := ⟨bo, 2, none⟩) (cell_lt g3)).trans g3
              have g4a := (((Below.refl _ w4).alloc (Nat.le_refl _) (.cells #[.bool false, .string (tx (itoa K)), .slice none 0 0, .bool lA, .string tA, .slice aA ysA.length cA, .bool lB, .string tB, .slice aB ysB.length cB, .bool true, .string noText, .slice va2 N vc2] 61)).cell (p := ⟨bo, 2, none⟩) (cell_lt g4)).trans g4
              have hq4 := ol_call hb4 hq3
              refine hK.out _ _ ?_ (fun hHeld => ?_)
              · exact ⟨hq4, g4⟩
              clear hK KK
              try simp only [Act.put, List.setIfInBounds_toArray, List.set_cons_zero, List.set_cons_succ]
              refine til_one (i := 12) (o := ⟨some 73, .buildSlice 59 4 #[(0, .tmp 65), (1, .tmp 68), (2, .tmp 71), (3, .tmp 72)], 59, "ref.go:80", #[⟨4, .data⟩, ⟨7, .data⟩, ⟨10, .data⟩, ⟨11, .data⟩], none⟩) (by kernel_rfl) rfl (fun KK hK => ?_)
              go_simp
              refine hK.out _ _ ?_ (fun hHeld => ?_)
              · exact ⟨ol_alloc _ hq4, g4a⟩
              clear hK KK
              try simp only [Act.put, List.setIfInBounds_toArray, List.set_cons_zero, List.set_cons_succ]
              refine til_one (i := 13) (o := ⟨some 74, .call { callee := Callee.value (Operand.func 72), args := #[.tmp 73], argTypes := #[59] }, 61, "ref.go:80", #[⟨12, .data⟩, ⟨10, .chain⟩], none⟩) (by kernel_rfl) rfl (fun KK hK => ?_)
              go_simp
              go_at_call 72
              have hcq := chainQ hb2 hb3 hb4
              (with_reducible refine (rop_list2 (fun i => wo.heap.size ≤ i) w3 w4 (tx (itoa K)) HKS.out HL2.out hsA htA hb4 hsB htB (HSD.out.keep hcq) (Nat.le_trans hwoi hcq.size) (fun i hi => Nat.le_trans (Nat.le_trans hwoi hcq.size) hi)).mono ?_)
              rintro e w6 ⟨l6, n6, c6, rfl, hl6, hb6, hlz⟩
              obtain rfl : n6 = 4 := hl6
              obtain ⟨hv6, hv6a, a7, c7, w7, hr7, hc7, hf7, hq1, hq2, hq7, _⟩ := HPUSH.out w6 l6 c6 _ (chainR hb2 hb3 hb4 hb6).2 hlz
              have HR7 := Lib.hid hr7
              have HQ1 := Lib.hid hq1
              have HQ2 := Lib.hid hq2
              have HQ7 := Lib.hid hq7
              clear hr7 hq1 hq2 hq7 hcq
              have hq6 := ol_call hb6 (ol_alloc _ hq4)
              refine hK.out _ _ ?_ (fun hHeld => ?_)
              · exact ⟨hq6, hv6⟩
              clear hK KK
              try simp only [Act.put, List.setIfInBounds_toArray, List.set_cons_zero, List.set_cons_succ]
              refine til_one (i := 14) (o := ⟨some 75, .buildSlice 59 1 #[(0, .tmp 74)], 59, "ref.go:80", #[⟨13, .data⟩], none⟩) (by kernel_rfl) rfl (fun KK hK => ?_)
              go_simp
              refine hK.out _ _ ?_ (fun hHeld => ?_)
              · exact ⟨ol_alloc _ hq6, hv6a⟩
              clear hK KK
              try simp only [Act.put, List.setIfInBounds_toArray, List.set_cons_zero, List.set_cons_succ]
              refine til_one (i := 15) (o := ⟨some 76, .call { callee := Callee.builtin Builtin.append, args := #[.tmp 62, .tmp 75], argTypes := #[59, 59] }, 59, "ref.go:80", #[⟨1, .data⟩, ⟨14, .data⟩, ⟨13, .chain⟩], none⟩) (by kernel_rfl) rfl (fun KK hK => ?_)
              refine step_append_run rfl (.tmp 62) (.tmp 75) 59 59 rfl (by simp [Act.eval]) (by simp [Act.eval]) HR7.out ?_
              refine hK.out _ _ ?_ (fun hHeld => ?_)
              · exact ⟨ol_off HQ7.out HNO.out HNB.out HSW.out, hc7⟩
              clear hK KK
              try simp only [Act.put, List.setIfInBounds_toArray, List.set_cons_zero, List.set_cons_succ]
              refine tkT 16 ⟨some 77, .fieldAddr 61 (.tmp 5) 2, 0, "ref.go:80", #[⟨0, .phase⟩, ⟨1, .phase⟩, ⟨2, .phase⟩, ⟨3, .phase⟩, ⟨4, .phase⟩, ⟨5, .phase⟩, ⟨6, .phase⟩, ⟨7, .phase⟩, ⟨8, .phase⟩, ⟨9, .phase⟩, ⟨10, .phase⟩, ⟨11, .phase⟩, ⟨12, .phase⟩, ⟨13, .phase⟩, ⟨14, .phase⟩, ⟨15, .phase⟩], none⟩ ?_
              try simp only [Act.put, List.setIfInBounds_toArray, List.set_cons_zero, List.set_cons_succ]
              refine til_last (o := ⟨none, .store 59 (.tmp 77) (.tmp 76), 0, "ref.go:80", #[⟨16, .data⟩, ⟨15, .data⟩, ⟨15, .chain⟩, ⟨0, .phase⟩, ⟨1, .phase⟩, ⟨2, .phase⟩, ⟨3, .phase⟩, ⟨4, .phase⟩, ⟨5, .phase⟩, ⟨6, .phase⟩, ⟨7, .phase⟩, ⟨8, .phase⟩, ⟨9, .phase⟩, ⟨10, .phase⟩, ⟨11, .phase⟩, ⟨12, .phase⟩, ⟨13, .phase⟩, ⟨14, .phase⟩, ⟨15, .phase⟩], none⟩) (by kernel_rfl) rfl (by kernel_rfl) (fun KK hK => ?_)
              go_simp
              refine hK.out _ _ ?_
              clear hK KK
              try simp only [Act.put, List.setIfInBounds_toArray, List.set_cons_zero, List.set_cons_succ]
              have hys : Tm.mk true noText [txT (tx (itoa K)), .mk lA tA ysA, .mk lB tB ysB, .mk true noText (ls.map txT)] = opT ⟨K, ⟨ax, ay⟩, ⟨bx, bY⟩, ls⟩ := by
                show liT _ = liT _
                rw [← hTA, ← hTB]; rfl
              have HYS := Lib.hid hys
              have HOF := Lib.hid ((Off.of_below HBI2.out).trans HQ2.out)
              clear hys
              go_wp2_with fail
              exact ⟨⟨k + 1, _, _, by omega, by go_num, Lib.hid (by rw [List.length_append, HEL.out]; rfl), Lib.hid (by rw [List.map_append, HMP.out, take_snoc HX.out, List.map_append, List.map_singleton, List.map_singleton, ← HYS.out]), Lib.hid HQ1.out, Lib.hid (fp_off HOF.out (by omega) HFR.out), Lib.hid (HDR.out.off HOF.out hbo)⟩, by simp [intOf]; omega⟩
        · obtain rfl : k = n := by omega
          have hdo := HB.out.dep (T := p.ops.map opT) (by rw [HMP.out, List.take_of_length_le (by rw [← HN.out]; exact Nat.le_refl _)])
          obtain ⟨⟨k0, k1, k2⟩, ⟨hbw, hlt2⟩, ⟨r0, r1, r2⟩, f0, f1, f2⟩ := HFR.out
          have hst : F2S w b bo t (.slice da m dc) (.slice oa k oc) (.slice va m vc) (.slice wa k wc) wo.drew := ⟨HDR.out.c, hdo.c, ⟨⟨k0, k1, k2⟩, ⟨hbw.drew, hlt2⟩, ⟨r0, r1, r2⟩, f0, f1, f2⟩⟩
          have hsd : SlU (fun i => w.heap.size + 2 ≤ i) wo (.slice va m vc) (p.deps.map txT) := HDR.out.s.mono fun i _ hi => by omega
          have hso : SlU (fun i => w.heap.size + 2 ≤ i) wo (.slice wa k wc) (p.ops.map opT) := hdo.s.mono fun i _ hi => by omega
          have hts : t.size ≤ 140737488355328 := by rw [HT.out]; exact HF.out.note
          have hn1 : m = (p.deps.map txT).length := by rw [List.length_map]; exact HM.out
          have hn2 : k = (p.ops.map opT).length := by rw [List.length_map]; exact HN.out
          have HST := Lib.hid hst
          have HSD := Lib.hid hsd
          have HSO := Lib.hid hso
          have HTS := Lib.hid hts
          have HN1 := Lib.hid hn1
          have HN2 := Lib.hid hn2
          have hwl : w.heap.size + 2 ≤ wo.heap.size := by omega
          have cH : ∀ W : World, Calls Tryz.prog 73 #[.string ⟨#[116, 97, 109, 98, 111, 117, 114]⟩] W fun e w' => e = .returned (fv false headB (.slice none 0 0)) ∧ Below W.heap.size W w' := fun W => rtext_any headB W
          have CH := Lib.hid cH
          clear cH
          clear hst hsd hso hts hn1 hn2 hdo hbw r0 r1 r2 f0 f1 f2 HEL HMP HB HDR HFR
          go_wp2_with fail
          clear k0 k1 k2
          go_region_held3 (fun W => (W.cell? ⟨b, 0, none⟩ = some (.bool true) ∧ W.cell? ⟨b, 1, none⟩ = some (.string noText) ∧ W.cell? ⟨b, 2, none⟩ = some (.slice va m vc)) ∧ (W.cell? ⟨bo, 0, none⟩ = some (.bool true) ∧ W.cell? ⟨bo, 1, none⟩ = some (.string noText) ∧ W.cell? ⟨bo, 2, none⟩ = some (.slice wa k wc)) ∧ (W.cell? ⟨w.heap.size, 0, none⟩ = some (.string t) ∧ W.cell? ⟨w.heap.size, 1, none⟩ = some (.slice da m dc) ∧ W.cell? ⟨w.heap.size, 2, none⟩ = some (.slice oa k oc)) ∧ (Below w.heap.size w W ∧ w.heap.size + 1 < W.heap.size) ∧ (W.cell? ⟨w.heap.size + 1, 0, none⟩ = some (cellAt W ⟨w.heap.size + 1, 0, none⟩) ∧ W.cell? ⟨w.heap.size + 1, 1, none⟩ = some (cellAt W ⟨w.heap.size + 1, 1, none⟩) ∧ W.cell? ⟨w.heap.size + 1, 2, none⟩ = some (cellAt W ⟨w.heap.size + 1, 2, none⟩)) ∧ (W.frozen? ⟨w.heap.size + 1, 0, none⟩ = false ∧ W.frozen? ⟨w.heap.size + 1, 1, none⟩ = false ∧ W.frozen? ⟨w.heap.size + 1, 2, none⟩ = false))
            (first | with_reducible exact f2_call hb6 (by assumption) | with_reducible exact f2_call hb3 (by assumption) | with_reducible exact f2_call hb2 (by assumption) | with_reducible exact f2_alloc _ (by assumption) | with_reducible exact HST.out | with_reducible exact f2_set hb0 hbo (by assumption) _ _ _)
            (first
              | (go_at_call 73; (with_reducible refine (CH.out _).mono ?_); rintro e w2 ⟨rfl, hb2⟩)
              | (go_at_call 73; (with_reducible refine (rtext_any t _).mono ?_); rintro e w3 ⟨rfl, hb3⟩)
              | (go_at_call 72; have hq5 : F2S w b bo t (.slice da m dc) (.slice oa k oc) (.slice va m vc) (.slice wa k wc) _ := (by assumption); have hcq := chain3 hb2 hb3; (with_reducible refine (rpt_list (fun i => w.heap.size + 2 ≤ i) w3 headB t (by decide) HTS.out HN1.out HN2.out (HSD.out.keep hcq) (HSO.out.keep hcq) (Nat.le_trans hwl hcq.size) (fun i hi => Nat.le_trans (Nat.le_trans hwl hcq.size) hi)).mono ?_); rintro e w6 ⟨l6, n6, c6, rfl, hl6, hb6, hlz6⟩; obtain rfl : n6 = 4 := hl6; have hs6 := f2_call hb6 hq5))
          rename_i hHeld
          have hTm : Tm.mk true noText [txT headB, txT t, .mk true noText (p.deps.map txT), .mk true noText (p.ops.map opT)] = ptT p := by
            show liT _ = liT _
            rw [HT.out]; rfl
          have HKB := Lib.hid hHeld.2.2.2.1.1
          obtain ⟨z0, z1, z2⟩ := end3 (of_cellAt hs6.2.2.2.2.1.1) (of_cellAt hs6.2.2.2.2.1.2.1) (of_cellAt hs6.2.2.2.2.1.2.2) (.bool true) (.string noText) (.slice l6 4 c6)
          have HZ1 := Lib.hid (end3_sl (b := w.heap.size + 1) hlz6 (fun i hi e => by have hi' : w.heap.size + 2 ≤ i := hi; omega) (.bool true) (.string noText) (.slice l6 4 c6))
          have HTM := Lib.hid hTm
          clear hHeld hq5 hs6 hlz6 hb2 hb3 hb6 hTm hcq
          go_wp2_with fail
          refine bodyPost_ret (v := fv true noText (.slice l6 4 c6)) (by simp [results, Tryz.results34, go_sem, z0, z1, z2]) rfl ⟨_, rfl, ⟨true, noText, _, l6, 4, c6, rfl, rfl, HTM.out.symm, by decide, HZ1.out.mono fun i _ hi => HZN.out i (by have hi' : w.heap.size + 2 ≤ i := hi; omega)⟩, HKB.out⟩
end Go.Proofs.YtgjcblginkdinaaGreatDoor
