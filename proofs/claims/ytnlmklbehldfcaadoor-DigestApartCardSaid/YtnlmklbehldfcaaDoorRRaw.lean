/- The contracts of the document's Raw and Right. -/
import Derived.Test.YtnlmklbehldfcaaDoorRawFn
import Derived.Deep.RegionWith
set_option linter.unusedVariables false
namespace Go.Proofs.YtnlmklbehldfcaaDoor
open Go.ChangeShapes Go.WideShapes Go.ChangeAt Go.RowKit

attribute [local go_sem] bv_u8

set_option maxHeartbeats 2000000 in
set_option maxRecDepth 100000 in
theorem rraw_any (s : ByteArray) (w : World) (hs : s.size ≤ 1000000) :
    Calls Tryd.prog 14 #[.string s] w fun e w' => e = .returned (.tuple #[rawS (rawL s.data.toList), rawN (rawL s.data.toList)]) ∧ Below w.heap.size w w' := by
  have hl : s.data.toList.length = s.size := Array.length_toList
  have HL := Lib.hid hl
  by_cases hodd : s.size % 2 = 1
  · have t1 : (((s.size : Int) % 2) == 0) = false := by rw [beq_eq_false_iff_ne]; omega
    have hr := raw_odd (s.size / 2) s.data.toList (by omega)
    rw [hr]
    clear hl hr
    go_enter Tryd.func14, Tryd.ntmps14
    go_wp2
    go_ret2
    exact ⟨rfl, Below.refl _ _⟩
  · obtain ⟨h, hh⟩ : ∃ h, s.size = 2 * h := ⟨s.size / 2, by omega⟩
    have t3 : (((s.size : Int) % 2) != 0) = false := by simp; omega
    have hh5 : h ≤ 500000 := by omega
    have HH := Lib.hid hh
    clear hl hh
    go_enter Tryd.func14, Tryd.ntmps14
    go_wp2
    clear t3 hodd
    go_loopw [4, 5] (fun v iv wr => ∃ (i : Nat) (out : List UInt8), i % 2 = 0 ∧ i ≤ s.size ∧ iv = .int .i64 i ∧ Arr w.heap.size wr v (bys out) ∧ out.length ≤ s.size ∧ Hid (2 * out.length = i) ∧ Hid (rawL s.data.toList = (rawL (s.data.toList.drop i)).map (out ++ ·)) ∧ Below w.heap.size w wr) (fun _ iv _ => s.size - (intOf iv).toNat)
    case atStart => exact ⟨0, [], rfl, Nat.zero_le _, rfl, Arr.nil _ _, Nat.zero_le _, Lib.hid rfl, Lib.hid (by simp), Below.refl _ _⟩
    case round =>
      obtain ⟨i, out, hi2, hi, rfl, harr, hol, HO, HR, hbel⟩ := hrel
      have hsz := hbel.size
      obtain ⟨p0, q0, hv⟩ := harr.form
      rw [bys_len] at hv
      subst hv
      have HA := Lib.hid harr
      have HB := Lib.hid hbel
      by_cases hlt : i < s.size
      · have hlt1 : i + 1 < s.size := by have := HH.out; omega
        have h01 : (0 : Int) ≤ i := by omega
        have h02 : (i : Int) < s.size := by omega
        have h03 : (0 : Int) ≤ i + 1 := by omega
        have h04 : (i : Int) + 1 < s.size := by omega
        obtain ⟨a, ha⟩ : ∃ b, s[i] = b := ⟨_, rfl⟩
        obtain ⟨b, hb⟩ : ∃ b, s[i + 1] = b := ⟨_, rfl⟩
        have g1 : s.data.toList[i]? = some a := by rw [← ha]; exact Lib.data_getElem? s i hlt
        have g2 : s.data.toList[i + 1]? = some b := by rw [← hb]; exact Lib.data_getElem? s (i + 1) hlt1
        have G1 := Lib.hid g1
        have G2 := Lib.hid g2
        have a1 := dv_ge a
        have b1 := dv_ge b
        have a2 := dv_lt a
        have b2 := dv_lt b
        have hpv := pair_val a b
        obtain ⟨da, hda⟩ : ∃ d, dv a = d := ⟨_, rfl⟩
        obtain ⟨db, hdb⟩ : ∃ d, dv b = d := ⟨_, rfl⟩
        have hia : ∀ wx : World, Calls Tryd.prog 22 #[.int .u8 (bv a)] wx fun e w' => e = .returned (.int .i64 da) ∧ w' = wx := fun wx => by rw [← hda]; exact digit_any a wx
        have hib : ∀ wx : World, Calls Tryd.prog 22 #[.int .u8 (bv b)] wx fun e w' => e = .returned (.int .i64 db) ∧ w' = wx := fun wx => by rw [← hdb]; exact digit_any b wx
        rw [hda] at a1 a2 hpv
        rw [hdb] at b1 b2 hpv
        have HIA := Lib.hid hia
        have HIB := Lib.hid hib
        have HDA := Lib.hid hda
        have HDB := Lib.hid hdb
        have HI2 := Lib.hid hi2
        have HOL := Lib.hid hol
        clear hia hib hda hdb g1 g2 harr hbel hi2 hi
        obtain ⟨w0, rfl⟩ : ∃ w0, w0 = wr := ⟨wr, rfl⟩
        by_cases hx : da < 0
        · clear hpv
          go_wp2_with fail
          refine (HIA.out _).mono ?_
          rintro e w1 ⟨rfl, rfl⟩
          go_wp2
          go_ret2
          rw [raw_bad HR.out G1.out G2.out (.inl (by rw [HDA.out]; exact hx))]
          exact ⟨rfl, HB.out⟩
        · by_cases hy : db < 0
          · clear hpv
            go_wp2_with fail
            refine (HIA.out _).mono ?_
            rintro e w1 ⟨rfl, rfl⟩
            go_wp2_with fail
            refine (HIB.out _).mono ?_
            rintro e w1 ⟨rfl, rfl⟩
            go_wp2
            go_ret2
            rw [raw_bad HR.out G1.out G2.out (.inr (by rw [HDB.out]; exact hy))]
            exact ⟨rfl, HB.out⟩
          · have hpv' := hpv (by omega) (by omega)
            have q1 : IntKind.i64.wrap (da * 16) = da * 16 := by rw [IntKind.wrap_i64]; omega
            have q2 : IntKind.i64.wrap (da * 16 + db) = da * 16 + db := by rw [IntKind.wrap_i64]; omega
            have q3 : IntKind.i64.wrap ((i : Int) + 1) = (i : Int) + 1 := by rw [IntKind.wrap_i64]; omega
            have q4 : ((i : Int) + 1).toNat = i + 1 := by omega
            clear hpv
            go_wp2_with fail
            refine (HIA.out _).mono ?_
            rintro e w1 ⟨rfl, rfl⟩
            go_wp2_with fail
            refine (HIB.out _).mono ?_
            rintro e w1 ⟨rfl, rfl⟩
            go_wp2
            go_region_law (first
              | (refine step_append_arr rfl (.tmp 29) (.tmp 42) 32 rfl 5 (.int .u8 0) 1 Tryd.underlying32 Tryd.infoByte rfl w.heap.size (.slice p0 out.length q0) _ [.int .u8 (bv (pairB a b))] (by simp [Act.eval]) (by exact (HA.out.alloc _).drew) w1.heap.size 1 1 (by simp [Act.eval]) rfl (by intro j u' hj; rw [cell_drew]; exact news_new j u' hj) one1 (Nat.zero_lt_succ _) (by show _ ≤ (w1.alloc _).heap.size; rw [sizeAl]; omega) (by have := HOL.out; rw [bys_len]; show _ + 1 ≤ _; omega) (by decide) ?_; intro v4 w4 harr4 hb4; obtain ⟨a4, c4, h4⟩ := harr4.form; have HA4 := Lib.hid harr4; have HB4 := Lib.hid hb4; have H4 := Lib.hid h4; clear harr4 hb4 h4)
              | (go_simp; with_reducible refine (HIA.out _).mono ?_; rintro e w7 ⟨rfl, rfl⟩)
              | (go_simp; with_reducible refine (HIB.out _).mono ?_; rintro e w7 ⟨rfl, rfl⟩))
            all_goals go_wp2
            all_goals refine ⟨⟨i + 2, out ++ [pairB a b], by have := HI2.out; omega, by omega, by go_num, by rw [bys_app]; exact HA4.out, by have := HO.out; simp; omega, Lib.hid (by have := HO.out; simp; omega), Lib.hid (raw_go HR.out G1.out G2.out (by rw [HDA.out]; omega) (by rw [HDB.out]; omega)), (HB.out.alloc hsz _).drew.trans (by exact HB4.out)⟩, by simp [intOf]; omega⟩
      · have hie : i = s.size := by omega
        have hst := arr_string (P := Tryd.prog) harr 32 9 5 Tryd.underlying32 Tryd.underlying5 Tryd.underlying9
        have hre := raw_end HR.out (by rw [HL.out, hie]; exact Nat.le_refl _)
        have HRE := Lib.hid hre
        clear harr hbel hie hre
        go_wp2
        go_ret2
        rw [HRE.out]
        exact ⟨rfl, HB.out⟩

set_option maxHeartbeats 1000000 in
theorem rright_any (s : ByteArray) (w : World) (hs : s.size ≤ 1000000) :
    Calls Tryd.prog 16 #[.string s] w fun e w' => e = .returned (.bool (rightL s.data.toList)) ∧ Below w.heap.size w w' := by
  have hl : s.data.toList.length = s.size := Array.length_toList
  have hr := rraw_any s w hs
  obtain ⟨o, ho⟩ : ∃ o, rawL s.data.toList = o := ⟨_, rfl⟩
  have e1 : rightL s.data.toList = (decide (s.size = 64) && o.isSome) := by rw [rightL, hl, ho]
  rw [e1]
  rw [ho] at hr
  have HR := Lib.hid hr
  clear hr hl e1 ho
  by_cases h64 : s.size = 64
  · have t1 : ((s.size : Int) == 64) = true := by rw [beq_iff_eq]; omega
    go_enter Tryd.func16, Tryd.ntmps16
    go_wp2_with fail
    refine HR.out.mono ?_
    rintro e w1 ⟨rfl, hb⟩
    cases o with
    | none =>
      simp only [rawS, rawN]
      go_wp2
      go_ret
      exact ⟨by simp [h64], hb⟩
    | some m =>
      simp only [rawS, rawN]
      go_wp2
      go_ret
      exact ⟨by simp [h64], hb⟩
  · have t1 : ((s.size : Int) == 64) = false := by rw [beq_eq_false_iff_ne]; omega
    go_enter Tryd.func16, Tryd.ntmps16
    go_wp2_with fail
    refine HR.out.mono ?_
    rintro e w1 ⟨rfl, hb⟩
    cases o with
    | none =>
      simp only [rawS, rawN]
      go_wp2
      go_ret
      exact ⟨by simp [h64], hb⟩
    | some m =>
      simp only [rawS, rawN]
      go_wp2
      go_ret
      exact ⟨by simp [h64], hb⟩
end Go.Proofs.YtnlmklbehldfcaaDoor
