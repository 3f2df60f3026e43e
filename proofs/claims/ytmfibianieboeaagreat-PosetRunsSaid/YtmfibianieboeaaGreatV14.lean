/- The contract of among. -/
import Derived.Deep.OwnRows
import Derived.Test.YtmfibianieboeaaGreatV13
import Derived.Test.YtmfibianieboeaaGreatV5
set_option linter.unusedVariables false
namespace Go.Proofs.YtmfibianieboeaaGreat
open Go.ChangeShapes Go.WideShapes Go.ChangeAt Go.RowKit

theorem infoPr : (Tryz.prog.info? 36).map (fun i => (i.zero, i.size, i.bytes)) = some (some (.agg #[.int .i64 0, .int .i64 0]), 2, 16) := by kernel_rfl
theorem onePr {j k : IntKind} {x y : Int} : ∀ u ∈ [Value.int j x, Value.int k y], u.oneCell' = true := by
  intro u hu
  simp at hu
  rcases hu with rfl | rfl <;> rfl
theorem make_pr (n : Nat) (hn : n ≤ 1000000) (w : World) :
    (Instr.makeSlice 22 (.int .i64 0) (.int .i64 (n : Int))).run Tryz.prog w = .ok (.slice (some ⟨w.heap.size, 0, none⟩) 0 n) (w.alloc (.cells (madeCells #[.int .i64 0, .int .i64 0] (n * 2)) 36)) := by
  obtain ⟨i, hi, hzz⟩ := Option.map_eq_some_iff.1 infoPr
  simp only [Prod.mk.injEq] at hzz
  obtain ⟨hz, hsize, hby⟩ := hzz
  have hr := run_make (P := Tryz.prog) w 22 36 i _ Tryz.underlying22 hi hz .i64 .i64 0 n (Int.le_refl _) (by omega) (by rw [hby]; omega) (by omega)
  simp only [Int.toNat_natCast, hsize] at hr
  exact hr
theorem make_ik (n : Nat) (hn : n ≤ 10000000) (w : World) :
    (Instr.makeSlice 23 (.int .i64 0) (.int .i64 (n : Int))).run Tryz.prog w = .ok (.slice (some ⟨w.heap.size, 0, none⟩) 0 n) (w.alloc (.cells (madeCells #[.int .i64 0] n) 3)) := by
  obtain ⟨i, hi, hzz⟩ := Option.map_eq_some_iff.1 infoIk
  simp only [Prod.mk.injEq] at hzz
  obtain ⟨hz, hsize, hby⟩ := hzz
  have hr := run_make (P := Tryz.prog) w 23 3 i _ Tryz.underlying23 hi hz .i64 .i64 0 n (Int.le_refl _) (by omega) (by rw [hby]; omega) (by omega)
  simp only [Int.toNat_natCast, hsize, Nat.mul_one] at hr
  exact hr
set_option maxHeartbeats 2000000 in
set_option maxRecDepth 100000 in
theorem among_any (n : Int) (es : Ed) (v : Value) (w : World) (hr : RE w v es) (hl : es.length ≤ 1000000) :
    Calls Tryz.prog 43 #[.int .i64 n, v] w fun e W' => ∃ ov, e = .returned ov ∧ Row 2 w.heap.size W' ov (amongL n es).length (evs (amongL n es)) ∧ Below w.heap.size w W' := by
  obtain ⟨va, vc, rfl⟩ := hr.form
  obtain ⟨m, hm⟩ : ∃ m, m = es.length := ⟨_, rfl⟩
  rw [← hm] at hr hl ⊢
  have HR := Lib.hid hr
  have HM := Lib.hid hm
  have mk1 := make_pr m hl
  clear hr hm
  go_enter Tryz.func43, Tryz.ntmps43
  go_wp2_with fail
  have hr0 : Row 2 w.heap.size (w.alloc (.cells (madeCells #[.int .i64 0, .int .i64 0] (m * 2)) 36)) (.slice (some ⟨w.heap.size, 0, none⟩) 0 m) 0 [] := row_new (Nat.le_refl _) rfl (Nat.zero_le _) (by unfold maxLen; omega) (by simp [size_madeCells]) (.inl rfl) (fun j u hu => by simp at hu)
  have HR0 := Lib.hid hr0
  have HB0 := Lib.hid ((Below.refl _ w).alloc (Nat.le_refl _) (.cells (madeCells #[.int .i64 0, .int .i64 0] (m * 2)) 36))
  clear hr0
  go_loopw [5, 13] (fun ov jv wr => ∃ i k : Nat, jv = .int .i64 (i : Nat) ∧ i ≤ m ∧ Hid (k = (amongL n (es.take i)).length) ∧ Hid (Row 2 w.heap.size wr ov k (evs (amongL n (es.take i)))) ∧ Hid (Below w.heap.size w wr)) (fun _ jv _ => m - (intOf jv).toNat)
  case atStart => exact ⟨0, 0, rfl, Nat.zero_le _, Lib.hid (by simp [amongL]), Lib.hid (by simpa [amongL, evs] using HR0.out), HB0⟩
  case round =>
    obtain ⟨i, k, rfl, him, HK, HW, HB⟩ := hrel
    obtain ⟨oa, oc, rfl⟩ := HW.out.form
    by_cases hlt : i < m
    · obtain ⟨e, he⟩ : ∃ e, es[i]? = some e := ⟨es[i]'(by rw [← HM.out]; exact hlt), by simp⟩
      obtain ⟨e1, e2⟩ := e
      obtain ⟨b, o, rfl, hbl, hvc1, hvc2, d0, d1⟩ := (HR.out.below HB.out).at he
      simp only at d0 d1
      have hk6 : k ≤ 1000000 := by
        have h1 : (amongL n (es.take i)).length ≤ (es.take i).length := List.length_filter_le _ _
        rw [List.length_take, ← HK.out] at h1
        omega
      unfold maxLen at hvc2
      rcases Int.lt_or_le e2 e1 with hle | hle
      · have hle2 : ¬ e1 < e2 := by omega
        have hle3 : ¬ e1 ≤ e2 := by omega
        by_cases hA : 0 ≤ e2
        · by_cases hB : e1 < n
          · have hB2 : ¬ n ≤ e1 := by omega
            have hst : amongL n (es.take (i + 1)) = amongL n (es.take i) ++ [(e1, e2)] := by rw [amongL_take he, show rightP n (e1, e2) = true from rightP_iff.2 ⟨by omega, by omega, by omega, by omega⟩]; rfl
            have HST := Lib.hid hst
            have hsrc : Src Tryz.prog 2 22 (.slice (some ⟨wr.heap.size + 1, 0, none⟩) 1 1) 1 [.int .i64 e1, .int .i64 e2] ((wr.alloc (.cells #[.int .i64 e1, .int .i64 e2] 36)).alloc (.cells #[.int .i64 e1, .int .i64 e2] 36)) := by
              have h := src_new (k := 2) (w := wr.alloc (.cells #[.int .i64 e1, .int .i64 e2] 36)) Tryz.underlying22 [.int .i64 e1, .int .i64 e2] 1 36 1 rfl onePr
              simpa using h
            have HSRC := Lib.hid hsrc
            have HRA := Lib.hid ((HW.out.alloc (.cells #[.int .i64 e1, .int .i64 e2] 36)).alloc (.cells #[.int .i64 e1, .int .i64 e2] 36))
            have hszw : w.heap.size ≤ ((wr.alloc (.cells #[.int .i64 e1, .int .i64 e2] 36)).alloc (.cells #[.int .i64 e1, .int .i64 e2] 36)).heap.size := by have := HB.out.size; simp; omega
            have HBA := Lib.hid ((HB.out.alloc HB.out.size (.cells #[.int .i64 e1, .int .i64 e2] 36)).alloc (by have := HB.out.size; simp; omega) (.cells #[.int .i64 e1, .int .i64 e2] 36))
            clear hst hsrc he
            go_wp2_with (at_builtin; refine wpList_append_row rfl (.tmp 32) (.tmp 34) 22 22 rfl 2 36 (.agg #[.int .i64 0, .int .i64 0]) 16 Tryz.underlying22 infoPr rfl w.heap.size (.slice oa k oc) k (evs (amongL n (es.take i))) (by simp [Act.eval]) HRA.out (.slice (some ⟨wr.heap.size + 1, 0, none⟩) 1 1) (by simp [Act.eval]) 1 [.int .i64 e1, .int .i64 e2] HSRC.out hszw (by omega) (by decide) ?_; intro v6 w6 hr6 ho6 hw6; obtain ⟨a6, c6, hv6⟩ := hr6.form; subst hv6; have HR6 := Lib.hid hr6; have HO6 := Lib.hid ho6; clear hr6 ho6 hw6)
            refine ⟨⟨i + 1, k + 1, by go_num, by omega, Lib.hid (by rw [HST.out, List.length_append, ← HK.out]; rfl), Lib.hid (by rw [HST.out, evs_snoc]; exact HR6.out), Lib.hid (HBA.out.trans (HO6.out.below (B := w.heap.size) (fun b hb => (HW.out.lt b hb).1) hszw))⟩, by simp [intOf]; omega⟩
          · have hB2 : n ≤ e1 := by omega
            have hst : amongL n (es.take (i + 1)) = amongL n (es.take i) := by rw [amongL_take he, show rightP n (e1, e2) = false from Bool.eq_false_iff.2 (fun h => by have := rightP_iff.1 h; omega)]; simp
            have HST := Lib.hid hst
            clear hst he
            go_wp2_with fail
            exact ⟨⟨i + 1, k, by go_num, by omega, Lib.hid (by rw [HST.out]; exact HK.out), Lib.hid (by rw [HST.out]; exact HW.out.alloc _), Lib.hid (HB.out.alloc HB.out.size _)⟩, by simp [intOf]; omega⟩
        · have hA2 : e2 < 0 := by omega
          have hst : amongL n (es.take (i + 1)) = amongL n (es.take i) := by rw [amongL_take he, show rightP n (e1, e2) = false from Bool.eq_false_iff.2 (fun h => by have := rightP_iff.1 h; omega)]; simp
          have HST := Lib.hid hst
          clear hst he
          go_wp2_with fail
          exact ⟨⟨i + 1, k, by go_num, by omega, Lib.hid (by rw [HST.out]; exact HK.out), Lib.hid (by rw [HST.out]; exact HW.out.alloc _), Lib.hid (HB.out.alloc HB.out.size _)⟩, by simp [intOf]; omega⟩
      · have hle2 : ¬ e2 < e1 := by omega
        by_cases hA : 0 ≤ e1
        · by_cases hB : e2 < n
          · have hB2 : ¬ n ≤ e2 := by omega
            have hst : amongL n (es.take (i + 1)) = amongL n (es.take i) ++ [(e1, e2)] := by rw [amongL_take he, show rightP n (e1, e2) = true from rightP_iff.2 ⟨by omega, by omega, by omega, by omega⟩]; rfl
            have HST := Lib.hid hst
            have hsrc : Src Tryz.prog 2 22 (.slice (some ⟨wr.heap.size + 1, 0, none⟩) 1 1) 1 [.int .i64 e1, .int .i64 e2] ((wr.alloc (.cells #[.int .i64 e1, .int .i64 e2] 36)).alloc (.cells #[.int .i64 e1, .int .i64 e2] 36)) := by
              have h := src_new (k := 2) (w := wr.alloc (.cells #[.int .i64 e1, .int .i64 e2] 36)) Tryz.underlying22 [.int .i64 e1, .int .i64 e2] 1 36 1 rfl onePr
              simpa using h
            have HSRC := Lib.hid hsrc
            have HRA := Lib.hid ((HW.out.alloc (.cells #[.int .i64 e1, .int .i64 e2] 36)).alloc (.cells #[.int .i64 e1, .int .i64 e2] 36))
            have hszw : w.heap.size ≤ ((wr.alloc (.cells #[.int .i64 e1, .int .i64 e2] 36)).alloc (.cells #[.int .i64 e1, .int .i64 e2] 36)).heap.size := by have := HB.out.size; simp; omega
            have HBA := Lib.hid ((HB.out.alloc HB.out.size (.cells #[.int .i64 e1, .int .i64 e2] 36)).alloc (by have := HB.out.size; simp; omega) (.cells #[.int .i64 e1, .int .i64 e2] 36))
            clear hst hsrc he
            go_wp2_with (at_builtin; refine wpList_append_row rfl (.tmp 32) (.tmp 34) 22 22 rfl 2 36 (.agg #[.int .i64 0, .int .i64 0]) 16 Tryz.underlying22 infoPr rfl w.heap.size (.slice oa k oc) k (evs (amongL n (es.take i))) (by simp [Act.eval]) HRA.out (.slice (some ⟨wr.heap.size + 1, 0, none⟩) 1 1) (by simp [Act.eval]) 1 [.int .i64 e1, .int .i64 e2] HSRC.out hszw (by omega) (by decide) ?_; intro v6 w6 hr6 ho6 hw6; obtain ⟨a6, c6, hv6⟩ := hr6.form; subst hv6; have HR6 := Lib.hid hr6; have HO6 := Lib.hid ho6; clear hr6 ho6 hw6)
            refine ⟨⟨i + 1, k + 1, by go_num, by omega, Lib.hid (by rw [HST.out, List.length_append, ← HK.out]; rfl), Lib.hid (by rw [HST.out, evs_snoc]; exact HR6.out), Lib.hid (HBA.out.trans (HO6.out.below (B := w.heap.size) (fun b hb => (HW.out.lt b hb).1) hszw))⟩, by simp [intOf]; omega⟩
          · have hB2 : n ≤ e2 := by omega
            have hst : amongL n (es.take (i + 1)) = amongL n (es.take i) := by rw [amongL_take he, show rightP n (e1, e2) = false from Bool.eq_false_iff.2 (fun h => by have := rightP_iff.1 h; omega)]; simp
            have HST := Lib.hid hst
            clear hst he
            go_wp2_with fail
            exact ⟨⟨i + 1, k, by go_num, by omega, Lib.hid (by rw [HST.out]; exact HK.out), Lib.hid (by rw [HST.out]; exact HW.out.alloc _), Lib.hid (HB.out.alloc HB.out.size _)⟩, by simp [intOf]; omega⟩
        · have hA2 : e1 < 0 := by omega
          have hst : amongL n (es.take (i + 1)) = amongL n (es.take i) := by rw [amongL_take he, show rightP n (e1, e2) = false from Bool.eq_false_iff.2 (fun h => by have := rightP_iff.1 h; omega)]; simp
          have HST := Lib.hid hst
          clear hst he
          go_wp2_with fail
          exact ⟨⟨i + 1, k, by go_num, by omega, Lib.hid (by rw [HST.out]; exact HK.out), Lib.hid (by rw [HST.out]; exact HW.out.alloc _), Lib.hid (HB.out.alloc HB.out.size _)⟩, by simp [intOf]; omega⟩
    · have hie : m = i := by omega
      subst hie
      have hf := HW.out
      rw [HM.out, List.take_length] at hf
      have HF := Lib.hid hf
      have hkk := HK.out
      rw [HM.out, List.take_length] at hkk
      have HKK := Lib.hid hkk
      clear hf hkk
      go_wp2_with fail
      go_ret
      exact ⟨_, rfl, by rw [← HKK.out]; exact HF.out, HB.out⟩
end Go.Proofs.YtmfibianieboeaaGreat
