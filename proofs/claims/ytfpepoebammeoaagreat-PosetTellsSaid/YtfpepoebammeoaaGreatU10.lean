/- The contract of among. Of package poset: has, place. -/
import Derived.Deep.OwnRows
import Derived.Test.YtfpepoebammeoaaGreatShelf
import Derived.Test.YtfpepoebammeoaaGreatU2
import Derived.Test.YtfpepoebammeoaaGreatU5
import Derived.Test.YtfpepoebammeoaaGreatU6
set_option linter.unusedVariables false
namespace Go.Proofs.YtfpepoebammeoaaGreat
open Go.ChangeShapes Go.WideShapes Go.ChangeAt Go.RowKit

theorem infoPr : (Tryz.prog.info? 36).map (fun i => (i.zero, i.size, i.bytes)) = some (some (.agg #[.int .i64 0, .int .i64 0]), 2, 16) := by kernel_rfl
theorem onePr {j k : IntKind} {x y : Int} : ∀ u ∈ [Value.int j x, Value.int k y], u.oneCell' = true := by
  intro u hu
  simp at hu
  rcases hu with rfl | rfl <;> rfl
theorem make_pr (n : Nat) (hn : n ≤ 1000000) (w : World) :
    (Instr.makeSlice 22 (.int .i64 0) (.int .i64 (n : Int))).run Tryz.prog w = .ok (.slice (some ⟨w.heap.size, 0, none⟩) 0 n) (w.alloc (.cells (madeCells #[.int .i64 0, .int .i64 0] (n * 2)) 36)) := by
  obtain ⟨i, hi, hzz⟩ := Option.map_eq_some_iff.1 infoPr
  simp only [Prod.mk.injEq] at hzz
  obtain ⟨hz, hsize, hby⟩ := hzz
  have hr := run_make (P := Tryz.prog) w 22 36 i _ Tryz.underlying22 hi hz .i64 .i64 0 n (Int.le_refl _) (by omega) (by rw [hby]; omega) (by omega)
  simp only [Int.toNat_natCast, hsize] at hr
  exact hr
theorem make_ik (n : Nat) (hn : n ≤ 10000000) (w : World) :
    (Instr.makeSlice 23 (.int .i64 0) (.int .i64 (n : Int))).run Tryz.prog w = .ok (.slice (some ⟨w.heap.size, 0, none⟩) 0 n) (w.alloc (.cells (madeCells #[.int .i64 0] n) 3)) := by
  obtain ⟨i, hi, hzz⟩ := Option.map_eq_some_iff.1 infoIk
  simp only [Prod.mk.injEq] at hzz
  obtain ⟨hz, hsize, hby⟩ := hzz
  have hr := run_make (P := Tryz.prog) w 23 3 i _ Tryz.underlying23 hi hz .i64 .i64 0 n (Int.le_refl _) (by omega) (by rw [hby]; omega) (by omega)
  simp only [Int.toNat_natCast, hsize, Nat.mul_one] at hr
  exact hr
set_option maxHeartbeats 2000000 in
set_option maxRecDepth 100000 in
theorem among_any (n : Int) (es : Ed) (v : Value) (w : World) (hr : RE w v es) (hl : es.length ≤ 1000000) :
    Calls Tryz.prog 43 #[.int .i64 n, v] w fun e W' => ∃ ov, e = .returned ov ∧ Row 2 w.heap.size W' ov (amongL n es).length (evs (amongL n es)) ∧ Below w.heap.size w W' := by
  obtain ⟨va, vc, rfl⟩ := hr.form
  obtain ⟨m, hm⟩ : ∃ m, m = es.length := ⟨_, rfl⟩
  rw [← hm] at hr hl ⊢
  have HR := Lib.hid hr
  have HM := Lib.hid hm
  have mk1 := make_pr m hl
  clear hr hm
  go_enter Tryz.func43, Tryz.ntmps43
  go_wp2_with fail
  have hr0 : Row 2 w.heap.size (w.alloc (.cells (madeCells #[.int .i64 0, .int .i64 0] (m * 2)) 36)) (.slice (some ⟨w.heap.size, 0, none⟩) 0 m) 0 [] := row_new (Nat.le_refl _) rfl (Nat.zero_le _) (by unfold maxLen; omega) (by simp [size_madeCells]) (.inl rfl) (fun j u hu => by simp at hu)
  have HR0 := Lib.hid hr0
  have HB0 := Lib.hid ((Below.refl _ w).alloc (Nat.le_refl _) (.cells (madeCells #[.int .i64 0, .int .i64 0] (m * 2)) 36))
  clear hr0
  go_loopw [5, 13] (fun ov jv wr => ∃ i k : Nat, jv = .int .i64 (i : Nat) ∧ i ≤ m ∧ Hid (k = (amongL n (es.take i)).length) ∧ Hid (Row 2 w.heap.size wr ov k (evs (amongL n (es.take i)))) ∧ Hid (Below w.heap.size w wr)) (fun _ jv _ => m - (intOf jv).toNat)
  case atStart => exact ⟨0, 0, rfl, Nat.zero_le _, Lib.hid (by simp [amongL]), Lib.hid (by simpa [amongL, evs] using HR0.out), HB0⟩
  case round =>
    obtain ⟨i, k, rfl, him, HK, HW, HB⟩ := hrel
    obtain ⟨oa, oc, rfl⟩ := HW.out.form
    by_cases hlt : i < m
    · obtain ⟨e, he⟩ : ∃ e, es[i]? = some e := ⟨es[i]'(by rw [← HM.out]; exact hlt), by simp⟩
      obtain ⟨e1, e2⟩ := e
      obtain ⟨b, o, rfl, hbl, hvc1, hvc2, d0, d1⟩ := (HR.out.below HB.out).at he
      simp only at d0 d1
      have hk6 : k ≤ 1000000 := by
        have h1 : (amongL n (es.take i)).length ≤ (es.take i).length := List.length_filter_le _ _
        rw [List.length_take, ← HK.out] at h1
        omega
      unfold maxLen at hvc2
      rcases Int.lt_or_le e2 e1 with hle | hle
      · have hle2 : ¬ e1 < e2 := by omega
        have hle3 : ¬ e1 ≤ e2 := by omega
        by_cases hA : 0 ≤ e2
        · by_cases hB : e1 < n
          · have hB2 : ¬ n ≤ e1 := by omega
            have hst : amongL n (es.take (i + 1)) = amongL n (es.take i) ++ [(e1, e2)] := by rw [amongL_take he, show rightP n (e1, e2) = true from rightP_iff.2 ⟨by omega, by omega, by omega, by omega⟩]; rfl
            have HST := Lib.hid hst
            have hsrc : Src Tryz.prog 2 22 (.slice (some ⟨wr.heap.size + 1, 0, none⟩) 1 1) 1 [.int .i64 e1, .int .i64 e2] ((wr.alloc (.cells #[.int .i64 e1, .int .i64 e2] 36)).alloc (.cells #[.int .i64 e1, .int .i64 e2] 36)) := by
              have h := src_new (k := 2) (w := wr.alloc (.cells #[.int .i64 e1, .int .i64 e2] 36)) Tryz.underlying22 [.int .i64 e1, .int .i64 e2] 1 36 1 rfl onePr
              simpa using h
            have HSRC := Lib.hid hsrc
            have HRA := Lib.hid ((HW.out.alloc (.cells #[.int .i64 e1, .int .i64 e2] 36)).alloc (.cells #[.int .i64 e1, .int .i64 e2] 36))
            have hszw : w.heap.size ≤ ((wr.alloc (.cells #[.int .i64 e1, .int .i64 e2] 36)).alloc (.cells #[.int .i64 e1, .int .i64 e2] 36)).heap.size := by have := HB.out.size; simp; omega
            have HBA := Lib.hid ((HB.out.alloc HB.out.size (.cells #[.int .i64 e1, .int .i64 e2] 36)).alloc (by have := HB.out.size; simp; omega) (.cells #[.int .i64 e1, .int .i64 e2] 36))
            clear hst hsrc he
            go_wp2_with (at_builtin; refine wpList_append_row rfl (.tmp 32) (.tmp 34) 22 22 rfl 2 36 (.agg #[.int .i64 0, .int .i64 0]) 16 Tryz.underlying22 infoPr rfl w.heap.size (.slice oa k oc) k (evs (amongL n (es.take i))) (by simp [Act.eval]) HRA.out (.slice (some ⟨wr.heap.size + 1, 0, none⟩) 1 1) (by simp [Act.eval]) 1 [.int .i64 e1, .int .i64 e2] HSRC.out hszw (by omega) (by decide) ?_; intro v6 w6 hr6 ho6 hw6; obtain ⟨a6, c6, hv6⟩ := hr6.form; subst hv6; have HR6 := Lib.hid hr6; have HO6 := Lib.hid ho6; clear hr6 ho6 hw6)
            refine ⟨⟨i + 1, k + 1, by go_num, by omega, Lib.hid (by rw [HST.out, List.length_append, ← HK.out]; rfl), Lib.hid (by rw [HST.out, evs_snoc]; exact HR6.out), Lib.hid (HBA.out.trans (HO6.out.below (B := w.heap.size) (fun b hb => (HW.out.lt b hb).1) hszw))⟩, by simp [intOf]; omega⟩
          · have hB2 : n ≤ e1 := by omega
            have hst : amongL n (es.take (i + 1)) = amongL n (es.take i) := by rw [amongL_take he, show rightP n (e1, e2) = false from Bool.eq_false_iff.2 (fun h => by have := rightP_iff.1 h; omega)]; simp
            have HST := Lib.hid hst
            clear hst he
            go_wp2_with fail
            exact ⟨⟨i + 1, k, by go_num, by omega, Lib.hid (by rw [HST.out]; exact HK.out), Lib.hid (by rw [HST.out]; exact HW.out.alloc _), Lib.hid (HB.out.alloc HB.out.size _)⟩, by simp [intOf]; omega⟩
        · have hA2 : e2 < 0 := by omega
          have hst : amongL n (es.take (i + 1)) = amongL n (es.take i) := by rw [amongL_take he, show rightP n (e1, e2) = false from Bool.eq_false_iff.2 (fun h => by have := rightP_iff.1 h; omega)]; simp
          have HST := Lib.hid hst
          clear hst he
          go_wp2_with fail
          exact ⟨⟨i + 1, k, by go_num, by omega, Lib.hid (by rw [HST.out]; exact HK.out), Lib.hid (by rw [HST.out]; exact HW.out.alloc _), Lib.hid (HB.out.alloc HB.out.size _)⟩, by simp [intOf]; omega⟩
      · have hle2 : ¬ e2 < e1 := by omega
        by_cases hA : 0 ≤ e1
        · by_cases hB : e2 < n
          · have hB2 : ¬ n ≤ e2 := by omega
            have hst : amongL n (es.take (i + 1)) = amongL n (es.take i) ++ [(e1, e2)] := by rw [amongL_take he, show rightP n (e1, e2) = true from rightP_iff.2 ⟨by omega, by omega, by omega, by omega⟩]; rfl
            have HST := Lib.hid hst
            have hsrc : Src Tryz.prog 2 22 (.slice (some ⟨wr.heap.size + 1, 0, none⟩) 1 1) 1 [.int .i64 e1, .int .i64 e2] ((wr.alloc (.cells #[.int .i64 e1, .int .i64 e2] 36)).alloc (.cells #[.int .i64 e1, .int .i64 e2] 36)) := by
              have h := src_new (k := 2) (w := wr.alloc (.cells #[.int .i64 e1, .int .i64 e2] 36)) Tryz.underlying22 [.int .i64 e1, .int .i64 e2] 1 36 1 rfl onePr
              simpa using h
            have HSRC := Lib.hid hsrc
            have HRA := Lib.hid ((HW.out.alloc (.cells #[.int .i64 e1, .int .i64 e2] 36)).alloc (.cells #[.int .i64 e1, .int .i64 e2] 36))
            have hszw : w.heap.size ≤ ((wr.alloc (.cells #[.int .i64 e1, .int .i64 e2] 36)).alloc (.cells #[.int .i64 e1, .int .i64 e2] 36)).heap.size := by have := HB.out.size; simp; omega
            have HBA := Lib.hid ((HB.out.alloc HB.out.size (.cells #[.int .i64 e1, .int .i64 e2] 36)).alloc (by have := HB.out.size; simp; omega) (.cells #[.int .i64 e1, .int .i64 e2] 36))
            clear hst hsrc he
            go_wp2_with (at_builtin; refine wpList_append_row rfl (.tmp 32) (.tmp 34) 22 22 rfl 2 36 (.agg #[.int .i64 0, .int .i64 0]) 16 Tryz.underlying22 infoPr rfl w.heap.size (.slice oa k oc) k (evs (amongL n (es.take i))) (by simp [Act.eval]) HRA.out (.slice (some ⟨wr.heap.size + 1, 0, none⟩) 1 1) (by simp [Act.eval]) 1 [.int .i64 e1, .int .i64 e2] HSRC.out hszw (by omega) (by decide) ?_; intro v6 w6 hr6 ho6 hw6; obtain ⟨a6, c6, hv6⟩ := hr6.form; subst hv6; have HR6 := Lib.hid hr6; have HO6 := Lib.hid ho6; clear hr6 ho6 hw6)
            refine ⟨⟨i + 1, k + 1, by go_num, by omega, Lib.hid (by rw [HST.out, List.length_append, ← HK.out]; rfl), Lib.hid (by rw [HST.out, evs_snoc]; exact HR6.out), Lib.hid (HBA.out.trans (HO6.out.below (B := w.heap.size) (fun b hb => (HW.out.lt b hb).1) hszw))⟩, by simp [intOf]; omega⟩
          · have hB2 : n ≤ e2 := by omega
            have hst : amongL n (es.take (i + 1)) = amongL n (es.take i) := by rw [amongL_take he, show rightP n (e1, e2) = false from Bool.eq_false_iff.2 (fun h => by have := rightP_iff.1 h; omega)]; simp
            have HST := Lib.hid hst
            clear hst he
            go_wp2_with fail
            exact ⟨⟨i + 1, k, by go_num, by omega, Lib.hid (by rw [HST.out]; exact HK.out), Lib.hid (by rw [HST.out]; exact HW.out.alloc _), Lib.hid (HB.out.alloc HB.out.size _)⟩, by simp [intOf]; omega⟩
        · have hA2 : e1 < 0 := by omega
          have hst : amongL n (es.take (i + 1)) = amongL n (es.take i) := by rw [amongL_take he, show rightP n (e1, e2) = false from Bool.eq_false_iff.2 (fun h => by have := rightP_iff.1 h; omega)]; simp
          have HST := Lib.hid hst
          clear hst he
          go_wp2_with fail
          exact ⟨⟨i + 1, k, by go_num, by omega, Lib.hid (by rw [HST.out]; exact HK.out), Lib.hid (by rw [HST.out]; exact HW.out.alloc _), Lib.hid (HB.out.alloc HB.out.size _)⟩, by simp [intOf]; omega⟩
    · have hie : m = i := by omega
      subst hie
      have hf := HW.out
      rw [HM.out, List.take_length] at hf
      have HF := Lib.hid hf
      have hkk := HK.out
      rw [HM.out, List.take_length] at hkk
      have HKK := Lib.hid hkk
      clear hf hkk
      go_wp2_with fail
      go_ret
      exact ⟨_, rfl, by rw [← HKK.out]; exact HF.out, HB.out⟩
end Go.Proofs.YtfpepoebammeoaaGreat
set_option linter.unusedVariables false
set_option linter.unusedSimpArgs false
namespace Go.Proofs.YtfpepoebammeoaaGreat
open Go.ChangeShapes Go.WideShapes Go.ChangeAt Go.RowKit

theorem has_nil (t : Int) (w : World) : Calls Tryz.prog 30 #[.pointer none, .int .i64 t] w fun e w' => e = .returned (.bool false) ∧ w' = w := by
  go_enter Tryz.func30, Tryz.ntmps30
  go_wp2_with fail
  go_ret
  exact ⟨rfl, rfl⟩
theorem has_any (p : Nat) (n t : Int) (w : World) (h0 : w.cell? ⟨p, 0, none⟩ = some (.int .i64 n)) : Calls Tryz.prog 30 #[.pointer (some ⟨p, 0, none⟩), .int .i64 t] w fun e w' => e = .returned (.bool (hasB n t)) ∧ w' = w := by
  unfold hasB
  by_cases h1 : 0 ≤ t
  · by_cases h2 : t < n
    · rw [decide_eq_true h1, decide_eq_true h2]
      go_enter Tryz.func30, Tryz.ntmps30
      go_wp2_with fail
      go_ret
      exact ⟨rfl, rfl⟩
    · rw [decide_eq_true h1, decide_eq_false h2]
      go_enter Tryz.func30, Tryz.ntmps30
      go_wp2_with fail
      go_ret
      exact ⟨rfl, rfl⟩
  · rw [decide_eq_false h1]
    go_enter Tryz.func30, Tryz.ntmps30
    go_wp2_with fail
    go_ret
    exact ⟨rfl, rfl⟩

theorem search_any (l : List Int) (v : Value) (x : Int) (w : World) (hr : RI w v l) (hs : l.Pairwise (· < ·)) (hl : l.length ≤ 1000000) :
    Calls Tryz.prog 42 #[v, .int .i64 x] w fun e w' => e = .returned (.tuple #[.int .i64 (l.countP (· < x) : Nat), .bool (l.contains x)]) ∧ ∃ q, w' = w.drewN q := by
  rcases hr with ⟨rfl, a, c, rfl⟩ | ⟨hn, b, o, c, rfl, hc, hm, hb, hx⟩
  · refine (Tryz.slices_BinarySearch_int_empty a c x w).mono ?_
    rintro e w' ⟨rfl, rfl⟩
    exact ⟨rfl, 0, rfl⟩
  · have h := Tryz.slices_BinarySearch_int b o l.length c l x w (Nat.le_refl _) (by omega) (fun j hj => by rw [hx j (l.getD j 0) (by rw [List.getD_eq_getElem?_getD, List.getElem?_eq_getElem hj]; rfl)]) (by rw [List.take_length]; exact hs.imp fun h => Int.le_of_lt h)
    rw [List.take_length] at h
    exact h
theorem count_at {T : List Nat} (hs : T.Pairwise (· < ·)) {x : Nat} (hx : x ∈ T) : (nl T).countP (· < (x : Int)) = T.idxOf x := by
  induction T with
  | nil => cases hx
  | cons b T ih =>
    obtain ⟨h1, h2⟩ := List.pairwise_cons.1 hs
    by_cases e : b = x
    · subst e
      rw [List.idxOf_cons_self, List.countP_eq_zero]
      intro y hy
      obtain ⟨z, hz, rfl⟩ := List.mem_map.1 hy
      rcases List.mem_cons.1 hz with rfl | hz
      · simp
      · have := h1 z hz; simp; omega
    · have hxT : x ∈ T := (List.mem_cons.1 hx).resolve_left fun c => e c.symm
      have hlt := h1 x hxT
      have hbe : (b == x) = false := by rw [beq_eq_false_iff_ne]; exact e
      rw [List.idxOf_cons, hbe]
      have := ih h2 hxT
      simp only [nl, List.map_cons, List.countP_cons] at this ⊢
      rw [this]
      simp
      omega
theorem place_any (p : Nat) (n : Int) (T : List Nat) (pl : Nat → Nat) (W : EdN) (t : Int) (w : World) (h : OrdO w p n T pl W) (hs : T.Pairwise (· < ·)) (hl : T.length ≤ 1000000) (hpl : ∀ i, pl i ≤ 1000000) (ht1 : -9223372036854775807 ≤ t) (ht2 : t ≤ 9223372036854775807) :
    Calls Tryz.prog 31 #[.pointer (some ⟨p, 0, none⟩), .int .i64 t] w fun e w' => e = .returned (.int .i64 (plI T pl t)) ∧ ∃ q, w' = w.drewN q := by
  obtain ⟨v1, c1, r1⟩ := h.c1
  obtain ⟨v2, c2, r2⟩ := h.c2
  have SE := Lib.hid (search_any (nl T) v1 t w r1 (by rw [nl, List.pairwise_map]; exact hs.imp fun hab => by omega) (by simpa using hl))
  by_cases hm : t ∈ nl T
  · obtain ⟨x, hx, rfl⟩ := List.mem_map.1 hm
    have hi := List.idxOf_lt_length_of_mem hx
    obtain ⟨b2, o2, c', rfl⟩ : ∃ b o c, v2 = .slice (some ⟨b, o, none⟩) T.length c := by
      rcases r2 with ⟨e, _⟩ | ⟨_, b, o, c, e, _⟩
      · have : (nl (plL T pl)).length = 0 := by rw [e]; rfl
        rw [nl_len, plL_len] at this; omega
      · exact ⟨b, o, c, by rw [e, nl_len, plL_len]⟩
    have hat := nl_at (plL_at pl hi)
    obtain ⟨b3, o3, e3, _, hc1, hc2, cx⟩ := r2.at hat
    injection e3 with e3
    injection e3 with e4 e5
    subst e4; subst e5
    have hres : plI T pl (x : Int) = (pl (T.idxOf x) : Int) := plI_in hx
    have hcp : (nl T).countP (· < (x : Int)) = T.idxOf x := count_at hs hx
    have hct : (nl T).contains (x : Int) = true := List.contains_iff_mem.2 hm
    rw [hcp, hct] at SE
    rw [hres]
    obtain ⟨i, hie⟩ : ∃ i, i = T.idxOf x := ⟨_, rfl⟩
    obtain ⟨L, hL⟩ : ∃ L, L = T.length := ⟨_, rfl⟩
    rw [← hie] at SE cx hi ⊢
    rw [← hL] at c2 hc1 hi hl
    obtain ⟨y, hy⟩ : ∃ y, y = pl i := ⟨_, rfl⟩
    have hy9 : y ≤ 1000000 := by rw [hy]; exact hpl i
    rw [← hy] at cx ⊢
    unfold maxLen at hc2
    have HX : Hid (∀ q, (w.drewN q).cell? ⟨p, 2, none⟩ = some (.slice (some ⟨b2, o2, none⟩) L c') ∧ (w.drewN q).cell? ⟨b2, o2 + i, none⟩ = some (.int .i64 (y : Int))) := Lib.hid (fun q => ⟨c2, cx⟩)
    clear r1 r2 h hat hres hcp hct hie hL hy hm hx c2 cx
    go_enter Tryz.func31, Tryz.ntmps31
    go_wp2_with fail
    refine SE.out.mono ?_
    rintro e w2 ⟨rfl, q, rfl⟩
    obtain ⟨c2, cx⟩ := HX.out q
    go_wp2_with fail
    go_ret
    exact ⟨rfl, q, rfl⟩
  · have hres : plI T pl t = -1 - t := by unfold plI; rw [if_neg hm]
    have hct : (nl T).contains t = false := Bool.eq_false_iff.2 fun c => hm (List.contains_iff_mem.1 c)
    rw [hct] at SE
    rw [hres]
    clear r1 r2 h hres hct hm c2
    have hw : IntKind.i64.wrap (-1 - t) = -1 - t := by rw [IntKind.wrap_i64]; omega
    go_enter Tryz.func31, Tryz.ntmps31
    go_wp2_with fail
    refine SE.out.mono ?_
    rintro e w2 ⟨rfl, q, rfl⟩
    go_wp2_with fail
    go_ret
    exact ⟨rfl, q, rfl⟩
end Go.Proofs.YtfpepoebammeoaaGreat
