/- The contract of merge. -/
import Derived.Test.YtfpepoebammeoaaGreatU17
import Derived.Test.YtfpepoebammeoaaGreatU3
set_option linter.unusedVariables false
namespace Go.Proofs.YtfpepoebammeoaaGreat
open Go.ChangeShapes Go.WideShapes Go.ChangeAt Go.RowKit

def leftL (T : List Nat) (i : Nat) : List Nat := T.filter fun t => decide (i ≤ t)
theorem leftL_zero (T : List Nat) : leftL T 0 = T := by
  unfold leftL
  exact List.filter_eq_self.2 fun t _ => by simp
theorem leftL_head {T : List Nat} (h : T.Pairwise (· < ·)) (i : Nat) : (i ∈ T ∧ leftL T i = i :: leftL T (i + 1)) ∨ (i ∉ T ∧ leftL T i = leftL T (i + 1) ∧ ∀ t, (leftL T i)[0]? = some t → t ≠ i) := by
  induction T with
  | nil => exact .inr ⟨by simp, rfl, by simp [leftL]⟩
  | cons a T ih =>
    obtain ⟨h1, h2⟩ := List.pairwise_cons.1 h
    rcases Nat.lt_trichotomy a i with ha | ha | ha
    · have e1 : leftL (a :: T) i = leftL T i := by unfold leftL; rw [List.filter_cons, if_neg (by simp; omega)]
      have e2 : leftL (a :: T) (i + 1) = leftL T (i + 1) := by unfold leftL; rw [List.filter_cons, if_neg (by simp; omega)]
      rw [e1, e2]
      rcases ih h2 with ⟨x, y⟩ | ⟨x, y, z⟩
      · exact .inl ⟨by simp [x], y⟩
      · exact .inr ⟨by simp [x]; omega, y, z⟩
    · subst ha
      left
      have e1 : leftL (a :: T) a = a :: leftL T a := by unfold leftL; rw [List.filter_cons, if_pos (by simp)]
      have e2 : leftL (a :: T) (a + 1) = leftL T (a + 1) := by unfold leftL; rw [List.filter_cons, if_neg (by simp)]
      have e3 : leftL T a = leftL T (a + 1) := by
        unfold leftL
        exact List.filter_congr fun t ht => by
          have := h1 t ht
          simp; omega
      exact ⟨by simp, by rw [e1, e2, e3]⟩
    · right
      have e1 : leftL (a :: T) i = a :: T := List.filter_eq_self.2 fun t ht => by
        rcases List.mem_cons.1 ht with rfl | ht
        · simp; omega
        · have := h1 t ht; simp; omega
      have e2 : leftL (a :: T) (i + 1) = a :: T := List.filter_eq_self.2 fun t ht => by
        rcases List.mem_cons.1 ht with rfl | ht
        · simp; omega
        · have := h1 t ht; simp; omega
      refine ⟨fun hi => ?_, by rw [e1, e2], fun t ht => ?_⟩
      · rcases List.mem_cons.1 hi with rfl | hi
        · omega
        · have := h1 i hi; omega
      · rw [e1] at ht
        simp at ht
        omega

set_option maxHeartbeats 4000000 in
set_option maxRecDepth 100000 in
theorem merge_any {w : World} (ES : List (Nat × Nat)) (T : List Nat) (L : List Int) (N : Nat) (n : Int) (tv lv : Value) (hn : n.toNat = N) (hn9 : n ≤ 400000) (hn1 : -9223372036854775808 ≤ n) (hT : Tied N ES T) (htr : RI w tv (nl T)) (hlr : RI w lv L) (hL : ReachK (needE (renE T ES)) T.length L) (hNX : nextK (needE (renE T ES)) T.length L = none) :
    Calls Tryz.prog 52 #[.int .i64 n, tv, lv] w fun e W' => ∃ ov out, e = .returned ov ∧ Row 1 w.heap.size W' ov out.length (iv out) ∧ MergeS N ES T L N L.length out ∧ Below w.heap.size w W' := by
  have hN9 : N ≤ 400000 := by omega
  have hTN : T.length ≤ N := nodupN_len hT.nd hT.lt
  have hLT : L.length ≤ T.length := reach_len hL
  have mk1 := make_ik N (by omega)
  obtain ⟨M, hM⟩ : ∃ M : Int, M = max n 0 := ⟨_, rfl⟩
  have hMN : M = (N : Int) := by omega
  have HT := Lib.hid hT
  have HTR := Lib.hid htr
  have HL := Lib.hid hL
  have HNX := Lib.hid hNX
  have HLN : Hid (∀ (c : Nat) x, L[c]? = some x → ∃ p : Nat, p < T.length ∧ x = (p : Int) ∧ nextK (needE (renE T ES)) T.length (L.take c) = some p) := Lib.hid (fun c x hx => line_next hL hx)
  have HOLN : Hid (∀ i c out, MergeS N ES T L i c out → out.length ≤ N) := Lib.hid (fun i c out h => reach_len h.reach)
  obtain ⟨ta, tc, rfl⟩ := htr.form
  obtain ⟨tl, htl⟩ : ∃ tl, tl = T.length := ⟨_, rfl⟩
  rw [nl_len, ← htl] at HTR ⊢
  rw [← htl] at hTN hLT
  have HTL := Lib.hid htl
  have HL0 := Lib.hid hlr
  have hiN : ∀ i : Nat, (i : Int) < n ↔ i < N := fun i => by omega
  have HIN := Lib.hid hiN
  have hr0 : Row 1 w.heap.size (w.alloc (.cells (madeCells #[.int .i64 0] N) 3)) (.slice (some ⟨w.heap.size, 0, none⟩) 0 N) 0 [] := row_new (Nat.le_refl _) rfl (Nat.zero_le _) (by unfold maxLen; omega) (by simp [size_madeCells]) (.inl rfl) (fun j u hu => by simp at hu)
  have HR0 := Lib.hid hr0
  have HB0 := Lib.hid ((Below.refl _ w).alloc (Nat.le_refl _) (.cells (madeCells #[.int .i64 0] N) 3))
  have HM0 := Lib.hid (merge_begin N ES T L)
  have HLZ : Hid (RI w (.slice ta tl tc) (nl (leftL T 0))) := Lib.hid (by rw [leftL_zero]; exact HTR.out)
  have HN := Lib.hid hn
  have hmx : max n (0 : Int) = (N : Int) := by omega
  clear htr hlr hL hNX hT htl hr0 hM hMN M hn hiN
  go_enter Tryz.func52, Tryz.ntmps52
  go_wp2_with fail
  go_loopw [2, 7, 8, 17] (fun lnv ov lfv jv wr => ∃ (i c k : Nat) (out : List Int), jv = .int .i64 (i : Nat) ∧ i ≤ N ∧ Hid (k = out.length) ∧ Hid (MergeS N ES T L i c out) ∧ Hid (RI w lnv (L.drop c)) ∧ Hid (RI w lfv (nl (leftL T i))) ∧ Hid (Row 1 w.heap.size wr ov k (iv out)) ∧ Hid (Below w.heap.size w wr)) (fun _ _ _ jv _ => N - (intOf jv).toNat)
  case atStart => exact ⟨0, 0, 0, [], rfl, Nat.zero_le _, Lib.hid rfl, HM0, HL0, HLZ, HR0, HB0⟩
  case round =>
    obtain ⟨i, c, k, out, rfl, hiN, HK, HS, HLN1, HLF0, HR, HB⟩ := hrel
    obtain ⟨oa, oc, rfl⟩ := HR.out.form
    obtain ⟨fa, fc, hfe⟩ := HLF0.out.form
    obtain ⟨fl, hfl⟩ : ∃ fl, fl = (nl (leftL T i)).length := ⟨_, rfl⟩
    rw [← hfl] at hfe
    subst hfe
    have HFL := Lib.hid hfl
    clear hfl
    by_cases hin : i < N
    · have hinI : (i : Int) < n := (HIN.out i).2 hin
      rcases leftL_head HT.out.asc i with ⟨hiT, hlf⟩ | ⟨hiT, hlf, hhd⟩
      · have hf := HLF0.out
        have hfl2 : fl = (leftL T (i + 1)).length + 1 := by rw [HFL.out, hlf]; simp [nl]
        have hf0 : 0 < fl := by omega
        have hlf2 : nl (leftL T i) = (i : Int) :: nl (leftL T (i + 1)) := by rw [hlf]; rfl
        rw [hlf2] at hf
        obtain ⟨gb, go, rfl, hgl, hgb, hgc1, hgc2, hgx⟩ := hf.some hf0
        have cgx := (HB.out.cell (p := ⟨gb, go + 0, none⟩) hgb).trans (hgx 0 _ rfl)
        rw [Nat.add_zero] at cgx
        have HT1 := Lib.hid (RI.tail hf)
        have HSK := Lib.hid (merge_skip HS.out hiT)
        have hflI : (0 : Int) < (fl : Int) := by omega
        unfold maxLen at hgc2
        clear hf hfl2 hlf2 hgx hlf hiT hgl
        by_cases hc1 : fc = 1
        · have HT2 := Lib.hid (by have := HT1.out; rw [if_pos hc1, show fl - 1 = 0 by omega, show fc - 1 = 0 by omega] at this; exact this)
          subst hc1
          go_wp2_with fail
          exact ⟨⟨i + 1, c, k, out, by go_num, by omega, HK, HSK, HLN1, HT2, HR, HB⟩, by simp [intOf]; omega⟩
        · have HT2 := Lib.hid (by have := HT1.out; rw [if_neg hc1] at this; exact this)
          go_wp2_with fail
          exact ⟨⟨i + 1, c, k, out, by go_num, by omega, HK, HSK, HLN1, HT2, HR, HB⟩, by simp [intOf]; omega⟩
      · have HNI := Lib.hid hiT
        have HLF : Hid (RI w (.slice fa fl fc) (nl (leftL T (i + 1)))) := Lib.hid (by rw [← hlf]; exact HLF0.out)
        clear hiT hlf
        by_cases hf0 : fl = 0
        · subst hf0
          clear hhd
          go_wp2_with fail
          go_loopw [2, 7] (fun lnv ov wr => ∃ (c k : Nat) (out : List Int), Hid (k = out.length) ∧ Hid (MergeS N ES T L i c out) ∧ Hid (RI w lnv (L.drop c)) ∧ Hid (Row 1 w.heap.size wr ov k (iv out)) ∧ Hid (Below w.heap.size w wr)) (fun lnv _ _ => slLen lnv)
          case atStart => exact ⟨c, k, out, HK, HS, HLN1, HR, HB⟩
          case round =>
            clear HK HS HLN1 HR HB
            obtain ⟨c, k, out, HK, HS, HLN2, HR, HB⟩ := hrel
            obtain ⟨oa, oc, rfl⟩ := HR.out.form
            cases hd : L.drop c with
            | nil =>
              have hln := HLN2.out
              rw [hd] at hln
              obtain ⟨la, lc, hle⟩ := hln.form
              have hle' : _ = Value.slice la 0 lc := hle
              subst hle'
              have HNXT : Hid (nextK (needE (renE T ES)) tl (L.take c) = none ∨ ∃ p t : Nat, T[p]? = some t ∧ i < t ∧ nextK (needE (renE T ES)) tl (L.take c) = some p) := Lib.hid (.inl (by
                have : L.take c = L := List.take_of_length_le (List.drop_eq_nil_iff.1 hd)
                rw [this, HTL.out]; exact HNX.out))
              clear hln hle hd
              have HFR := Lib.hid (merge_free HT.out HTL.out HS.out HNI.out hin HNXT.out)
              have hsrc : Src Tryz.prog 1 23 (.slice (some ⟨wr.heap.size, 0, none⟩) 1 1) 1 [.int .i64 (i : Int)] (wr.alloc (.cells #[.int .i64 (i : Int)] 3)) := src_new Tryz.underlying23 [.int .i64 (i : Int)] 1 3 1 rfl oneIk
              have HSRC := Lib.hid hsrc
              have HRA := Lib.hid (HR.out.alloc (.cells #[.int .i64 (i : Int)] 3))
              have hszw : w.heap.size ≤ (wr.alloc (.cells #[.int .i64 (i : Int)] 3)).heap.size := by have := HB.out.size; simp; omega
              have hk9 : k ≤ 400000 := by have := HOLN.out _ _ _ HS.out; rw [← HK.out] at this; omega
              have HBA := Lib.hid (HB.out.alloc HB.out.size (.cells #[.int .i64 (i : Int)] 3))
              clear hsrc
              go_wp2_with (at_builtin; refine wpList_append_row rfl (.tmp 56) (.tmp 58) 23 23 rfl 1 3 (.int .i64 0) 8 Tryz.underlying23 infoIk rfl w.heap.size (.slice oa k oc) k (iv out) (by simp [Act.eval]) HRA.out (.slice (some ⟨wr.heap.size, 0, none⟩) 1 1) (by simp [Act.eval]) 1 [.int .i64 (i : Int)] HSRC.out hszw (by omega) (by decide) ?_; intro v6 w6 hr6 ho6 hw6; obtain ⟨a6, c6, hv6⟩ := hr6.form; subst hv6; have HR6 := Lib.hid hr6; have HO6 := Lib.hid ho6; clear hr6 ho6 hw6)
              have hr6 : Row 1 w.heap.size w6 (.slice a6 (k + 1) c6) (k + 1) (iv (out ++ [(i : Int)])) := by
                have : iv (out ++ [(i : Int)]) = iv out ++ [.int .i64 (i : Int)] := by simp [iv]
                rw [this]
                exact HR6.out
              have hb6 : Below w.heap.size w w6 := HBA.out.trans (HO6.out.below (B := w.heap.size) (fun b hb => (HR.out.lt b hb).1) hszw)
              have hk6 : k + 1 = (out ++ [(i : Int)]).length := by rw [List.length_append, List.length_singleton, ← HK.out]
              exact ⟨⟨i + 1, c, k + 1, out ++ [(i : Int)], by go_num, by omega, Lib.hid hk6, HFR, HLN2, HLF, Lib.hid hr6, Lib.hid hb6⟩, by simp [intOf]; omega⟩
            | cons x rest =>
              have hxc : L[c]? = some x := by
                have h1 : (L.drop c)[0]? = some x := by rw [hd]; rfl
                rw [List.getElem?_drop, Nat.add_zero] at h1
                exact h1
              have hrest : L.drop (c + 1) = rest := by
                have h1 : L.drop (c + 1) = (L.drop c).drop 1 := by rw [List.drop_drop]
                rw [h1, hd]; rfl
              obtain ⟨p, hpt, rfl, hpn⟩ := HLN.out c x hxc
              rw [← HTL.out] at hpt
              obtain ⟨t, ht⟩ : ∃ t, T[p]? = some t := ⟨T[p]'(by rw [← HTL.out]; exact hpt), by simp⟩
              have hln := HLN2.out
              rw [hd] at hln
              obtain ⟨la, lc, hle⟩ := hln.form
              obtain ⟨ll, hll⟩ : ∃ ll, ll = ((p : Int) :: rest).length := ⟨_, rfl⟩
              rw [← hll] at hle
              subst hle
              have hl0 : 0 < ll := by rw [hll]; simp
              obtain ⟨lb, lo, rfl, hln2, hlb, hlc1, hlc2, hlx⟩ := hln.some hl0
              have htl2 := RI.tail hln
              have clx := (HB.out.cell (p := ⟨lb, lo + 0, none⟩) hlb).trans (hlx 0 _ rfl)
              rw [Nat.add_zero] at clx
              obtain ⟨tb, tof, rfl, htb, htc1, htc2, ctx⟩ := (HTR.out.below HB.out).at (nl_at ht)
              have hptI : (p : Int) < (tl : Int) := by omega
              have hllI : (0 : Int) < (ll : Int) := by omega
              have HTT2 := Lib.hid ht
              have HPN := Lib.hid hpn
              have HXC := Lib.hid hxc
              have HREST := Lib.hid hrest
              unfold maxLen at hlc2 htc2
              have HT1 := Lib.hid htl2
              clear hd hxc hrest hpn ht hln hlx hll htl2 hln2
              by_cases hti : t < i
              · have htiI : (t : Int) < (i : Int) := by omega
                have HMT := Lib.hid (merge_tied HT.out HTL.out (by rw [HTL.out]; exact HL.out) HS.out HXC.out HTT2.out (.inl hti) (by rw [HTL.out]; exact HPN.out))
                by_cases hc1 : lc = 1
                · have HT2 := Lib.hid (by have := HT1.out; rw [if_pos hc1, show ll - 1 = 0 by omega, show lc - 1 = 0 by omega] at this; exact this)
                  subst hc1
                  have hsrc : Src Tryz.prog 1 23 (.slice (some ⟨wr.heap.size, 0, none⟩) 1 1) 1 [.int .i64 (t : Int)] (wr.alloc (.cells #[.int .i64 (t : Int)] 3)) := src_new Tryz.underlying23 [.int .i64 (t : Int)] 1 3 1 rfl oneIk
                  have HSRC := Lib.hid hsrc
                  have HRA := Lib.hid (HR.out.alloc (.cells #[.int .i64 (t : Int)] 3))
                  have hszw : w.heap.size ≤ (wr.alloc (.cells #[.int .i64 (t : Int)] 3)).heap.size := by have := HB.out.size; simp; omega
                  have hk9 : k ≤ 400000 := by have := HOLN.out _ _ _ HS.out; rw [← HK.out] at this; omega
                  have HBA := Lib.hid (HB.out.alloc HB.out.size (.cells #[.int .i64 (t : Int)] 3))
                  clear hsrc
                  go_wp2_with (at_builtin; refine wpList_append_row rfl (.tmp 45) (.tmp 52) 23 23 rfl 1 3 (.int .i64 0) 8 Tryz.underlying23 infoIk rfl w.heap.size (.slice oa k oc) k (iv out) (by simp [Act.eval]) HRA.out (.slice (some ⟨wr.heap.size, 0, none⟩) 1 1) (by simp [Act.eval]) 1 [.int .i64 (t : Int)] HSRC.out hszw (by omega) (by decide) ?_; intro v6 w6 hr6 ho6 hw6; obtain ⟨a6, c6, hv6⟩ := hr6.form; subst hv6; have HR6 := Lib.hid hr6; have HO6 := Lib.hid ho6; clear hr6 ho6 hw6)
                  have hr6 : Row 1 w.heap.size w6 (.slice a6 (k + 1) c6) (k + 1) (iv (out ++ [(t : Int)])) := by
                    have : iv (out ++ [(t : Int)]) = iv out ++ [.int .i64 (t : Int)] := by simp [iv]
                    rw [this]
                    exact HR6.out
                  have hb6 : Below w.heap.size w w6 := HBA.out.trans (HO6.out.below (B := w.heap.size) (fun b hb => (HR.out.lt b hb).1) hszw)
                  have hk6 : k + 1 = (out ++ [(t : Int)]).length := by rw [List.length_append, List.length_singleton, ← HK.out]
                  exact ⟨⟨c + 1, k + 1, out ++ [(t : Int)], Lib.hid hk6, HMT, Lib.hid (by rw [HREST.out]; exact HT2.out), Lib.hid hr6, Lib.hid hb6⟩, by simp [slLen]; omega⟩
                · have HT2 := Lib.hid (by have := HT1.out; rw [if_neg hc1] at this; exact this)
                  have hsrc : Src Tryz.prog 1 23 (.slice (some ⟨wr.heap.size, 0, none⟩) 1 1) 1 [.int .i64 (t : Int)] (wr.alloc (.cells #[.int .i64 (t : Int)] 3)) := src_new Tryz.underlying23 [.int .i64 (t : Int)] 1 3 1 rfl oneIk
                  have HSRC := Lib.hid hsrc
                  have HRA := Lib.hid (HR.out.alloc (.cells #[.int .i64 (t : Int)] 3))
                  have hszw : w.heap.size ≤ (wr.alloc (.cells #[.int .i64 (t : Int)] 3)).heap.size := by have := HB.out.size; simp; omega
                  have hk9 : k ≤ 400000 := by have := HOLN.out _ _ _ HS.out; rw [← HK.out] at this; omega
                  have HBA := Lib.hid (HB.out.alloc HB.out.size (.cells #[.int .i64 (t : Int)] 3))
                  clear hsrc
                  go_wp2_with (at_builtin; refine wpList_append_row rfl (.tmp 45) (.tmp 52) 23 23 rfl 1 3 (.int .i64 0) 8 Tryz.underlying23 infoIk rfl w.heap.size (.slice oa k oc) k (iv out) (by simp [Act.eval]) HRA.out (.slice (some ⟨wr.heap.size, 0, none⟩) 1 1) (by simp [Act.eval]) 1 [.int .i64 (t : Int)] HSRC.out hszw (by omega) (by decide) ?_; intro v6 w6 hr6 ho6 hw6; obtain ⟨a6, c6, hv6⟩ := hr6.form; subst hv6; have HR6 := Lib.hid hr6; have HO6 := Lib.hid ho6; clear hr6 ho6 hw6)
                  have hr6 : Row 1 w.heap.size w6 (.slice a6 (k + 1) c6) (k + 1) (iv (out ++ [(t : Int)])) := by
                    have : iv (out ++ [(t : Int)]) = iv out ++ [.int .i64 (t : Int)] := by simp [iv]
                    rw [this]
                    exact HR6.out
                  have hb6 : Below w.heap.size w w6 := HBA.out.trans (HO6.out.below (B := w.heap.size) (fun b hb => (HR.out.lt b hb).1) hszw)
                  have hk6 : k + 1 = (out ++ [(t : Int)]).length := by rw [List.length_append, List.length_singleton, ← HK.out]
                  exact ⟨⟨c + 1, k + 1, out ++ [(t : Int)], Lib.hid hk6, HMT, Lib.hid (by rw [HREST.out]; exact HT2.out), Lib.hid hr6, Lib.hid hb6⟩, by simp [slLen]; omega⟩
              · have hti2 : ¬ (t : Int) < (i : Int) := by omega
                have HNXT : Hid (nextK (needE (renE T ES)) tl (L.take c) = none ∨ ∃ p t : Nat, T[p]? = some t ∧ i < t ∧ nextK (needE (renE T ES)) tl (L.take c) = some p) := Lib.hid (.inr ⟨p, t, HTT2.out, by
                  rcases Nat.lt_or_ge i t with h | h
                  · exact h
                  · have : i = t := by omega
                    subst this
                    exact absurd (List.mem_of_getElem? HTT2.out) HNI.out, by rw [HTL.out]; exact HPN.out⟩)
                clear HT1
                have HFR := Lib.hid (merge_free HT.out HTL.out HS.out HNI.out hin HNXT.out)
                have hsrc : Src Tryz.prog 1 23 (.slice (some ⟨wr.heap.size, 0, none⟩) 1 1) 1 [.int .i64 (i : Int)] (wr.alloc (.cells #[.int .i64 (i : Int)] 3)) := src_new Tryz.underlying23 [.int .i64 (i : Int)] 1 3 1 rfl oneIk
                have HSRC := Lib.hid hsrc
                have HRA := Lib.hid (HR.out.alloc (.cells #[.int .i64 (i : Int)] 3))
                have hszw : w.heap.size ≤ (wr.alloc (.cells #[.int .i64 (i : Int)] 3)).heap.size := by have := HB.out.size; simp; omega
                have hk9 : k ≤ 400000 := by have := HOLN.out _ _ _ HS.out; rw [← HK.out] at this; omega
                have HBA := Lib.hid (HB.out.alloc HB.out.size (.cells #[.int .i64 (i : Int)] 3))
                clear hsrc
                go_wp2_with (at_builtin; refine wpList_append_row rfl (.tmp 56) (.tmp 58) 23 23 rfl 1 3 (.int .i64 0) 8 Tryz.underlying23 infoIk rfl w.heap.size (.slice oa k oc) k (iv out) (by simp [Act.eval]) HRA.out (.slice (some ⟨wr.heap.size, 0, none⟩) 1 1) (by simp [Act.eval]) 1 [.int .i64 (i : Int)] HSRC.out hszw (by omega) (by decide) ?_; intro v6 w6 hr6 ho6 hw6; obtain ⟨a6, c6, hv6⟩ := hr6.form; subst hv6; have HR6 := Lib.hid hr6; have HO6 := Lib.hid ho6; clear hr6 ho6 hw6)
                have hr6 : Row 1 w.heap.size w6 (.slice a6 (k + 1) c6) (k + 1) (iv (out ++ [(i : Int)])) := by
                  have : iv (out ++ [(i : Int)]) = iv out ++ [.int .i64 (i : Int)] := by simp [iv]
                  rw [this]
                  exact HR6.out
                have hb6 : Below w.heap.size w w6 := HBA.out.trans (HO6.out.below (B := w.heap.size) (fun b hb => (HR.out.lt b hb).1) hszw)
                have hk6 : k + 1 = (out ++ [(i : Int)]).length := by rw [List.length_append, List.length_singleton, ← HK.out]
                exact ⟨⟨i + 1, c, k + 1, out ++ [(i : Int)], by go_num, by omega, Lib.hid hk6, HFR, HLN2, HLF, Lib.hid hr6, Lib.hid hb6⟩, by simp [intOf]; omega⟩
        · have hf := HLF0.out
          have hf1 : 0 < fl := by omega
          obtain ⟨t0, ht0⟩ : ∃ t0, (leftL T i)[0]? = some t0 := ⟨(leftL T i)[0]'(by rw [← nl_len, ← HFL.out]; exact hf1), by simp⟩
          have htne := hhd t0 ht0
          obtain ⟨gb, go, rfl, hgl, hgb, hgc1, hgc2, hgx⟩ := hf.some hf1
          have cgx := (HB.out.cell (p := ⟨gb, go + 0, none⟩) hgb).trans (hgx 0 _ (nl_at ht0))
          rw [Nat.add_zero] at cgx
          have hflI : (0 : Int) < (fl : Int) := by omega
          have hte : ((t0 : Int) == (i : Int)) = false := by rw [beq_eq_false_iff_ne]; omega
          unfold maxLen at hgc2
          clear hf hgx ht0 hhd hgl
          go_wp2_with fail
          go_loopw [2, 7] (fun lnv ov wr => ∃ (c k : Nat) (out : List Int), Hid (k = out.length) ∧ Hid (MergeS N ES T L i c out) ∧ Hid (RI w lnv (L.drop c)) ∧ Hid (Row 1 w.heap.size wr ov k (iv out)) ∧ Hid (Below w.heap.size w wr)) (fun lnv _ _ => slLen lnv)
          case atStart => exact ⟨c, k, out, HK, HS, HLN1, HR, HB⟩
          case round =>
            clear HK HS HLN1 HR HB
            obtain ⟨c, k, out, HK, HS, HLN2, HR, HB⟩ := hrel
            obtain ⟨oa, oc, rfl⟩ := HR.out.form
            cases hd : L.drop c with
            | nil =>
              have hln := HLN2.out
              rw [hd] at hln
              obtain ⟨la, lc, hle⟩ := hln.form
              have hle' : _ = Value.slice la 0 lc := hle
              subst hle'
              have HNXT : Hid (nextK (needE (renE T ES)) tl (L.take c) = none ∨ ∃ p t : Nat, T[p]? = some t ∧ i < t ∧ nextK (needE (renE T ES)) tl (L.take c) = some p) := Lib.hid (.inl (by
                have : L.take c = L := List.take_of_length_le (List.drop_eq_nil_iff.1 hd)
                rw [this, HTL.out]; exact HNX.out))
              clear hln hle hd
              have HFR := Lib.hid (merge_free HT.out HTL.out HS.out HNI.out hin HNXT.out)
              have hsrc : Src Tryz.prog 1 23 (.slice (some ⟨wr.heap.size, 0, none⟩) 1 1) 1 [.int .i64 (i : Int)] (wr.alloc (.cells #[.int .i64 (i : Int)] 3)) := src_new Tryz.underlying23 [.int .i64 (i : Int)] 1 3 1 rfl oneIk
              have HSRC := Lib.hid hsrc
              have HRA := Lib.hid (HR.out.alloc (.cells #[.int .i64 (i : Int)] 3))
              have hszw : w.heap.size ≤ (wr.alloc (.cells #[.int .i64 (i : Int)] 3)).heap.size := by have := HB.out.size; simp; omega
              have hk9 : k ≤ 400000 := by have := HOLN.out _ _ _ HS.out; rw [← HK.out] at this; omega
              have HBA := Lib.hid (HB.out.alloc HB.out.size (.cells #[.int .i64 (i : Int)] 3))
              clear hsrc
              go_wp2_with (at_builtin; refine wpList_append_row rfl (.tmp 56) (.tmp 58) 23 23 rfl 1 3 (.int .i64 0) 8 Tryz.underlying23 infoIk rfl w.heap.size (.slice oa k oc) k (iv out) (by simp [Act.eval]) HRA.out (.slice (some ⟨wr.heap.size, 0, none⟩) 1 1) (by simp [Act.eval]) 1 [.int .i64 (i : Int)] HSRC.out hszw (by omega) (by decide) ?_; intro v6 w6 hr6 ho6 hw6; obtain ⟨a6, c6, hv6⟩ := hr6.form; subst hv6; have HR6 := Lib.hid hr6; have HO6 := Lib.hid ho6; clear hr6 ho6 hw6)
              have hr6 : Row 1 w.heap.size w6 (.slice a6 (k + 1) c6) (k + 1) (iv (out ++ [(i : Int)])) := by
                have : iv (out ++ [(i : Int)]) = iv out ++ [.int .i64 (i : Int)] := by simp [iv]
                rw [this]
                exact HR6.out
              have hb6 : Below w.heap.size w w6 := HBA.out.trans (HO6.out.below (B := w.heap.size) (fun b hb => (HR.out.lt b hb).1) hszw)
              have hk6 : k + 1 = (out ++ [(i : Int)]).length := by rw [List.length_append, List.length_singleton, ← HK.out]
              exact ⟨⟨i + 1, c, k + 1, out ++ [(i : Int)], by go_num, by omega, Lib.hid hk6, HFR, HLN2, HLF, Lib.hid hr6, Lib.hid hb6⟩, by simp [intOf]; omega⟩
            | cons x rest =>
              have hxc : L[c]? = some x := by
                have h1 : (L.drop c)[0]? = some x := by rw [hd]; rfl
                rw [List.getElem?_drop, Nat.add_zero] at h1
                exact h1
              have hrest : L.drop (c + 1) = rest := by
                have h1 : L.drop (c + 1) = (L.drop c).drop 1 := by rw [List.drop_drop]
                rw [h1, hd]; rfl
              obtain ⟨p, hpt, rfl, hpn⟩ := HLN.out c x hxc
              rw [← HTL.out] at hpt
              obtain ⟨t, ht⟩ : ∃ t, T[p]? = some t := ⟨T[p]'(by rw [← HTL.out]; exact hpt), by simp⟩
              have hln := HLN2.out
              rw [hd] at hln
              obtain ⟨la, lc, hle⟩ := hln.form
              obtain ⟨ll, hll⟩ : ∃ ll, ll = ((p : Int) :: rest).length := ⟨_, rfl⟩
              rw [← hll] at hle
              subst hle
              have hl0 : 0 < ll := by rw [hll]; simp
              obtain ⟨lb, lo, rfl, hln2, hlb, hlc1, hlc2, hlx⟩ := hln.some hl0
              have htl2 := RI.tail hln
              have clx := (HB.out.cell (p := ⟨lb, lo + 0, none⟩) hlb).trans (hlx 0 _ rfl)
              rw [Nat.add_zero] at clx
              obtain ⟨tb, tof, rfl, htb, htc1, htc2, ctx⟩ := (HTR.out.below HB.out).at (nl_at ht)
              have hptI : (p : Int) < (tl : Int) := by omega
              have hllI : (0 : Int) < (ll : Int) := by omega
              have HTT2 := Lib.hid ht
              have HPN := Lib.hid hpn
              have HXC := Lib.hid hxc
              have HREST := Lib.hid hrest
              unfold maxLen at hlc2 htc2
              have HT1 := Lib.hid htl2
              clear hd hxc hrest hpn ht hln hlx hll htl2 hln2
              by_cases hti : t < i
              · have htiI : (t : Int) < (i : Int) := by omega
                have HMT := Lib.hid (merge_tied HT.out HTL.out (by rw [HTL.out]; exact HL.out) HS.out HXC.out HTT2.out (.inl hti) (by rw [HTL.out]; exact HPN.out))
                by_cases hc1 : lc = 1
                · have HT2 := Lib.hid (by have := HT1.out; rw [if_pos hc1, show ll - 1 = 0 by omega, show lc - 1 = 0 by omega] at this; exact this)
                  subst hc1
                  have hsrc : Src Tryz.prog 1 23 (.slice (some ⟨wr.heap.size, 0, none⟩) 1 1) 1 [.int .i64 (t : Int)] (wr.alloc (.cells #[.int .i64 (t : Int)] 3)) := src_new Tryz.underlying23 [.int .i64 (t : Int)] 1 3 1 rfl oneIk
                  have HSRC := Lib.hid hsrc
                  have HRA := Lib.hid (HR.out.alloc (.cells #[.int .i64 (t : Int)] 3))
                  have hszw : w.heap.size ≤ (wr.alloc (.cells #[.int .i64 (t : Int)] 3)).heap.size := by have := HB.out.size; simp; omega
                  have hk9 : k ≤ 400000 := by have := HOLN.out _ _ _ HS.out; rw [← HK.out] at this; omega
                  have HBA := Lib.hid (HB.out.alloc HB.out.size (.cells #[.int .i64 (t : Int)] 3))
                  clear hsrc
                  go_wp2_with (at_builtin; refine wpList_append_row rfl (.tmp 45) (.tmp 52) 23 23 rfl 1 3 (.int .i64 0) 8 Tryz.underlying23 infoIk rfl w.heap.size (.slice oa k oc) k (iv out) (by simp [Act.eval]) HRA.out (.slice (some ⟨wr.heap.size, 0, none⟩) 1 1) (by simp [Act.eval]) 1 [.int .i64 (t : Int)] HSRC.out hszw (by omega) (by decide) ?_; intro v6 w6 hr6 ho6 hw6; obtain ⟨a6, c6, hv6⟩ := hr6.form; subst hv6; have HR6 := Lib.hid hr6; have HO6 := Lib.hid ho6; clear hr6 ho6 hw6)
                  have hr6 : Row 1 w.heap.size w6 (.slice a6 (k + 1) c6) (k + 1) (iv (out ++ [(t : Int)])) := by
                    have : iv (out ++ [(t : Int)]) = iv out ++ [.int .i64 (t : Int)] := by simp [iv]
                    rw [this]
                    exact HR6.out
                  have hb6 : Below w.heap.size w w6 := HBA.out.trans (HO6.out.below (B := w.heap.size) (fun b hb => (HR.out.lt b hb).1) hszw)
                  have hk6 : k + 1 = (out ++ [(t : Int)]).length := by rw [List.length_append, List.length_singleton, ← HK.out]
                  exact ⟨⟨c + 1, k + 1, out ++ [(t : Int)], Lib.hid hk6, HMT, Lib.hid (by rw [HREST.out]; exact HT2.out), Lib.hid hr6, Lib.hid hb6⟩, by simp [slLen]; omega⟩
                · have HT2 := Lib.hid (by have := HT1.out; rw [if_neg hc1] at this; exact this)
                  have hsrc : Src Tryz.prog 1 23 (.slice (some ⟨wr.heap.size, 0, none⟩) 1 1) 1 [.int .i64 (t : Int)] (wr.alloc (.cells #[.int .i64 (t : Int)] 3)) := src_new Tryz.underlying23 [.int .i64 (t : Int)] 1 3 1 rfl oneIk
                  have HSRC := Lib.hid hsrc
                  have HRA := Lib.hid (HR.out.alloc (.cells #[.int .i64 (t : Int)] 3))
                  have hszw : w.heap.size ≤ (wr.alloc (.cells #[.int .i64 (t : Int)] 3)).heap.size := by have := HB.out.size; simp; omega
                  have hk9 : k ≤ 400000 := by have := HOLN.out _ _ _ HS.out; rw [← HK.out] at this; omega
                  have HBA := Lib.hid (HB.out.alloc HB.out.size (.cells #[.int .i64 (t : Int)] 3))
                  clear hsrc
                  go_wp2_with (at_builtin; refine wpList_append_row rfl (.tmp 45) (.tmp 52) 23 23 rfl 1 3 (.int .i64 0) 8 Tryz.underlying23 infoIk rfl w.heap.size (.slice oa k oc) k (iv out) (by simp [Act.eval]) HRA.out (.slice (some ⟨wr.heap.size, 0, none⟩) 1 1) (by simp [Act.eval]) 1 [.int .i64 (t : Int)] HSRC.out hszw (by omega) (by decide) ?_; intro v6 w6 hr6 ho6 hw6; obtain ⟨a6, c6, hv6⟩ := hr6.form; subst hv6; have HR6 := Lib.hid hr6; have HO6 := Lib.hid ho6; clear hr6 ho6 hw6)
                  have hr6 : Row 1 w.heap.size w6 (.slice a6 (k + 1) c6) (k + 1) (iv (out ++ [(t : Int)])) := by
                    have : iv (out ++ [(t : Int)]) = iv out ++ [.int .i64 (t : Int)] := by simp [iv]
                    rw [this]
                    exact HR6.out
                  have hb6 : Below w.heap.size w w6 := HBA.out.trans (HO6.out.below (B := w.heap.size) (fun b hb => (HR.out.lt b hb).1) hszw)
                  have hk6 : k + 1 = (out ++ [(t : Int)]).length := by rw [List.length_append, List.length_singleton, ← HK.out]
                  exact ⟨⟨c + 1, k + 1, out ++ [(t : Int)], Lib.hid hk6, HMT, Lib.hid (by rw [HREST.out]; exact HT2.out), Lib.hid hr6, Lib.hid hb6⟩, by simp [slLen]; omega⟩
              · have hti2 : ¬ (t : Int) < (i : Int) := by omega
                have HNXT : Hid (nextK (needE (renE T ES)) tl (L.take c) = none ∨ ∃ p t : Nat, T[p]? = some t ∧ i < t ∧ nextK (needE (renE T ES)) tl (L.take c) = some p) := Lib.hid (.inr ⟨p, t, HTT2.out, by
                  rcases Nat.lt_or_ge i t with h | h
                  · exact h
                  · have : i = t := by omega
                    subst this
                    exact absurd (List.mem_of_getElem? HTT2.out) HNI.out, by rw [HTL.out]; exact HPN.out⟩)
                clear HT1
                have HFR := Lib.hid (merge_free HT.out HTL.out HS.out HNI.out hin HNXT.out)
                have hsrc : Src Tryz.prog 1 23 (.slice (some ⟨wr.heap.size, 0, none⟩) 1 1) 1 [.int .i64 (i : Int)] (wr.alloc (.cells #[.int .i64 (i : Int)] 3)) := src_new Tryz.underlying23 [.int .i64 (i : Int)] 1 3 1 rfl oneIk
                have HSRC := Lib.hid hsrc
                have HRA := Lib.hid (HR.out.alloc (.cells #[.int .i64 (i : Int)] 3))
                have hszw : w.heap.size ≤ (wr.alloc (.cells #[.int .i64 (i : Int)] 3)).heap.size := by have := HB.out.size; simp; omega
                have hk9 : k ≤ 400000 := by have := HOLN.out _ _ _ HS.out; rw [← HK.out] at this; omega
                have HBA := Lib.hid (HB.out.alloc HB.out.size (.cells #[.int .i64 (i : Int)] 3))
                clear hsrc
                go_wp2_with (at_builtin; refine wpList_append_row rfl (.tmp 56) (.tmp 58) 23 23 rfl 1 3 (.int .i64 0) 8 Tryz.underlying23 infoIk rfl w.heap.size (.slice oa k oc) k (iv out) (by simp [Act.eval]) HRA.out (.slice (some ⟨wr.heap.size, 0, none⟩) 1 1) (by simp [Act.eval]) 1 [.int .i64 (i : Int)] HSRC.out hszw (by omega) (by decide) ?_; intro v6 w6 hr6 ho6 hw6; obtain ⟨a6, c6, hv6⟩ := hr6.form; subst hv6; have HR6 := Lib.hid hr6; have HO6 := Lib.hid ho6; clear hr6 ho6 hw6)
                have hr6 : Row 1 w.heap.size w6 (.slice a6 (k + 1) c6) (k + 1) (iv (out ++ [(i : Int)])) := by
                  have : iv (out ++ [(i : Int)]) = iv out ++ [.int .i64 (i : Int)] := by simp [iv]
                  rw [this]
                  exact HR6.out
                have hb6 : Below w.heap.size w w6 := HBA.out.trans (HO6.out.below (B := w.heap.size) (fun b hb => (HR.out.lt b hb).1) hszw)
                have hk6 : k + 1 = (out ++ [(i : Int)]).length := by rw [List.length_append, List.length_singleton, ← HK.out]
                exact ⟨⟨i + 1, c, k + 1, out ++ [(i : Int)], by go_num, by omega, Lib.hid hk6, HFR, HLN2, HLF, Lib.hid hr6, Lib.hid hb6⟩, by simp [intOf]; omega⟩
    · have hie : N = i := by omega
      have hinI : ¬ (i : Int) < n := fun h => hin ((HIN.out i).1 h)
      obtain ⟨la, lc, hle⟩ := HLN1.out.form
      obtain ⟨ll, hll⟩ : ∃ ll, ll = (L.drop c).length := ⟨_, rfl⟩
      rw [← hll] at hle
      subst hle
      have hlL : ll ≤ 400000 := by rw [hll, List.length_drop]; omega
      have HLL := Lib.hid hll
      have hclt : Hid (c ≤ L.length ∨ ll = 0) := Lib.hid (by rw [hll, List.length_drop]; omega)
      have HS0 : Hid (MergeS N ES T L N (c + 0) out) := Lib.hid (by have := HS.out; rw [← hie] at this; exact this)
      clear hll HS
      go_wp2_with fail
      go_loopw [7, 63] (fun ov jv wr => ∃ (j k : Nat) (out : List Int), jv = .int .i64 (j : Nat) ∧ j ≤ ll ∧ Hid (k = out.length) ∧ Hid (MergeS N ES T L N (c + j) out) ∧ Hid (Row 1 w.heap.size wr ov k (iv out)) ∧ Hid (Below w.heap.size w wr)) (fun _ jv _ => ll - (intOf jv).toNat)
      case atStart => exact ⟨0, k, out, rfl, Nat.zero_le _, HK, HS0, HR, HB⟩
      case round =>
        clear HK HS0 HR HB
        obtain ⟨j, k, out, rfl, hjl, HK, HS, HR, HB⟩ := hrel
        obtain ⟨oa, oc, rfl⟩ := HR.out.form
        by_cases hlt : j < ll
        · obtain ⟨x, hx⟩ : ∃ x, (L.drop c)[j]? = some x := ⟨(L.drop c)[j]'(by rw [← HLL.out]; exact hlt), by simp⟩
          have hxc : L[c + j]? = some x := by rw [List.getElem?_drop] at hx; exact hx
          obtain ⟨p, hpt, rfl, hpn⟩ := HLN.out _ x hxc
          rw [← HTL.out] at hpt
          obtain ⟨t, ht⟩ : ∃ t, T[p]? = some t := ⟨T[p]'(by rw [← HTL.out]; exact hpt), by simp⟩
          obtain ⟨lb, lo, rfl, hlb, hlc1, hlc2, clx⟩ := (HLN1.out.below HB.out).at hx
          obtain ⟨tb, tof, rfl, htb, htc1, htc2, ctx⟩ := (HTR.out.below HB.out).at (nl_at ht)
          have hptI : (p : Int) < (tl : Int) := by omega
          have HMT := Lib.hid (merge_tied HT.out HTL.out (by rw [HTL.out]; exact HL.out) HS.out hxc ht (.inr rfl) (by rw [HTL.out]; exact hpn))
          unfold maxLen at hlc2 htc2
          clear hx hxc hpn ht
          have hsrc : Src Tryz.prog 1 23 (.slice (some ⟨wr.heap.size, 0, none⟩) 1 1) 1 [.int .i64 (t : Int)] (wr.alloc (.cells #[.int .i64 (t : Int)] 3)) := src_new Tryz.underlying23 [.int .i64 (t : Int)] 1 3 1 rfl oneIk
          have HSRC := Lib.hid hsrc
          have HRA := Lib.hid (HR.out.alloc (.cells #[.int .i64 (t : Int)] 3))
          have hszw : w.heap.size ≤ (wr.alloc (.cells #[.int .i64 (t : Int)] 3)).heap.size := by have := HB.out.size; simp; omega
          have hk9 : k ≤ 400000 := by have := HOLN.out _ _ _ HS.out; rw [← HK.out] at this; omega
          have HBA := Lib.hid (HB.out.alloc HB.out.size (.cells #[.int .i64 (t : Int)] 3))
          clear hsrc
          go_wp2_with (at_builtin; refine wpList_append_row rfl (.tmp 67) (.tmp 72) 23 23 rfl 1 3 (.int .i64 0) 8 Tryz.underlying23 infoIk rfl w.heap.size (.slice oa k oc) k (iv out) (by simp [Act.eval]) HRA.out (.slice (some ⟨wr.heap.size, 0, none⟩) 1 1) (by simp [Act.eval]) 1 [.int .i64 (t : Int)] HSRC.out hszw (by omega) (by decide) ?_; intro v6 w6 hr6 ho6 hw6; obtain ⟨a6, c6, hv6⟩ := hr6.form; subst hv6; have HR6 := Lib.hid hr6; have HO6 := Lib.hid ho6; clear hr6 ho6 hw6)
          have hr6 : Row 1 w.heap.size w6 (.slice a6 (k + 1) c6) (k + 1) (iv (out ++ [(t : Int)])) := by
            have : iv (out ++ [(t : Int)]) = iv out ++ [.int .i64 (t : Int)] := by simp [iv]
            rw [this]
            exact HR6.out
          have hb6 : Below w.heap.size w w6 := HBA.out.trans (HO6.out.below (B := w.heap.size) (fun b hb => (HR.out.lt b hb).1) hszw)
          have hk6 : k + 1 = (out ++ [(t : Int)]).length := by rw [List.length_append, List.length_singleton, ← HK.out]
          exact ⟨⟨j + 1, k + 1, out ++ [(t : Int)], by go_num, by omega, Lib.hid hk6, HMT, Lib.hid hr6, Lib.hid hb6⟩, by simp [intOf]; omega⟩
        · have hjj : ll = j := by omega
          have HFIN : Hid (MergeS N ES T L N L.length out) := Lib.hid (by
            have h := HS.out
            have hcj := hclt.out
            rw [← hjj, HLL.out, List.length_drop] at h
            rw [HLL.out, List.length_drop] at hcj
            rcases Nat.lt_or_ge L.length c with hc | hc
            · refine ⟨h.reach, fun x => ?_⟩
              rw [h.mem x, List.take_of_length_le (by omega), List.take_length]
            · rw [show c + (L.length - c) = L.length by omega] at h
              exact h)
          subst hjj
          go_wp2_with fail
          go_ret
          exact ⟨_, out, rfl, by rw [← HK.out]; exact HR.out, HFIN.out, HB.out⟩
end Go.Proofs.YtfpepoebammeoaaGreat
