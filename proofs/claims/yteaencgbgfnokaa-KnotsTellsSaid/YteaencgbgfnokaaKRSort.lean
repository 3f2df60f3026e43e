/- The document's Sort. -/
import Derived.Test.YteaencgbgfnokaaKRKnots
set_option linter.unusedVariables false
set_option linter.unusedSimpArgs false
namespace Go.Proofs.Yteaencgbgfnokaa
open Go.ChangeShapes Go.WideShapes Go.ChangeAt Go.RowKit

/-- Which of the first m have been told. -/
def toldB (out : List Int) (u : Nat) : Bool := out.contains (u : Int)
theorem told_step (out : List Int) (u v : Nat) : toldB (out ++ [(u : Int)]) v = if v = u then true else toldB out v := by
  unfold toldB
  rw [Bool.eq_iff_iff, List.contains_iff_mem, List.mem_append, List.mem_singleton]
  by_cases e : v = u
  · subst e; simp
  · rw [if_neg e, List.contains_iff_mem]
    constructor
    · rintro (h | h)
      · exact h
      · omega
    · exact .inl
theorem told_none : ∀ u, toldB [] u = false := fun u => rfl

set_option maxHeartbeats 4000000 in
set_option maxRecDepth 100000 in
theorem rsort_any (n : Int) (es : Ed) (v : Value) (w : World) (hr : RE w v es) (hl : es.length ≤ 400000) (hn1 : -9223372036854775808 ≤ n) (hn : n ≤ 2000) :
    Calls Try.prog 7 #[.int .i64 n, v] w fun e W' => ∃ ov out ok, e = .returned (.tuple #[ov, .bool ok]) ∧ SortR n.toNat (toN (amongL n es)) out ok ∧ RI W' ov out ∧ Below w.heap.size w W' := by
  obtain ⟨va, vc, rfl⟩ := hr.form
  obtain ⟨E, hE⟩ : ∃ E, E = es.length := ⟨_, rfl⟩
  rw [← hE] at hr hl ⊢
  have HE := Lib.hid hE
  have HR := Lib.hid hr
  have HRT := Lib.hid (fun (e1 e2 : Int) (W : World) => right8_any n e1 e2 W)
  clear hE hr
  by_cases h1 : n < 1
  · have hn0 : n.toNat = 0 := by omega
    have hnn : ¬ (0 : Int) < n := by omega
    have mk1 : ∀ w : World, (Instr.makeSlice 44 (.int .i64 0) (.int .i64 0)).run Try.prog w = _ := fun w => run_make_row' (P := Try.prog) 44 4 (.bool false) 1 Try.underlying44 infoB rfl .i64 .i64 0 (by omega) (by omega) w
    rw [hn0]
    have HB0 := Lib.hid ((Below.refl w.heap.size w).alloc (Nat.le_refl _) (.cells (madeCells #[.bool false] 0) 4))
    clear hn0
    rcases (show n = 0 ∨ n < 0 by omega) with rfl | hneg
    all_goals
      go_enter Try.func7, Try.ntmps7
      go_wp2_with fail
      go_loopw [6] (fun lv wr => lv = .slice none 0 0 ∧ Hid (Below w.heap.size w wr)) (fun _ _ => 0)
      case atStart => exact ⟨rfl, HB0⟩
      case round =>
        obtain ⟨rfl, HB⟩ := hrel
        go_wp2_with fail
        go_ret2
        exact ⟨_, [], true, rfl, .inl ⟨rfl, .nil, rfl⟩, .inl ⟨rfl, _, _, rfl⟩, HB.out⟩
  obtain ⟨N, rfl⟩ : ∃ N : Nat, n = (N : Int) := ⟨n.toNat, by omega⟩
  have hN1 : 1 ≤ N := by omega
  have hN9 : N ≤ 2000 := by omega
  rw [Int.toNat_natCast]
  obtain ⟨ES, hES⟩ : ∃ ES, ES = toN (amongL (N : Int) es) := ⟨_, rfl⟩
  rw [← hES]
  have HES := Lib.hid hES
  have hmx : max (N : Int) 0 = (N : Int) := by omega
  clear h1 hn1 hn hES
  have mk1 := run_make_row' (P := Try.prog) 44 4 (.bool false) 1 Try.underlying44 infoB rfl .i64 .i64 N (by omega) (by omega)
  have hrow : Row 1 w.heap.size (w.alloc (.cells (madeCells #[.bool false] N) 4)) (.slice (some ⟨w.heap.size, 0, none⟩) N N) N (tbv (fun _ => false) N) := made_boolk (by omega) (Nat.le_refl _) _
  rw [tbv_congr (g := toldB []) (fun j _ => (told_none j).symm)] at hrow
  have HROW := Lib.hid hrow
  have HB0 := Lib.hid ((Below.refl w.heap.size w).alloc (Nat.le_refl _) (.cells (madeCells #[.bool false] N) 4))
  obtain ⟨S, hS⟩ : ∃ S, S = w.heap.size + 1 := ⟨_, rfl⟩
  have HS := Lib.hid hS
  clear hrow hS
  go_enter Try.func7, Try.ntmps7
  go_wp2_with (rw [hmx])
  go_loopw [6] (fun lv wr => ∃ out : List Int, out.length ≤ N ∧ Hid (Row 1 S wr lv out.length (iv out)) ∧ Hid (Row 1 w.heap.size wr (.slice (some ⟨w.heap.size, 0, none⟩) N N) N (tbv (toldB out) N)) ∧ Hid (ReachK (needE ES) N out) ∧ Hid (Below w.heap.size w wr) ∧ S ≤ wr.heap.size) (fun lv _ => N - (match lv with | .slice _ k _ => k | _ => 0))
  case atStart => exact ⟨[], Nat.zero_le _, Lib.hid (Row.nil _ _ _), HROW, Lib.hid .nil, HB0, by have := HS.out; simp; omega⟩
  case round =>
    obtain ⟨out, hoN, HO, HT, HK, HB, hsz⟩ := hrel
    obtain ⟨oa, oc, rfl⟩ := HO.out.form
    obtain ⟨L, hL⟩ : ∃ L, L = out.length := ⟨_, rfl⟩
    have HL := Lib.hid hL
    rw [← hL] at hoN HO ⊢
    clear hL
    by_cases hlt : L < N
    · have hni : ((N : Int) - 1) = ((N : Int) - 1) := rfl
      go_wp2_with fail
      go_loopw [8, 9, 10] (fun bv iv fv wz => ∃ (m : Nat) (b : Int), bv = .int .i64 b ∧ iv = .int .i64 ((m : Int) - 1) ∧ m ≤ N ∧ Hid (BestS (needE ES) N m out b) ∧ -1 ≤ b ∧ b < (N : Int) ∧ Hid (Below wr.heap.size wr wz)) (fun _ iv _ _ => (intOf iv + 1).toNat)
      case atStart => exact ⟨N, -1, rfl, rfl, Nat.le_refl _, Lib.hid (best_first _ _ _), by omega, by omega, Lib.hid (Below.refl _ _)⟩
      case round =>
        obtain ⟨m, b, rfl, rfl, hmN, HBS, hb1, hb2, HBZ⟩ := hrel
        by_cases hm0 : m = 0
        · subst hm0
          have hm1 : ¬ (((0 : Nat) : Int) - 1) ≥ 0 := by omega
          by_cases hb0 : b < 0
          · have hst : SortR N ES [] false := stuck_of HK.out (best_none HBS.out hb0) (by have := HL.out; omega)
            have HST := Lib.hid hst
            have HB7 := Lib.hid (HB.out.trans (HBZ.out.mono HB.out.size))
            clear hst
            go_wp2_with fail
            go_ret2
            exact ⟨_, [], .inl ⟨rfl, HST.out, .inl ⟨rfl, _, _, rfl⟩, HB7.out⟩⟩
          · obtain ⟨u, rfl⟩ : ∃ u : Nat, b = (u : Int) := ⟨b.toNat, by omega⟩
            obtain ⟨huN, hnx⟩ := best_some HBS.out
            have hK2 : ReachK (needE ES) N (out ++ [(u : Int)]) := .step HK.out hnx
            have HK2 := Lib.hid hK2
            have hT2 := (HT.out.below HBZ.out).put (j := u) (by rw [tbv_len]; exact huN) (.bool true)
            rw [tbv_set (toldB out) (toldB (out ++ [(u : Int)])) huN true (fun v _ => told_step out u v)] at hT2
            obtain ⟨cu, fu, _⟩ := (HT.out.below HBZ.out).cellF (tbv_at (toldB out) huN)
            have hO2 := (HO.out.below HBZ.out).setOther (p := ⟨w.heap.size, u, none⟩) (fun e => by
              have h := (HO.out.lt w.heap.size e).1
              have := HS.out
              omega) (.bool true)
            obtain ⟨w8, hw8⟩ : ∃ w8, w8 = wr.setCell ⟨w.heap.size, u, none⟩ (.bool true) := ⟨_, rfl⟩
            have hb8 : Below w.heap.size w w8 := by rw [hw8]; exact (HB.out.trans (HBZ.out.mono HB.out.size)).setCell (p := ⟨w.heap.size, u, none⟩) (Nat.le_refl _) _
            have hs8 : w8.heap.size = wr.heap.size := by rw [hw8]; simp [World.setCell]
            rw [← hw8] at hT2 hO2
            have hsrc : Src Try.prog 1 24 (.slice (some ⟨w8.heap.size, 0, none⟩) 1 1) 1 [.int .i64 (u : Int)] (w8.alloc (.cells #[.int .i64 (u : Int)] 3)) := src_new Try.underlying24 [.int .i64 (u : Int)] 1 3 1 rfl oneIk
            have HSRC := Lib.hid hsrc
            have HRA := Lib.hid (hO2.alloc (.cells #[.int .i64 (u : Int)] 3))
            have HT2 := Lib.hid (hT2.alloc (.cells #[.int .i64 (u : Int)] 3))
            have hszz := HBZ.out.size
            have hszw : S ≤ (w8.alloc (.cells #[.int .i64 (u : Int)] 3)).heap.size := by simp; omega
            have HBA := Lib.hid (hb8.alloc (by have := HS.out; omega) (.cells #[.int .i64 (u : Int)] 3))
            have HOWN := Lib.hid (fun b hb => (HO.out.lt b hb).1)
            have HW8 := Lib.hid hw8
            clear hw8 hb8 hsrc hT2 hO2 hnx hK2 hs8 HBS
            go_wp2_with (first | rw [← HW8.out] | (at_builtin; refine wpList_append_row rfl (.tmp 69) (.tmp 71) 24 24 rfl 1 3 (.int .i64 0) 8 Try.underlying24 infoIk rfl S (.slice oa L oc) L (iv out) (by simp [Act.eval]) HRA.out (.slice (some ⟨w8.heap.size, 0, none⟩) 1 1) (by simp [Act.eval]) 1 [.int .i64 (u : Int)] HSRC.out hszw (by omega) (by decide) ?_; intro v6 w6 hr6 ho6 hw6; obtain ⟨a6, c6, hv6⟩ := hr6.form; subst hv6; have HR6 := Lib.hid hr6; have HO6 := Lib.hid ho6; clear hr6 ho6 hw6))
            have hl6 : (out ++ [(u : Int)]).length = L + 1 := by rw [List.length_append, ← HL.out]; rfl
            have hsz6 := HO6.out.size
            refine ⟨⟨out ++ [(u : Int)], by omega, ?_, ?_, HK2, Lib.hid (HBA.out.trans (HO6.out.below (B := w.heap.size) (fun b hb => by have := HOWN.out b hb; have := HS.out; omega) (by have := HS.out; omega))), by omega⟩, by simp; omega⟩
            · rw [hl6]
              exact Lib.hid (by simpa [iv] using HR6.out)
            · exact Lib.hid (HT2.out.off HO6.out (fun b hb e => by
                have h1 := HOWN.out b e
                have h2 : w.heap.size = b := by simpa [Value.ownBlock] using hb
                have := HS.out
                omega))
        · obtain ⟨i, rfl⟩ : ∃ i, m = i + 1 := ⟨m - 1, by omega⟩
          have hmi : (((i + 1 : Nat) : Int) - 1) = (i : Int) := by omega
          rw [hmi]
          have hiN : i < N := by omega
          have hi0 : (i : Int) ≥ 0 := by omega
          obtain ⟨ci, _, _⟩ := (HT.out.below HBZ.out).cellF (tbv_at (toldB out) hiN)
          have HF0 : Hid (toldB out i = !freeB (N : Int) (es.take 0) out (i : Int)) := Lib.hid (by rw [free_none, Bool.not_not]; rfl)
          rw [HF0.out] at ci
          obtain ⟨f0, hf0⟩ : ∃ f0, f0 = freeB (N : Int) (es.take 0) out (i : Int) := ⟨_, rfl⟩
          rw [← hf0] at ci
          have HFF := Lib.hid hf0
          have HB2 := Lib.hid (HB.out.trans (HBZ.out.mono HB.out.size))
          have HT2 := Lib.hid (HT.out.below HBZ.out)
          have HO2 := Lib.hid (HO.out.below HBZ.out)
          obtain ⟨w2, hw2⟩ : ∃ w2, w2 = wr := ⟨_, rfl⟩
          rw [← hw2] at HB2 HT2 HO2 HBZ ci ⊢
          clear hmi hf0 HF0 hw2
          go_wp2_with fail
          go_loopw [10, 11] (fun fv kv wr => ∃ (k : Nat) (f : Bool), fv = .bool f ∧ kv = .int .i64 (k : Nat) ∧ k ≤ E ∧ Hid (f = freeB (N : Int) (es.take k) out (i : Int)) ∧ Hid (Below w2.heap.size w2 wr)) (fun _ kv _ => E - (intOf kv).toNat)
          case atStart => exact ⟨0, f0, rfl, rfl, Nat.zero_le _, HFF, Lib.hid (Below.refl _ _)⟩
          case round =>
            clear HFF ci
            obtain ⟨k, f, rfl, rfl, hkE, HF, HBK⟩ := hrel
            by_cases hlk : k < E
            · obtain ⟨e, he⟩ : ∃ e, es[k]? = some e := ⟨es[k]'(by rw [← HE.out]; exact hlk), by simp⟩
              have HTK := Lib.hid (free_step (n := (N : Int)) (told := out) (i := (i : Int)) he)
              obtain ⟨e1, e2⟩ := e
              have hbw := (HB2.out.trans (HBK.out.mono HB2.out.size))
              obtain ⟨vb, vo, rfl, hvb, hvc1, hvc2, d0, d1⟩ := (HR.out.below hbw).at he
              simp only at d0 d1
              unfold maxLen at hvc2
              have hE0 : 0 < E := by omega
              have HD : Hid (∀ w3, Below wr.heap.size wr w3 → w3.cell? ⟨vb, vo + k * 2, none⟩ = some (.int .i64 e1) ∧ w3.cell? ⟨vb, vo + k * 2 + 1, none⟩ = some (.int .i64 e2)) := Lib.hid (fun w3 hb => ⟨(hb.cell (p := ⟨vb, vo + k * 2, none⟩) hvb).trans d0, (hb.cell (p := ⟨vb, vo + k * 2 + 1, none⟩) hvb).trans d1⟩)
              clear he hbw
              go_wp2_with fail
              refine (HRT.out e1 e2 _).mono ?_
              rintro e w3 ⟨rfl, hb3⟩
              obtain ⟨d0, d1⟩ := HD.out w3 hb3
              have HB3 := Lib.hid (HBK.out.trans (hb3.mono HBK.out.size))
              clear hb3 HD HBK
              cases hrp : rightP (N : Int) (e1, e2)
              · have HF2 : Hid (f = freeB (N : Int) (es.take (k + 1)) out (i : Int)) := Lib.hid (by rw [HTK.out, hrp, HF.out]; simp)
                go_wp2_with fail
                exact ⟨⟨k + 1, f, rfl, by go_num, by omega, HF2, HB3⟩, by simp [intOf]; omega⟩
              · obtain ⟨g1, g2, g3, g4⟩ := rightP_iff.1 hrp
                simp only at g1 g2 g3 g4
                obtain ⟨a, rfl⟩ : ∃ a : Nat, e1 = (a : Int) := ⟨e1.toNat, by omega⟩
                have ha : a < N := by omega
                by_cases he2 : e2 = (i : Int)
                · obtain ⟨t, ht⟩ : ∃ t, t = toldB out a := ⟨_, rfl⟩
                  obtain ⟨ca, _, _⟩ := (HT2.out.below HB3.out).cellF (tbv_at (toldB out) ha)
                  rw [← ht] at ca
                  have HF2 : Hid ((f && t) = freeB (N : Int) (es.take (k + 1)) out (i : Int)) := Lib.hid (by
                    have he3 : (e2 == (i : Int)) = true := beq_iff_eq.2 he2
                    have ht2 : out.contains (a : Int) = t := ht.symm
                    rw [HTK.out, hrp, ← HF.out]
                    simp only [he3, ht2, Bool.true_and, Bool.not_not])
                  clear hrp ht
                  subst he2
                  cases t
                  · rw [Bool.and_false] at HF2
                    go_wp2_with fail
                    exact ⟨⟨k + 1, false, rfl, by go_num, by omega, HF2, HB3⟩, by simp [intOf]; omega⟩
                  · rw [Bool.and_true] at HF2
                    go_wp2_with fail
                    exact ⟨⟨k + 1, f, rfl, by go_num, by omega, HF2, HB3⟩, by simp [intOf]; omega⟩
                · have he3 : (e2 == (i : Int)) = false := by rw [beq_eq_false_iff_ne]; exact he2
                  have HF2 : Hid (f = freeB (N : Int) (es.take (k + 1)) out (i : Int)) := Lib.hid (by
                    rw [HTK.out, hrp, ← HF.out]
                    simp only [he3, Bool.false_and, Bool.and_false, Bool.not_false, Bool.and_true])
                  clear hrp
                  go_wp2_with fail
                  exact ⟨⟨k + 1, f, rfl, by go_num, by omega, HF2, HB3⟩, by simp [intOf]; omega⟩
            · have hkk : E = k := by omega
              have HC : Hid (f = canB (needE ES) out i) := Lib.hid (by rw [HF.out, ← hkk, HE.out, List.take_length, HES.out]; exact free_can)
              have HB4 := Lib.hid (HBZ.out.trans (HBK.out.mono HBZ.out.size))
              clear HF HBK
              cases f
              · have HBS2 := Lib.hid (best_skip HBS.out HC.out.symm)
                go_wp2_with fail
                exact ⟨⟨i, b, rfl, by go_num, by omega, HBS2, hb1, hb2, HB4⟩, by simp [intOf]⟩
              · have HBS2 := Lib.hid (best_take hiN HC.out.symm)
                go_wp2_with fail
                exact ⟨⟨i, i, rfl, by go_num, by omega, HBS2, by omega, by omega, HB4⟩, by simp [intOf]⟩
    · have hL2 : N = L := by omega
      go_wp2_with fail
      go_ret2
      exact ⟨_, out, true, rfl, .inl ⟨rfl, HK.out, by have := HL.out; omega⟩, RI.ofRow (B := S) (by rw [← HL.out]; exact HO.out), HB.out⟩
end Go.Proofs.Yteaencgbgfnokaa
