/- The document's Knots. -/
import Derived.Test.YteaencgbgfnokaaKComes
import Derived.Test.YteaencgbgfnokaaKRSortM
set_option linter.unusedVariables false
set_option linter.unusedSimpArgs false
namespace Go.Proofs.Yteaencgbgfnokaa
open Go.ChangeShapes Go.WideShapes Go.ChangeAt Go.RowKit

set_option maxHeartbeats 4000000 in
set_option maxRecDepth 100000 in
theorem rknots_any (n : Int) (es : Ed) (v : Value) (w : World) (hr : RE w v es) (hl : es.length ≤ 400000) (hn1 : -9223372036854775808 ≤ n) (hn : n ≤ 2000) :
    Calls Try.prog 10 #[.int .i64 n, v] w fun e W' => ∃ ov, ∃ ks : Nat → Nat, e = .returned ov ∧ Row 1 w.heap.size W' ov n.toNat (bkv ks n.toNat) ∧ (∀ x, x < n.toNat → LeastK (EdR (toN (amongL n es))) x (ks x)) ∧ Below w.heap.size w W' := by
  have HC := Lib.hid (comes_any n es v w hr hl hn1 hn)
  obtain ⟨va, vc, rfl⟩ := hr.form
  obtain ⟨E, hE⟩ : ∃ E, E = es.length := ⟨_, rfl⟩
  rw [← hE] at HC ⊢
  clear hr hl hE
  by_cases h1 : n < 1
  · have hn0 : n.toNat = 0 := by omega
    have hnn : ¬ (0 : Int) < n := by omega
    rw [hn0] at HC ⊢
    clear hn0
    go_enter Try.func10, Try.ntmps10
    go_wp2_with fail
    refine HC.out.mono ?_
    rintro e w2 ⟨cv, rb, rfl, ht, hb2⟩
    obtain ⟨ca, cc, rfl⟩ := ht.r.form
    have HB2 := Lib.hid hb2
    clear ht hb2 HC
    go_wp2_with fail
    go_loopw [6, 7] (fun lv iv wr => lv = .slice none 0 0 ∧ iv = .int .i64 0 ∧ wr = w2) (fun _ _ _ => 0)
    case atStart => exact ⟨rfl, rfl, rfl⟩
    case round =>
      obtain ⟨rfl, rfl, rfl⟩ := hrel
      go_wp2_with fail
      go_ret
      exact ⟨_, fun _ => 0, rfl, Row.nil _ _ _, fun x hx => absurd hx (Nat.not_lt_zero _), HB2.out⟩
  obtain ⟨N, rfl⟩ : ∃ N : Nat, n = (N : Int) := ⟨n.toNat, by omega⟩
  have hN1 : 1 ≤ N := by omega
  have hN9 : N ≤ 2000 := by omega
  rw [Int.toNat_natCast] at HC ⊢
  obtain ⟨ES, hES⟩ : ∃ ES, ES = toN (amongL (N : Int) es) := ⟨_, rfl⟩
  have hlt : ∀ a b, EdR ES a b → b < N := fun a b h => by rw [hES] at h; exact (toN_lt _ h).2
  rw [← hES] at HC ⊢
  have HLT := Lib.hid hlt
  clear h1 hn1 hn hES hlt
  go_enter Try.func10, Try.ntmps10
  go_wp2_with fail
  refine HC.out.mono ?_
  rintro e w2 ⟨cv, rb, rfl, ht, hb2⟩
  obtain ⟨cb, cc, rfl, hcc1, hcc2⟩ := ht.form (by omega)
  have HT := Lib.hid ht
  have HB2 := Lib.hid hb2
  obtain ⟨S, hS⟩ : ∃ S, S = w2.heap.size := ⟨_, rfl⟩
  have HS := Lib.hid hS
  unfold maxLen at hcc2
  clear ht hb2 HC hS
  go_wp2_with fail
  go_loopw [6, 7] (fun lv iv wr => ∃ (i : Nat) (ks : Nat → Nat), iv = .int .i64 (i : Nat) ∧ i ≤ N ∧ Hid (Row 1 S wr lv i (bkv ks i)) ∧ Hid (∀ x, x < i → LeastK (EdR ES) x (ks x)) ∧ Hid (Below S w2 wr)) (fun _ iv _ => N - (intOf iv).toNat)
  case atStart => exact ⟨0, fun _ => 0, rfl, Nat.zero_le _, Lib.hid (Row.nil _ _ _), Lib.hid (fun x hx => absurd hx (Nat.not_lt_zero _)), Lib.hid (by rw [HS.out]; exact Below.refl _ _)⟩
  case round =>
    obtain ⟨i, ks, rfl, hiN, HR, HK, HB⟩ := hrel
    obtain ⟨oa, oc, rfl⟩ := HR.out.form
    by_cases hlt : i < N
    · go_wp2_with fail
      go_loopw [8] (fun kv wz => ∃ k : Nat, kv = .int .i64 (k : Nat) ∧ k ≤ i ∧ Hid (∀ b, b < k → knotB (edB ES) N i b = false) ∧ Hid (Row 1 S wz (.slice oa i oc) i (bkv ks i)) ∧ Hid (Below S w2 wz)) (fun kv _ => i - (intOf kv).toNat)
      case atStart => exact ⟨0, rfl, Nat.zero_le _, Lib.hid (fun b hb => absurd hb (Nat.not_lt_zero _)), HR, HB⟩
      case round =>
        clear HR HB
        obtain ⟨k, rfl, hki, HN, HR, HB⟩ := hrel
        have hend : knotB (edB ES) N i k = true → Hid (∀ x, x < i + 1 → LeastK (EdR ES) x (upd ks i k x)) := fun h => Lib.hid fun x hx => by
          by_cases e : x = i
          · subst e
            rw [upd_same]
            exact least_of (fun a b => edB_iff ES a b) HLT.out h HN.out
          · rw [upd_other _ _ e]
            exact HK.out x (by omega)
        have HEND := Lib.hid hend
        clear hend
        have HT2 := Lib.hid (HT.out.below (by have := HB.out; rw [HS.out] at this; exact this))
        have ri := HT2.out.row hlt
        obtain ⟨y, hy⟩ : ∃ y, y = viaB (edB ES) N i k := ⟨_, rfl⟩
        obtain ⟨z, hz⟩ : ∃ z, z = viaB (edB ES) N k i := ⟨_, rfl⟩
        by_cases hki2 : k = i
        · subst hki2
          have HE2 := HEND.out (knot_refl _ _ _)
          have hsrc : Src Try.prog 1 24 (.slice (some ⟨wr.heap.size, 0, none⟩) 1 1) 1 [.int .i64 (k : Int)] (wr.alloc (.cells #[.int .i64 (k : Int)] 3)) := src_new Try.underlying24 [.int .i64 (k : Int)] 1 3 1 rfl oneIk
          have HSRC := Lib.hid hsrc
          have HRA := Lib.hid (HR.out.alloc (.cells #[.int .i64 (k : Int)] 3))
          have hszw : S ≤ (wr.alloc (.cells #[.int .i64 (k : Int)] 3)).heap.size := by have := HB.out.size; have := HS.out; simp; omega
          have HBA := Lib.hid (HB.out.alloc (by have := HB.out.size; have := HS.out; omega) (.cells #[.int .i64 (k : Int)] 3))
          have HOWN := Lib.hid (fun b hb => (HR.out.lt b hb).1)
          clear hsrc hy hz y z HEND HN ri
          go_wp2_with (at_builtin; refine wpList_append_row rfl (.tmp 41) (.tmp 43) 24 24 rfl 1 3 (.int .i64 0) 8 Try.underlying24 infoIk rfl S (.slice oa k oc) k (bkv ks k) (by simp [Act.eval]) HRA.out (.slice (some ⟨wr.heap.size, 0, none⟩) 1 1) (by simp [Act.eval]) 1 [.int .i64 (k : Int)] HSRC.out hszw (by omega) (by decide) ?_; intro v6 w6 hr6 ho6 hw6; rw [← bkv_snoc] at hr6; obtain ⟨a6, c6, hv6⟩ := hr6.form; subst hv6; have HR6 := Lib.hid hr6; have HO6 := Lib.hid ho6; clear hr6 ho6 hw6)
          exact ⟨⟨k + 1, upd ks k k, by go_num, by omega, HR6, HE2, Lib.hid (HBA.out.trans (HO6.out.below (B := S) HOWN.out hszw))⟩, by simp [intOf]; omega⟩
        · have hkN : k < N := by omega
          have rk := HT2.out.row hkN
          obtain ⟨cik, _⟩ := HT2.out.cell hlt hkN
          obtain ⟨cki, _⟩ := HT2.out.cell hkN hlt
          rw [← hy] at cik
          rw [← hz] at cki
          have hkb : knotB (edB ES) N i k = (y && z) := by rw [hy, hz]; exact knot_ne (fun e => hki2 e.symm)
          have hne : ¬ (k : Int) = (i : Int) := by omega
          have HN2 : (y && z) = false → Hid (∀ b, b < k + 1 → knotB (edB ES) N i b = false) := fun h => Lib.hid fun b hb => by
            by_cases e : b = k
            · rw [e, hkb]; exact h
            · exact HN.out b (by omega)
          have HE2 : (y && z) = true → Hid (∀ x, x < i + 1 → LeastK (EdR ES) x (upd ks i k x)) := fun h => HEND.out (hkb.trans h)
          have HH := Lib.hid HN2
          have HH2 := Lib.hid HE2
          clear hy hz hkb HN2 HE2 HEND HN
          cases y
          · have HN3 := HH.out rfl
            clear HH HH2
            go_wp2_with fail
            exact ⟨⟨k + 1, by go_num, by omega, HN3, HR, HB⟩, by simp [intOf]; omega⟩
          · cases z
            · have HN3 := HH.out rfl
              clear HH HH2
              go_wp2_with fail
              exact ⟨⟨k + 1, by go_num, by omega, HN3, HR, HB⟩, by simp [intOf]; omega⟩
            · have HE3 := HH2.out rfl
              clear HH HH2
              have hsrc : Src Try.prog 1 24 (.slice (some ⟨wr.heap.size, 0, none⟩) 1 1) 1 [.int .i64 (k : Int)] (wr.alloc (.cells #[.int .i64 (k : Int)] 3)) := src_new Try.underlying24 [.int .i64 (k : Int)] 1 3 1 rfl oneIk
              have HSRC := Lib.hid hsrc
              have HRA := Lib.hid (HR.out.alloc (.cells #[.int .i64 (k : Int)] 3))
              have hszw : S ≤ (wr.alloc (.cells #[.int .i64 (k : Int)] 3)).heap.size := by have := HB.out.size; have := HS.out; simp; omega
              have HBA := Lib.hid (HB.out.alloc (by have := HB.out.size; have := HS.out; omega) (.cells #[.int .i64 (k : Int)] 3))
              have HOWN := Lib.hid (fun b hb => (HR.out.lt b hb).1)
              clear hsrc
              go_wp2_with (at_builtin; refine wpList_append_row rfl (.tmp 41) (.tmp 43) 24 24 rfl 1 3 (.int .i64 0) 8 Try.underlying24 infoIk rfl S (.slice oa i oc) i (bkv ks i) (by simp [Act.eval]) HRA.out (.slice (some ⟨wr.heap.size, 0, none⟩) 1 1) (by simp [Act.eval]) 1 [.int .i64 (k : Int)] HSRC.out hszw (by omega) (by decide) ?_; intro v6 w6 hr6 ho6 hw6; rw [← bkv_snoc] at hr6; obtain ⟨a6, c6, hv6⟩ := hr6.form; subst hv6; have HR6 := Lib.hid hr6; have HO6 := Lib.hid ho6; clear hr6 ho6 hw6)
              exact ⟨⟨i + 1, upd ks i k, by go_num, by omega, HR6, HE3, Lib.hid (HBA.out.trans (HO6.out.below (B := S) HOWN.out hszw))⟩, by simp [intOf]; omega⟩
    · have hii : N = i := by omega
      subst hii
      go_wp2_with fail
      go_ret
      exact ⟨_, ks, rfl, HR.out.mono (by have := HB2.out.size; have := HS.out; omega), HK.out, HB2.out.trans (HB.out.mono (by have := HB2.out.size; have := HS.out; omega))⟩
end Go.Proofs.Yteaencgbgfnokaa
