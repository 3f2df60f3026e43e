/- The contract of sweep. -/
import Derived.Test.YtmfibianieboeaaGreatV18
set_option linter.unusedVariables false
namespace Go.Proofs.YtmfibianieboeaaGreat
open Go.ChangeShapes Go.WideShapes Go.ChangeAt Go.RowKit

def endB (es : List (Nat × Nat)) (v : Nat) : Bool := es.any fun e => e.1 == v || e.2 == v
theorem endB_iff {es : List (Nat × Nat)} {v : Nat} : endB es v = true ↔ ∃ e ∈ es, e.1 = v ∨ e.2 = v := by simp [endB]
theorem endB_snoc (es : List (Nat × Nat)) (e : Nat × Nat) (v : Nat) : endB (es ++ [e]) v = (endB es v || (e.1 == v || e.2 == v)) := by simp [endB]
def tiedL (es : List (Nat × Nat)) (i : Nat) : List Nat := (List.range i).filter (endB es)
theorem tiedL_succ (es : List (Nat × Nat)) (i : Nat) : tiedL es (i + 1) = tiedL es i ++ if endB es i then [i] else [] := by
  unfold tiedL
  rw [List.range_succ, List.filter_append]
  cases h : endB es i <;> simp [h]
theorem tiedL_len (es : List (Nat × Nat)) (i : Nat) : (tiedL es i).length ≤ i := Nat.le_trans (List.length_filter_le _ _) (by simp)
theorem tied_tiedL {n : Nat} {es : List (Nat × Nat)} (h : ∀ e ∈ es, e.1 < n ∧ e.2 < n) : Tied n es (tiedL es n) := by
  refine ⟨(List.pairwise_lt_range (n := n)).filter _, fun t ht => List.mem_range.1 (List.mem_filter.1 ht).1, fun e he => ?_, fun e he => ?_⟩
  · exact List.mem_filter.2 ⟨List.mem_range.2 (h e he).1, endB_iff.2 ⟨e, he, .inl rfl⟩⟩
  · exact List.mem_filter.2 ⟨List.mem_range.2 (h e he).2, endB_iff.2 ⟨e, he, .inr rfl⟩⟩
theorem tiedL_idx (es : List (Nat × Nat)) : ∀ {i v : Nat}, v < i → endB es v = true → (tiedL es i)[(tiedL es v).length]? = some v
  | 0, v, h, _ => absurd h (by omega)
  | i + 1, v, h, hv => by
    rw [tiedL_succ]
    rcases Nat.lt_or_ge v i with hlt | hge
    · have ih := tiedL_idx es hlt hv
      rw [List.getElem?_append_left (List.getElem?_eq_some_iff.1 ih).1]
      exact ih
    · obtain rfl : v = i := by omega
      rw [List.getElem?_append_right (Nat.le_refl _), Nat.sub_self, if_pos hv]
      rfl
def named1 (es : List (Nat × Nat)) (v : Nat) : Nat := if endB es v then 1 else 0
def named2 (es : List (Nat × Nat)) (i v : Nat) : Nat := if endB es v then (if v < i then (tiedL es v).length else 1) else 0

set_option maxHeartbeats 2000000 in
set_option maxRecDepth 100000 in
theorem sweep_any {w : World} (es : List (Nat × Nat)) (n : Nat) (v : Value) (hr : RE w v (toI es)) (hl : es.length ≤ 900000) (hn : n ≤ 900000) (hlt : ∀ e ∈ es, e.1 < n ∧ e.2 < n) :
    Calls Tryz.prog 44 #[.int .i64 (n : Nat), v] w fun e W' => ∃ tv pb, e = .returned (.tuple #[tv, .slice (some ⟨pb, 0, none⟩) n n]) ∧ Row 1 w.heap.size W' tv (tiedL es n).length (iv (nl (tiedL es n))) ∧ Row 1 w.heap.size W' (.slice (some ⟨pb, 0, none⟩) n n) n (bkv (named2 es n) n) ∧ (∀ b, tv.ownBlock = some b → b ≠ pb) ∧ Below w.heap.size w W' := by
  obtain ⟨va, vc, rfl⟩ := hr.form
  obtain ⟨E, hE⟩ : ∃ E, E = es.length := ⟨_, rfl⟩
  have hlI : (toI es).length = E := by rw [hE]; simp [toI]
  rw [hlI] at hr ⊢
  rw [← hE] at hl
  have mk1 := run_make_row' (P := Tryz.prog) 23 3 (.int .i64 0) 8 Tryz.underlying23 infoIk rfl .i64 .i64 n (by omega) (by omega)
  have HR := Lib.hid hr
  have HLT := Lib.hid hlt
  have HE := Lib.hid hE
  have HI : Hid (∀ (j : Nat) e, es[j]? = some e → (toI es)[j]? = some ((e.1 : Int), (e.2 : Int))) := Lib.hid (fun j e he => by simp [toI, he])
  have hb0 := (Below.refl w.heap.size w).alloc (Nat.le_refl _) (.cells (madeCells #[.int .i64 0] n) 3)
  have hr0 : Row 1 w.heap.size (w.alloc (.cells (madeCells #[.int .i64 0] n) 3)) (.slice (some ⟨w.heap.size, 0, none⟩) n n) n (bkv (named1 []) n) := by
    have : bkv (named1 []) n = iv (List.replicate n 0) := by rw [← bkv_zero]; rfl
    rw [this]
    exact made_intk (by omega) (Nat.le_refl _) _
  have HB0 := Lib.hid hb0
  have HR0 := Lib.hid hr0
  have HS0 : Hid (w.heap.size < (w.alloc (.cells (madeCells #[.int .i64 0] n) 3)).heap.size) := Lib.hid (by simp)
  obtain ⟨pb, hpb⟩ : ∃ pb, pb = w.heap.size := ⟨_, rfl⟩
  clear hr hlI hlt hE hb0 hr0
  go_enter Tryz.func44, Tryz.ntmps44
  clear hpb
  go_wp2_with fail
  go_loopw [14] (fun jv wr => ∃ j : Nat, jv = .int .i64 (j : Nat) ∧ j ≤ E ∧ Hid (Row 1 w.heap.size wr (.slice (some ⟨w.heap.size, 0, none⟩) n n) n (bkv (named1 (es.take j)) n)) ∧ Hid (Below w.heap.size w wr) ∧ w.heap.size < wr.heap.size) (fun jv _ => E - (intOf jv).toNat)
  case atStart => exact ⟨0, rfl, Nat.zero_le _, HR0, HB0, HS0.out⟩
  case round =>
    obtain ⟨j, rfl, hjE, HW, HB, hsz⟩ := hrel
    by_cases hlt : j < E
    · obtain ⟨e, he⟩ : ∃ e, es[j]? = some e := ⟨es[j]'(by rw [← HE.out]; exact hlt), by simp⟩
      have hem := HLT.out e (List.mem_of_getElem? he)
      obtain ⟨a, b⟩ := e
      obtain ⟨vb, vo, rfl, hvb, hvc1, hvc2, d0, d1⟩ := (HR.out.below HB.out).at (HI.out j _ he)
      simp only at d0 d1 hem
      obtain ⟨han, hbn⟩ := hem
      have haI : (a : Int) < (n : Int) := by omega
      have hbI : (b : Int) < (n : Int) := by omega
      obtain ⟨z, hz⟩ : ∃ z, z = wr.heap.size := ⟨_, rfl⟩
      obtain ⟨wz, hwz⟩ : ∃ wz, wz = wr.alloc (.cells #[.int .i64 (a : Int), .int .i64 (b : Int)] 36) := ⟨_, rfl⟩
      have hbz : Below wr.heap.size wr wz := by rw [hwz]; exact (Below.refl _ _).alloc (Nat.le_refl _) _
      have z0 : wz.cell? ⟨z, 0, none⟩ = some (.int .i64 (a : Int)) := by rw [hwz, hz, World.cell?_alloc_at _ _ _ _ rfl]; rfl
      have z1 : wz.cell? ⟨z, 1, none⟩ = some (.int .i64 (b : Int)) := by rw [hwz, hz, World.cell?_alloc_at _ _ _ _ rfl]; rfl
      have hrz := HW.out.below hbz
      obtain ⟨xa, fa, _⟩ := hrz.cellF (bkv_at _ han)
      obtain ⟨xb, fb, _⟩ := hrz.cellF (bkv_at _ hbn)
      have hp1 := hrz.put (j := a) (by rw [bkv_len]; exact han) (.int .i64 1)
      have hsa : (bkv (named1 (es.take j)) n).set a (.int .i64 1) = bkv (upd (named1 (es.take j)) a 1) n := bkv_set _ han
      rw [hsa] at hp1
      obtain ⟨xb2, fb2, _⟩ := hp1.cellF (bkv_at _ hbn)
      have hp2 := hp1.put (j := b) (by rw [bkv_len]; exact hbn) (.int .i64 1)
      have hsb : (bkv (upd (named1 (es.take j)) a 1) n).set b (.int .i64 1) = bkv (upd (upd (named1 (es.take j)) a 1) b 1) n := bkv_set _ hbn
      have hcg : bkv (upd (upd (named1 (es.take j)) a 1) b 1) n = bkv (named1 (es.take (j + 1))) n := bkv_congr (fun v _ => by
        rw [take_snoc he]
        unfold named1
        rw [endB_snoc]
        by_cases e1 : v = b
        · subst e1; rw [upd_same]; simp
        · rw [upd_other _ _ e1]
          by_cases e2 : v = a
          · subst e2; rw [upd_same]; simp
          · rw [upd_other _ _ e2]
            have h1 : (a == v) = false := by rw [beq_eq_false_iff_ne]; exact fun x => e2 x.symm
            have h2 : (b == v) = false := by rw [beq_eq_false_iff_ne]; exact fun x => e1 x.symm
            simp [h1, h2])
      rw [hsb, hcg] at hp2
      have hbn2 : Below w.heap.size w ((wz.setCell ⟨w.heap.size, a, none⟩ (.int .i64 1)).setCell ⟨w.heap.size, b, none⟩ (.int .i64 1)) := (((HB.out.trans (hbz.mono HB.out.size)).setCell (p := ⟨w.heap.size, a, none⟩) (Nat.le_refl _) _).setCell (p := ⟨w.heap.size, b, none⟩) (Nat.le_refl _) _)
      have HP2 := Lib.hid hp2
      have HBN := Lib.hid hbn2
      have HWZ := Lib.hid hwz
      have hszz : w.heap.size < ((wz.setCell ⟨w.heap.size, a, none⟩ (.int .i64 1)).setCell ⟨w.heap.size, b, none⟩ (.int .i64 1)).heap.size := by have := hbz.size; simp [World.setCell]; omega
      have HSZ := Lib.hid hszz
      unfold maxLen at hvc2
      have hzw : z ≠ w.heap.size := by omega
      have hzw2 : w.heap.size ≠ z := by omega
      clear hrz hp1 hsa hsb hcg hp2 hbn2 he hbz hwz hszz
      go_wp2_with fail
      rw [← hz, ← HWZ.out]
      clear hz d0 d1
      go_region
      go_wp2_with fail
      exact ⟨⟨j + 1, by go_num, by omega, Lib.hid (HP2.out.below (Below.refl _ _).drew), Lib.hid HBN.out.drew, HSZ.out⟩, by simp [intOf]; omega⟩
    · have hjj : E = j := by omega
      have hf : Row 1 w.heap.size wr (.slice (some ⟨w.heap.size, 0, none⟩) n n) n (bkv (named2 es 0) n) := by
        have h := HW.out
        rw [← hjj, HE.out, List.take_length] at h
        have : bkv (named1 es) n = bkv (named2 es 0) n := bkv_congr (fun v _ => by unfold named1 named2; simp)
        rw [this] at h
        exact h
      have HF := Lib.hid hf
      have hro : Row 1 (w.heap.size + 1) wr (.slice none 0 0) 0 (iv (nl (tiedL es 0))) := Row.nil _ _ _
      have HRO := Lib.hid hro
      clear hf HW hro
      subst hjj
      go_wp2_with fail
      go_loopw [4, 29] (fun tv jv wr => ∃ i k : Nat, jv = .int .i64 (i : Nat) ∧ i ≤ n ∧ Hid (k = (tiedL es i).length) ∧ Hid (Row 1 (w.heap.size + 1) wr tv k (iv (nl (tiedL es i)))) ∧ Hid (Row 1 w.heap.size wr (.slice (some ⟨w.heap.size, 0, none⟩) n n) n (bkv (named2 es i) n)) ∧ Hid (Below w.heap.size w wr) ∧ w.heap.size < wr.heap.size) (fun _ jv _ => n - (intOf jv).toNat)
      case atStart => exact ⟨0, 0, rfl, Nat.zero_le _, Lib.hid rfl, HRO, HF, HB, hsz⟩
      case round =>
        obtain ⟨i, k, rfl, hin, HK, HT, HP, HB, hsz⟩ := hrel
        obtain ⟨ta, tc, rfl⟩ := HT.out.form
        by_cases hlt : i < n
        · obtain ⟨xb, xf, _⟩ := HP.out.cellF (bkv_at _ hlt)
          have hk9 : k ≤ 900000 := by have := tiedL_len es i; rw [← HK.out] at this; omega
          have hst := tiedL_succ es i
          cases hei : endB es i with
          | false =>
            have h0 : named2 es i i = 0 := by unfold named2; rw [hei]; rfl
            rw [h0] at xb
            rw [hei] at hst
            simp only [Bool.false_eq_true, if_false, List.append_nil] at hst
            have HST := Lib.hid hst
            have hcg : bkv (named2 es i) n = bkv (named2 es (i + 1)) n := bkv_congr (fun v _ => by
              unfold named2
              by_cases e : v = i
              · subst e; rw [hei]; rfl
              · have : v < i ↔ v < i + 1 := by omega
                simp [this])
            have HP2 : Hid (Row 1 w.heap.size wr (.slice (some ⟨w.heap.size, 0, none⟩) n n) n (bkv (named2 es (i + 1)) n)) := Lib.hid (by rw [← hcg]; exact HP.out)
            clear hst hcg h0 hei
            go_wp2_with fail
            exact ⟨⟨i + 1, k, by go_num, by omega, Lib.hid (by rw [HST.out]; exact HK.out), Lib.hid (by rw [HST.out]; exact HT.out), HP2, HB, hsz⟩, by simp [intOf]; omega⟩
          | true =>
            have h0 : named2 es i i = 1 := by unfold named2; rw [hei]; simp
            rw [h0] at xb
            rw [hei] at hst
            simp only [if_true] at hst
            have HST := Lib.hid hst
            obtain ⟨w5, hw5⟩ : ∃ w5, w5 = wr.setCell ⟨w.heap.size, i, none⟩ (.int .i64 (k : Int)) := ⟨_, rfl⟩
            have ho5 : Off (fun b => b = w.heap.size) wr w5 := by rw [hw5]; exact (Off.refl (fun b => b = w.heap.size) wr).setCell (p := ⟨w.heap.size, i, none⟩) (.inr rfl) _
            have hp5 : Row 1 w.heap.size w5 (.slice (some ⟨w.heap.size, 0, none⟩) n n) n (bkv (named2 es (i + 1)) n) := by
              have h := HP.out.put (j := i) (by rw [bkv_len]; exact hlt) (.int .i64 (k : Int))
              rw [bkv_set _ hlt, ← hw5] at h
              have hcg : bkv (upd (named2 es i) i k) n = bkv (named2 es (i + 1)) n := bkv_congr (fun v _ => by
                by_cases e : v = i
                · subst e; rw [upd_same]; unfold named2; rw [hei, if_pos rfl, if_pos (by omega)]; exact HK.out
                · rw [upd_other _ _ e]
                  unfold named2
                  have : v < i ↔ v < i + 1 := by omega
                  simp [this])
              rw [hcg] at h
              exact h
            have ht5 : Row 1 (w.heap.size + 1) w5 (.slice ta k tc) k (iv (nl (tiedL es i))) := HT.out.off ho5 (fun b hb e => by have := (HT.out.lt b hb).1; omega)
            have hs5 : w5.heap.size = wr.heap.size := by rw [hw5]; simp [World.setCell]
            have hb5 : Below w.heap.size w w5 := by rw [hw5]; exact HB.out.setCell (p := ⟨w.heap.size, i, none⟩) (Nat.le_refl _) _
            have HP5 := Lib.hid hp5
            have HB5 := Lib.hid hb5
            have hsrc : Src Tryz.prog 1 23 (.slice (some ⟨w5.heap.size, 0, none⟩) 1 1) 1 [.int .i64 (i : Nat)] (w5.alloc (.cells #[.int .i64 (i : Nat)] 3)) := src_new Tryz.underlying23 [.int .i64 (i : Nat)] 1 3 1 rfl oneIk
            have HSRC := Lib.hid hsrc
            have HRA := Lib.hid (ht5.alloc (.cells #[.int .i64 (i : Nat)] 3))
            have hszw : w.heap.size + 1 ≤ (w5.alloc (.cells #[.int .i64 (i : Nat)] 3)).heap.size := by simp; omega
            have HTL := Lib.hid (fun b hb => (ht5.lt b hb).1)
            subst hw5
            clear hst h0 hei ho5 hp5 ht5 hb5 hsrc hs5
            go_wp2_with (at_builtin; refine wpList_append_row rfl (.tmp 41) (.tmp 43) 23 23 rfl 1 3 (.int .i64 0) 8 Tryz.underlying23 infoIk rfl (w.heap.size + 1) (.slice ta k tc) k (iv (nl (tiedL es i))) (by simp [Act.eval]) HRA.out (.slice (some ⟨(wr.setCell ⟨w.heap.size, i, none⟩ (.int .i64 (k : Int))).heap.size, 0, none⟩) 1 1) (by simp [Act.eval]) 1 [.int .i64 (i : Nat)] HSRC.out hszw (by omega) (by decide) ?_; intro v6 w6 hr6 ho6 hw6; obtain ⟨a6, c6, hv6⟩ := hr6.form; subst hv6; have HR6 := Lib.hid hr6; have HO6 := Lib.hid ho6; clear hr6 ho6 hw6)
            have hoa : Off (fun b => (Value.slice ta k tc).ownBlock = some b) (wr.setCell ⟨w.heap.size, i, none⟩ (.int .i64 (k : Int))) w6 := ((Off.refl _ _).alloc _).trans HO6.out
            have hp6 := HP5.out.off hoa (fun b hb e => by have hb : w.heap.size = b := Option.some.inj hb; have := HTL.out b e; omega)
            have hb6 : Below w.heap.size w w6 := HB5.out.trans (hoa.below (B := w.heap.size) (fun b hb => by have := HTL.out b hb; omega) HB5.out.size)
            have hs6 := hoa.size
            refine ⟨⟨i + 1, k + 1, by go_num, by omega, Lib.hid (by rw [HST.out, List.length_append, ← HK.out]; rfl), Lib.hid ?_, Lib.hid hp6, Lib.hid hb6, ?_⟩, by simp [intOf]; omega⟩
            · have : iv (nl (tiedL es (i + 1))) = iv (nl (tiedL es i)) ++ [.int .i64 (i : Nat)] := by rw [HST.out]; simp [iv, nl]
              rw [this]
              exact HR6.out
            · simp [World.setCell] at hs6
              omega
        · have hii : n = i := by omega
          subst hii
          have HLT2 := Lib.hid (fun b hb => (HT.out.lt b hb).1)
          go_wp2_with fail
          go_ret2
          exact ⟨_, _, rfl, by rw [← HK.out]; exact HT.out.mono (by omega), HP.out, fun b hb e => by have := HLT2.out b hb; omega, HB.out⟩
end Go.Proofs.YtmfibianieboeaaGreat
