/- The contract of sweep. Sorted numbers without their doubles, in memory; the contract of ends. -/
import Derived.Sort.OwnSorted
import Derived.Lib.RowBridge
import Derived.Test.YtfpepoebammeoaaGreatShelf
import Derived.Test.YtfpepoebammeoaaGreatU15
set_option linter.unusedVariables false
namespace Go.Proofs.YtfpepoebammeoaaGreat
open Go.ChangeShapes Go.WideShapes Go.ChangeAt Go.RowKit

def endB (es : List (Nat × Nat)) (v : Nat) : Bool := es.any fun e => e.1 == v || e.2 == v
theorem endB_iff {es : List (Nat × Nat)} {v : Nat} : endB es v = true ↔ ∃ e ∈ es, e.1 = v ∨ e.2 = v := by simp [endB]
theorem endB_snoc (es : List (Nat × Nat)) (e : Nat × Nat) (v : Nat) : endB (es ++ [e]) v = (endB es v || (e.1 == v || e.2 == v)) := by simp [endB]
def tiedL (es : List (Nat × Nat)) (i : Nat) : List Nat := (List.range i).filter (endB es)
theorem tiedL_succ (es : List (Nat × Nat)) (i : Nat) : tiedL es (i + 1) = tiedL es i ++ if endB es i then [i] else [] := by
  unfold tiedL
  rw [List.range_succ, List.filter_append]
  cases h : endB es i <;> simp [h]
theorem tiedL_len (es : List (Nat × Nat)) (i : Nat) : (tiedL es i).length ≤ i := Nat.le_trans (List.length_filter_le _ _) (by simp)
theorem tied_tiedL {n : Nat} {es : List (Nat × Nat)} (h : ∀ e ∈ es, e.1 < n ∧ e.2 < n) : Tied n es (tiedL es n) := by
  refine ⟨(List.pairwise_lt_range (n := n)).filter _, fun t ht => List.mem_range.1 (List.mem_filter.1 ht).1, fun e he => ?_, fun e he => ?_⟩
  · exact List.mem_filter.2 ⟨List.mem_range.2 (h e he).1, endB_iff.2 ⟨e, he, .inl rfl⟩⟩
  · exact List.mem_filter.2 ⟨List.mem_range.2 (h e he).2, endB_iff.2 ⟨e, he, .inr rfl⟩⟩
theorem tiedL_idx (es : List (Nat × Nat)) : ∀ {i v : Nat}, v < i → endB es v = true → (tiedL es i)[(tiedL es v).length]? = some v
  | 0, v, h, _ => absurd h (by omega)
  | i + 1, v, h, hv => by
    rw [tiedL_succ]
    rcases Nat.lt_or_ge v i with hlt | hge
    · have ih := tiedL_idx es hlt hv
      rw [List.getElem?_append_left (List.getElem?_eq_some_iff.1 ih).1]
      exact ih
    · obtain rfl : v = i := by omega
      rw [List.getElem?_append_right (Nat.le_refl _), Nat.sub_self, if_pos hv]
      rfl
def named1 (es : List (Nat × Nat)) (v : Nat) : Nat := if endB es v then 1 else 0
def named2 (es : List (Nat × Nat)) (i v : Nat) : Nat := if endB es v then (if v < i then (tiedL es v).length else 1) else 0

set_option maxHeartbeats 2000000 in
set_option maxRecDepth 100000 in
theorem sweep_any {w : World} (es : List (Nat × Nat)) (n : Nat) (v : Value) (hr : RE w v (toI es)) (hl : es.length ≤ 900000) (hn : n ≤ 900000) (hlt : ∀ e ∈ es, e.1 < n ∧ e.2 < n) :
    Calls Tryz.prog 44 #[.int .i64 (n : Nat), v] w fun e W' => ∃ tv pb, e = .returned (.tuple #[tv, .slice (some ⟨pb, 0, none⟩) n n]) ∧ Row 1 w.heap.size W' tv (tiedL es n).length (iv (nl (tiedL es n))) ∧ Row 1 w.heap.size W' (.slice (some ⟨pb, 0, none⟩) n n) n (bkv (named2 es n) n) ∧ (∀ b, tv.ownBlock = some b → b ≠ pb) ∧ Below w.heap.size w W' := by
  obtain ⟨va, vc, rfl⟩ := hr.form
  obtain ⟨E, hE⟩ : ∃ E, E = es.length := ⟨_, rfl⟩
  have hlI : (toI es).length = E := by rw [hE]; simp [toI]
  rw [hlI] at hr ⊢
  rw [← hE] at hl
  have mk1 := run_make_row' (P := Tryz.prog) 23 3 (.int .i64 0) 8 Tryz.underlying23 infoIk rfl .i64 .i64 n (by omega) (by omega)
  have HR := Lib.hid hr
  have HLT := Lib.hid hlt
  have HE := Lib.hid hE
  have HI : Hid (∀ (j : Nat) e, es[j]? = some e → (toI es)[j]? = some ((e.1 : Int), (e.2 : Int))) := Lib.hid (fun j e he => by simp [toI, he])
  have hb0 := (Below.refl w.heap.size w).alloc (Nat.le_refl _) (.cells (madeCells #[.int .i64 0] n) 3)
  have hr0 : Row 1 w.heap.size (w.alloc (.cells (madeCells #[.int .i64 0] n) 3)) (.slice (some ⟨w.heap.size, 0, none⟩) n n) n (bkv (named1 []) n) := by
    have : bkv (named1 []) n = iv (List.replicate n 0) := by rw [← bkv_zero]; rfl
    rw [this]
    exact made_intk (by omega) (Nat.le_refl _) _
  have HB0 := Lib.hid hb0
  have HR0 := Lib.hid hr0
  have HS0 : Hid (w.heap.size < (w.alloc (.cells (madeCells #[.int .i64 0] n) 3)).heap.size) := Lib.hid (by simp)
  obtain ⟨pb, hpb⟩ : ∃ pb, pb = w.heap.size := ⟨_, rfl⟩
  clear hr hlI hlt hE hb0 hr0
  go_enter Tryz.func44, Tryz.ntmps44
  clear hpb
  go_wp2_with fail
  go_loopw [14] (fun jv wr => ∃ j : Nat, jv = .int .i64 (j : Nat) ∧ j ≤ E ∧ Hid (Row 1 w.heap.size wr (.slice (some ⟨w.heap.size, 0, none⟩) n n) n (bkv (named1 (es.take j)) n)) ∧ Hid (Below w.heap.size w wr) ∧ w.heap.size < wr.heap.size) (fun jv _ => E - (intOf jv).toNat)
  case atStart => exact ⟨0, rfl, Nat.zero_le _, HR0, HB0, HS0.out⟩
  case round =>
    obtain ⟨j, rfl, hjE, HW, HB, hsz⟩ := hrel
    by_cases hlt : j < E
    · obtain ⟨e, he⟩ : ∃ e, es[j]? = some e := ⟨es[j]'(by rw [← HE.out]; exact hlt), by simp⟩
      have hem := HLT.out e (List.mem_of_getElem? he)
      obtain ⟨a, b⟩ := e
      obtain ⟨vb, vo, rfl, hvb, hvc1, hvc2, d0, d1⟩ := (HR.out.below HB.out).at (HI.out j _ he)
      simp only at d0 d1 hem
      obtain ⟨han, hbn⟩ := hem
      have haI : (a : Int) < (n : Int) := by omega
      have hbI : (b : Int) < (n : Int) := by omega
      obtain ⟨z, hz⟩ : ∃ z, z = wr.heap.size := ⟨_, rfl⟩
      obtain ⟨wz, hwz⟩ : ∃ wz, wz = wr.alloc (.cells #[.int .i64 (a : Int), .int .i64 (b : Int)] 36) := ⟨_, rfl⟩
      have hbz : Below wr.heap.size wr wz := by rw [hwz]; exact (Below.refl _ _).alloc (Nat.le_refl _) _
      have z0 : wz.cell? ⟨z, 0, none⟩ = some (.int .i64 (a : Int)) := by rw [hwz, hz, World.cell?_alloc_at _ _ _ _ rfl]; rfl
      have z1 : wz.cell? ⟨z, 1, none⟩ = some (.int .i64 (b : Int)) := by rw [hwz, hz, World.cell?_alloc_at _ _ _ _ rfl]; rfl
      have hrz := HW.out.below hbz
      obtain ⟨xa, fa, _⟩ := hrz.cellF (bkv_at _ han)
      obtain ⟨xb, fb, _⟩ := hrz.cellF (bkv_at _ hbn)
      have hp1 := hrz.put (j := a) (by rw [bkv_len]; exact han) (.int .i64 1)
      have hsa : (bkv (named1 (es.take j)) n).set a (.int .i64 1) = bkv (upd (named1 (es.take j)) a 1) n := bkv_set _ han
      rw [hsa] at hp1
      obtain ⟨xb2, fb2, _⟩ := hp1.cellF (bkv_at _ hbn)
      have hp2 := hp1.put (j := b) (by rw [bkv_len]; exact hbn) (.int .i64 1)
      have hsb : (bkv (upd (named1 (es.take j)) a 1) n).set b (.int .i64 1) = bkv (upd (upd (named1 (es.take j)) a 1) b 1) n := bkv_set _ hbn
      have hcg : bkv (upd (upd (named1 (es.take j)) a 1) b 1) n = bkv (named1 (es.take (j + 1))) n := bkv_congr (fun v _ => by
        rw [take_snoc he]
        unfold named1
        rw [endB_snoc]
        by_cases e1 : v = b
        · subst e1; rw [upd_same]; simp
        · rw [upd_other _ _ e1]
          by_cases e2 : v = a
          · subst e2; rw [upd_same]; simp
          · rw [upd_other _ _ e2]
            have h1 : (a == v) = false := by rw [beq_eq_false_iff_ne]; exact fun x => e2 x.symm
            have h2 : (b == v) = false := by rw [beq_eq_false_iff_ne]; exact fun x => e1 x.symm
            simp [h1, h2])
      rw [hsb, hcg] at hp2
      have hbn2 : Below w.heap.size w ((wz.setCell ⟨w.heap.size, a, none⟩ (.int .i64 1)).setCell ⟨w.heap.size, b, none⟩ (.int .i64 1)) := (((HB.out.trans (hbz.mono HB.out.size)).setCell (p := ⟨w.heap.size, a, none⟩) (Nat.le_refl _) _).setCell (p := ⟨w.heap.size, b, none⟩) (Nat.le_refl _) _)
      have HP2 := Lib.hid hp2
      have HBN := Lib.hid hbn2
      have HWZ := Lib.hid hwz
      have hszz : w.heap.size < ((wz.setCell ⟨w.heap.size, a, none⟩ (.int .i64 1)).setCell ⟨w.heap.size, b, none⟩ (.int .i64 1)).heap.size := by have := hbz.size; simp [World.setCell]; omega
      have HSZ := Lib.hid hszz
      unfold maxLen at hvc2
      have hzw : z ≠ w.heap.size := by omega
      have hzw2 : w.heap.size ≠ z := by omega
      clear hrz hp1 hsa hsb hcg hp2 hbn2 he hbz hwz hszz
      go_wp2_with fail
      rw [← hz, ← HWZ.out]
      clear hz d0 d1
      go_region
      go_wp2_with fail
      exact ⟨⟨j + 1, by go_num, by omega, Lib.hid (HP2.out.below (Below.refl _ _).drew), Lib.hid HBN.out.drew, HSZ.out⟩, by simp [intOf]; omega⟩
    · have hjj : E = j := by omega
      have hf : Row 1 w.heap.size wr (.slice (some ⟨w.heap.size, 0, none⟩) n n) n (bkv (named2 es 0) n) := by
        have h := HW.out
        rw [← hjj, HE.out, List.take_length] at h
        have : bkv (named1 es) n = bkv (named2 es 0) n := bkv_congr (fun v _ => by unfold named1 named2; simp)
        rw [this] at h
        exact h
      have HF := Lib.hid hf
      have hro : Row 1 (w.heap.size + 1) wr (.slice none 0 0) 0 (iv (nl (tiedL es 0))) := Row.nil _ _ _
      have HRO := Lib.hid hro
      clear hf HW hro
      subst hjj
      go_wp2_with fail
      go_loopw [4, 29] (fun tv jv wr => ∃ i k : Nat, jv = .int .i64 (i : Nat) ∧ i ≤ n ∧ Hid (k = (tiedL es i).length) ∧ Hid (Row 1 (w.heap.size + 1) wr tv k (iv (nl (tiedL es i)))) ∧ Hid (Row 1 w.heap.size wr (.slice (some ⟨w.heap.size, 0, none⟩) n n) n (bkv (named2 es i) n)) ∧ Hid (Below w.heap.size w wr) ∧ w.heap.size < wr.heap.size) (fun _ jv _ => n - (intOf jv).toNat)
      case atStart => exact ⟨0, 0, rfl, Nat.zero_le _, Lib.hid rfl, HRO, HF, HB, hsz⟩
      case round =>
        obtain ⟨i, k, rfl, hin, HK, HT, HP, HB, hsz⟩ := hrel
        obtain ⟨ta, tc, rfl⟩ := HT.out.form
        by_cases hlt : i < n
        · obtain ⟨xb, xf, _⟩ := HP.out.cellF (bkv_at _ hlt)
          have hk9 : k ≤ 900000 := by have := tiedL_len es i; rw [← HK.out] at this; omega
          have hst := tiedL_succ es i
          cases hei : endB es i with
          | false =>
            have h0 : named2 es i i = 0 := by unfold named2; rw [hei]; rfl
            rw [h0] at xb
            rw [hei] at hst
            simp only [Bool.false_eq_true, if_false, List.append_nil] at hst
            have HST := Lib.hid hst
            have hcg : bkv (named2 es i) n = bkv (named2 es (i + 1)) n := bkv_congr (fun v _ => by
              unfold named2
              by_cases e : v = i
              · subst e; rw [hei]; rfl
              · have : v < i ↔ v < i + 1 := by omega
                simp [this])
            have HP2 : Hid (Row 1 w.heap.size wr (.slice (some ⟨w.heap.size, 0, none⟩) n n) n (bkv (named2 es (i + 1)) n)) := Lib.hid (by rw [← hcg]; exact HP.out)
            clear hst hcg h0 hei
            go_wp2_with fail
            exact ⟨⟨i + 1, k, by go_num, by omega, Lib.hid (by rw [HST.out]; exact HK.out), Lib.hid (by rw [HST.out]; exact HT.out), HP2, HB, hsz⟩, by simp [intOf]; omega⟩
          | true =>
            have h0 : named2 es i i = 1 := by unfold named2; rw [hei]; simp
            rw [h0] at xb
            rw [hei] at hst
            simp only [if_true] at hst
            have HST := Lib.hid hst
            obtain ⟨w5, hw5⟩ : ∃ w5, w5 = wr.setCell ⟨w.heap.size, i, none⟩ (.int .i64 (k : Int)) := ⟨_, rfl⟩
            have ho5 : Off (fun b => b = w.heap.size) wr w5 := by rw [hw5]; exact (Off.refl (fun b => b = w.heap.size) wr).setCell (p := ⟨w.heap.size, i, none⟩) (.inr rfl) _
            have hp5 : Row 1 w.heap.size w5 (.slice (some ⟨w.heap.size, 0, none⟩) n n) n (bkv (named2 es (i + 1)) n) := by
              have h := HP.out.put (j := i) (by rw [bkv_len]; exact hlt) (.int .i64 (k : Int))
              rw [bkv_set _ hlt, ← hw5] at h
              have hcg : bkv (upd (named2 es i) i k) n = bkv (named2 es (i + 1)) n := bkv_congr (fun v _ => by
                by_cases e : v = i
                · subst e; rw [upd_same]; unfold named2; rw [hei, if_pos rfl, if_pos (by omega)]; exact HK.out
                · rw [upd_other _ _ e]
                  unfold named2
                  have : v < i ↔ v < i + 1 := by omega
                  simp [this])
              rw [hcg] at h
              exact h
            have ht5 : Row 1 (w.heap.size + 1) w5 (.slice ta k tc) k (iv (nl (tiedL es i))) := HT.out.off ho5 (fun b hb e => by have := (HT.out.lt b hb).1; omega)
            have hs5 : w5.heap.size = wr.heap.size := by rw [hw5]; simp [World.setCell]
            have hb5 : Below w.heap.size w w5 := by rw [hw5]; exact HB.out.setCell (p := ⟨w.heap.size, i, none⟩) (Nat.le_refl _) _
            have HP5 := Lib.hid hp5
            have HB5 := Lib.hid hb5
            have hsrc : Src Tryz.prog 1 23 (.slice (some ⟨w5.heap.size, 0, none⟩) 1 1) 1 [.int .i64 (i : Nat)] (w5.alloc (.cells #[.int .i64 (i : Nat)] 3)) := src_new Tryz.underlying23 [.int .i64 (i : Nat)] 1 3 1 rfl oneIk
            have HSRC := Lib.hid hsrc
            have HRA := Lib.hid (ht5.alloc (.cells #[.int .i64 (i : Nat)] 3))
            have hszw : w.heap.size + 1 ≤ (w5.alloc (.cells #[.int .i64 (i : Nat)] 3)).heap.size := by simp; omega
            have HTL := Lib.hid (fun b hb => (ht5.lt b hb).1)
            subst hw5
            clear hst h0 hei ho5 hp5 ht5 hb5 hsrc hs5
            go_wp2_with (at_builtin; refine wpList_append_row rfl (.tmp 41) (.tmp 43) 23 23 rfl 1 3 (.int .i64 0) 8 Tryz.underlying23 infoIk rfl (w.heap.size + 1) (.slice ta k tc) k (iv (nl (tiedL es i))) (by simp [Act.eval]) HRA.out (.slice (some ⟨(wr.setCell ⟨w.heap.size, i, none⟩ (.int .i64 (k : Int))).heap.size, 0, none⟩) 1 1) (by simp [Act.eval]) 1 [.int .i64 (i : Nat)] HSRC.out hszw (by omega) (by decide) ?_; intro v6 w6 hr6 ho6 hw6; obtain ⟨a6, c6, hv6⟩ := hr6.form; subst hv6; have HR6 := Lib.hid hr6; have HO6 := Lib.hid ho6; clear hr6 ho6 hw6)
            have hoa : Off (fun b => (Value.slice ta k tc).ownBlock = some b) (wr.setCell ⟨w.heap.size, i, none⟩ (.int .i64 (k : Int))) w6 := ((Off.refl _ _).alloc _).trans HO6.out
            have hp6 := HP5.out.off hoa (fun b hb e => by have hb : w.heap.size = b := Option.some.inj hb; have := HTL.out b e; omega)
            have hb6 : Below w.heap.size w w6 := HB5.out.trans (hoa.below (B := w.heap.size) (fun b hb => by have := HTL.out b hb; omega) HB5.out.size)
            have hs6 := hoa.size
            refine ⟨⟨i + 1, k + 1, by go_num, by omega, Lib.hid (by rw [HST.out, List.length_append, ← HK.out]; rfl), Lib.hid ?_, Lib.hid hp6, Lib.hid hb6, ?_⟩, by simp [intOf]; omega⟩
            · have : iv (nl (tiedL es (i + 1))) = iv (nl (tiedL es i)) ++ [.int .i64 (i : Nat)] := by rw [HST.out]; simp [iv, nl]
              rw [this]
              exact HR6.out
            · simp [World.setCell] at hs6
              omega
        · have hii : n = i := by omega
          subst hii
          have HLT2 := Lib.hid (fun b hb => (HT.out.lt b hb).1)
          go_wp2_with fail
          go_ret2
          exact ⟨_, _, rfl, by rw [← HK.out]; exact HT.out.mono (by omega), HP.out, fun b hb e => by have := HLT2.out b hb; omega, HB.out⟩
end Go.Proofs.YtfpepoebammeoaaGreat
set_option linter.unusedVariables false
namespace Go.Proofs.YtfpepoebammeoaaGreat
open Go.ChangeShapes Go.WideShapes Go.ChangeAt Go.RowKit

theorem ascI_unique : ∀ {l m : List Int}, l.Pairwise (· < ·) → m.Pairwise (· < ·) → (∀ x, x ∈ l ↔ x ∈ m) → l = m
  | [], [], _, _, _ => rfl
  | [], y :: m, _, _, h => by have := (h y).2 (by simp); cases this
  | x :: l, [], _, _, h => by have := (h x).1 (by simp); cases this
  | x :: l, y :: m, hl, hm, h => by
    have hl' := List.pairwise_cons.1 hl
    have hm' := List.pairwise_cons.1 hm
    have e : x = y := by
      rcases List.mem_cons.1 ((h x).1 (by simp)) with e | hx
      · exact e
      · rcases List.mem_cons.1 ((h y).2 (by simp)) with e | hy
        · exact e.symm
        · have h1 := hl'.1 y hy
          have h2 := hm'.1 x hx
          omega
    subst e
    rw [ascI_unique hl'.2 hm'.2 fun z => ?_]
    constructor
    · intro hz
      rcases List.mem_cons.1 ((h z).1 (by simp [hz])) with e | k
      · have := hl'.1 z hz; omega
      · exact k
    · intro hz
      rcases List.mem_cons.1 ((h z).2 (by simp [hz])) with e | k
      · have := hm'.1 z hz; omega
      · exact k
theorem nilOrSnoc {α : Type} (l : List α) : l = [] ∨ ∃ ys y, l = ys ++ [y] := by
  rcases List.eq_nil_or_concat l with h | ⟨ys, y, h⟩
  · exact .inl h
  · exact .inr ⟨ys, y, by rw [h, List.concat_eq_append]⟩
theorem keepsI_snoc (zs : List Int) (z : Int) (j : Nat) (h : j < zs.length) : Lib.keeps (zs ++ [z]).toArray j = Lib.keeps zs.toArray j := by
  unfold Lib.keeps
  rw [getElem!_pos (zs ++ [z]).toArray j (by simp; omega), getElem!_pos zs.toArray j (by simpa using h)]
  rw [getElem!_pos (zs ++ [z]).toArray (j - 1) (by simp; omega), getElem!_pos zs.toArray (j - 1) (by simp; omega)]
  simp only [List.getElem_toArray, List.getElem_append_left h, List.getElem_append_left (show j - 1 < zs.length by omega)]
theorem upToI_snoc (zs : List Int) (z : Int) : ∀ m, m ≤ zs.length → Lib.compactUpTo (zs ++ [z]).toArray m = Lib.compactUpTo zs.toArray m
  | 0, _ => rfl
  | m + 1, h => by
    rw [Lib.compactUpTo_succ, Lib.compactUpTo_succ, upToI_snoc zs z m (by omega), keepsI_snoc zs z m (by omega)]
    rw [getElem!_pos (zs ++ [z]).toArray m (by simp; omega), getElem!_pos zs.toArray m (by simp; omega)]
    simp only [List.getElem_toArray, List.getElem_append_left (show m < zs.length by omega)]
theorem compactI_snoc (zs : List Int) (z : Int) : Lib.compact (zs ++ [z]) = Lib.compact zs ++ (if zs.getLast? = some z then [] else [z]) := by
  unfold Lib.compact
  rw [List.length_append, List.length_singleton, Lib.compactUpTo_succ, upToI_snoc zs z _ (Nat.le_refl _)]
  congr 1
  have e : (zs ++ [z]).toArray[zs.length]! = z := by rw [getElem!_pos _ _ (by simp)]; simp
  rw [e]
  rcases nilOrSnoc zs with rfl | ⟨ys, y, rfl⟩
  · simp [Lib.keeps]
  · have e2 : (ys ++ [y] ++ [z]).toArray[(ys ++ [y]).length - 1]! = y := by rw [getElem!_pos _ _ (by simp)]; simp
    have e1 : (ys ++ [y] ++ [z]).toArray[(ys ++ [y]).length]! = z := e
    unfold Lib.keeps
    rw [e1, e2, List.getLast?_concat]
    by_cases k : z = y
    · subst k; simp
    · have k' : ¬ y = z := fun e => k e.symm
      simp [k, k']
theorem compactI_sorted (zs : List Int) (h : zs.Pairwise (· ≤ ·)) : (Lib.compact zs).Pairwise (· < ·) ∧ ∀ x, x ∈ Lib.compact zs ↔ x ∈ zs := by
  induction hn : zs.length generalizing zs with
  | zero =>
    obtain rfl : zs = [] := List.length_eq_zero_iff.1 hn
    exact ⟨List.Pairwise.nil, fun x => Iff.rfl⟩
  | succ n ih =>
    rcases nilOrSnoc zs with rfl | ⟨ys, y, rfl⟩
    · cases hn
    · have hp := List.pairwise_append.1 h
      have hl : ys.length = n := by simpa using hn
      obtain ⟨ha, hm⟩ := ih ys hp.1 hl
      rw [compactI_snoc]
      split
      · rename_i e
        rw [List.append_nil]
        refine ⟨ha, fun x => ?_⟩
        rw [hm, List.mem_append, List.mem_singleton]
        refine ⟨.inl, ?_⟩
        rintro (k | rfl)
        · exact k
        · exact List.mem_of_getLast? e
      · rename_i e
        refine ⟨List.pairwise_append.2 ⟨ha, List.pairwise_singleton _ _, fun a hx b hb => ?_⟩, fun x => ?_⟩
        · rw [List.mem_singleton] at hb
          subst hb
          have hx' := (hm a).1 hx
          have hle := hp.2.2 a hx' b (by simp)
          rcases nilOrSnoc ys with rfl | ⟨ws, v, rfl⟩
          · cases hx'
          · have hv2 := hp.2.2 v (by simp) b (by simp)
            have hvb : v ≠ b := fun k => e (by rw [List.getLast?_concat, k])
            rcases List.mem_append.1 hx' with k | k
            · have := (List.pairwise_append.1 hp.1).2.2 a k v (by simp)
              omega
            · rw [List.mem_singleton] at k; omega
        · rw [List.mem_append, List.mem_append, hm]
theorem sortI_pairwise (l : List Int) : (l.mergeSort fun x y => decide (x ≤ y)).Pairwise (· ≤ ·) := by
  have h := List.pairwise_mergeSort (le := fun x y : Int => decide (x ≤ y)) (fun a b c h k => by simp only [decide_eq_true_eq] at *; omega) (fun a b => by
    rcases Int.le_total a b with h | h <;> simp [h]) l
  exact h.imp (fun h => by simpa using h)
theorem holdsI_of_row {B k : Nat} {w : World} {b cap : Nat} {xs : List Int} (h : Row 1 B w (.slice (some ⟨b, 0, none⟩) k cap) k (iv xs)) : Go.Sort.Holds (Value.int .i64) w b 0 xs.toArray := by
  intro j hj
  rw [List.size_toArray] at hj
  rw [Nat.zero_add]
  obtain ⟨h1, h2, _⟩ := h.cellF (j := j) (iv_at hj)
  refine ⟨?_, h2⟩
  rw [h1, getElem!_pos _ j (by simpa using hj), List.getD_eq_getElem?_getD, List.getElem?_eq_getElem hj]
  simp
theorem offI_sorted {w : World} {g n : Nat} {os : Array Obj} (d : Array Int) : Off (fun i => i = g) w (Go.Sort.grow (Go.Sort.putRow (Value.int .i64) (Go.Sort.ahead w n) g 0 d) os) := by
  refine ⟨rfl, rfl, rfl, by simp, fun k hk hne => ?_⟩
  rw [Go.Sort.heap_grow_old _ _ (by simpa using hk)]
  have : g ≠ k := fun e => hne e.symm
  simp [Go.Sort.putRow, Go.Sort.mapBlock, Go.Sort.ahead, Array.getElem?_modify, this]
theorem holdsI_sorted {w : World} {b n : Nat} {os : Array Obj} {ss ts : List Int} (h : Go.Sort.Holds (Value.int .i64) w b 0 ss.toArray) (hb : b < w.heap.size) (hl : ts.length = ss.length) :
    Go.Sort.Holds (Value.int .i64) (Go.Sort.grow (Go.Sort.putRow (Value.int .i64) (Go.Sort.ahead w n) b 0 ts.toArray) os) b 0 ts.toArray :=
  Go.Sort.holds_grow _ _ _ _ _ _ (by simpa using hb) (Go.Sort.holds_putRow _ _ _ _ _ _ (Go.Sort.holds_ahead _ _ n _ _ _ h) (by simp [hl]))
theorem readsI_compact {w : World} {b q cap : Nat} {zs : List Int} (h : Go.Sort.Holds (Value.int .i64) w b 0 zs.toArray) (hb : b < w.heap.size) (hc : zs.length ≤ cap) (hm : cap ≤ maxLen) :
    RI (Go.Sort.putRow (Value.int .i64) (Go.Sort.ahead w q) b 0 (Lib.compact zs ++ List.replicate (zs.length - (Lib.compact zs).length) 0).toArray) (.slice (some ⟨b, 0, none⟩) (Lib.compact zs).length cap) (Lib.compact zs) := by
  have hle := Lib.compact_length_le zs
  by_cases e : Lib.compact zs = []
  · rw [e]; exact .inl ⟨rfl, _, _, rfl⟩
  · refine .inr ⟨e, b, 0, cap, rfl, by omega, hm, by simpa using hb, fun j x hx => ?_⟩
    have hj := (List.getElem?_eq_some_iff.1 hx).1
    rw [Go.Sort.cell?_putRow (Value.int .i64) (Go.Sort.ahead w q) b 0 zs.toArray _ (Go.Sort.holds_ahead _ _ q _ _ _ h) (by simp; omega) j (by simp; omega)]
    rw [getElem!_pos _ j (by simp; omega)]
    simp only [List.getElem_toArray]
    rw [List.getElem_append_left hj, (List.getElem?_eq_some_iff.1 hx).2]
def flatI (es : Ed) : List Int := es.flatMap fun e => [e.1, e.2]
theorem flatI_evs (es : Ed) : evs es = iv (flatI es) := by
  unfold evs flatI iv
  rw [List.map_flatMap]
  rfl
theorem flatI_len (es : Ed) : (flatI es).length = es.length * 2 := by
  have := evs_len es
  rw [flatI_evs, iv_len] at this
  exact this
theorem ends_eq {n : Nat} {es : List (Nat × Nat)} (h : ∀ e ∈ es, e.1 < n ∧ e.2 < n) (zs : List Int) (hp : zs.Perm (flatI (toI es))) (hs : zs.Pairwise (· ≤ ·)) : Lib.compact zs = nl (tiedL es n) := by
  obtain ⟨h1, h2⟩ := compactI_sorted zs hs
  refine ascI_unique h1 ?_ fun x => ?_
  · rw [nl, List.pairwise_map]
    exact (tied_tiedL h).asc.imp fun hab => by omega
  · rw [h2, hp.mem_iff]
    unfold flatI toI nl tiedL
    simp only [List.mem_flatMap, List.mem_map, List.mem_filter, List.mem_range, endB_iff]
    constructor
    · rintro ⟨e, ⟨e0, h0, rfl⟩, hx⟩
      simp at hx
      rcases hx with rfl | rfl
      · exact ⟨e0.1, ⟨(h e0 h0).1, e0, h0, .inl rfl⟩, rfl⟩
      · exact ⟨e0.2, ⟨(h e0 h0).2, e0, h0, .inr rfl⟩, rfl⟩
    · rintro ⟨y, ⟨_, e0, h0, hy⟩, rfl⟩
      refine ⟨_, ⟨e0, h0, rfl⟩, ?_⟩
      simp
      omega

set_option maxHeartbeats 2000000 in
set_option maxRecDepth 100000 in
theorem ends_any {w : World} (es : List (Nat × Nat)) (n : Nat) (v : Value) (hr : RE w v (toI es)) (hl : es.length ≤ 400000) (hlt : ∀ e ∈ es, e.1 < n ∧ e.2 < n) :
    Calls Tryz.prog 49 #[v] w fun e W' => ∃ tv, e = .returned tv ∧ RI W' tv (nl (tiedL es n)) ∧ (∀ b, tv.ownBlock = some b → w.heap.size ≤ b) ∧ Below w.heap.size w W' := by
  obtain ⟨va, vc, rfl⟩ := hr.form
  obtain ⟨E, hE⟩ : ∃ E, E = es.length := ⟨_, rfl⟩
  obtain ⟨C, hC⟩ : ∃ C, C = 2 * E := ⟨_, rfl⟩
  have hlI : (toI es).length = E := by rw [hE]; simp [toI]
  rw [hlI] at hr ⊢
  rw [← hE] at hl
  have hCI : (2 : Int) * (E : Int) = (C : Int) := by omega
  have mk1 := make_ik C (by omega)
  have HR := Lib.hid hr
  have HLT := Lib.hid hlt
  have HE := Lib.hid hE
  have HI : Hid (∀ (j : Nat) e, es[j]? = some e → (toI es)[j]? = some ((e.1 : Int), (e.2 : Int))) := Lib.hid (fun j e he => by simp [toI, he])
  have hC9 : C ≤ 800000 := by omega
  have hr0 : Row 1 w.heap.size (w.alloc (.cells (madeCells #[.int .i64 0] C) 3)) (.slice (some ⟨w.heap.size, 0, none⟩) 0 C) 0 [] := row_new (Nat.le_refl _) rfl (Nat.zero_le _) (by unfold maxLen; omega) (by simp [size_madeCells]) (.inl rfl) (fun j u hu => by simp at hu)
  have HR0 := Lib.hid hr0
  have HB0 := Lib.hid ((Below.refl _ w).alloc (Nat.le_refl _) (.cells (madeCells #[.int .i64 0] C) 3))
  clear hr hlI hlt hE hC hr0
  go_enter Tryz.func49, Tryz.ntmps49
  go_wp2_with fail
  go_loopw [3, 12] (fun ov jv wr => ∃ j k : Nat, jv = .int .i64 (j : Nat) ∧ j ≤ E ∧ Hid (k = 2 * j) ∧ Hid (Row 1 w.heap.size wr ov k (evs (toI (es.take j)))) ∧ Hid (Below w.heap.size w wr)) (fun _ jv _ => E - (intOf jv).toNat)
  case atStart => exact ⟨0, 0, rfl, Nat.zero_le _, Lib.hid rfl, HR0, HB0⟩
  case round =>
    obtain ⟨j, k, rfl, hjE, HK, HW, HB⟩ := hrel
    obtain ⟨oa, oc, rfl⟩ := HW.out.form
    by_cases hlt : j < E
    · obtain ⟨e, he⟩ : ∃ e, es[j]? = some e := ⟨es[j]'(by rw [← HE.out]; exact hlt), by simp⟩
      obtain ⟨a, b⟩ := e
      obtain ⟨vb, vo, rfl, hvb, hvc1, hvc2, d0, d1⟩ := (HR.out.below HB.out).at (HI.out j _ he)
      simp only at d0 d1
      have hk9 : k ≤ 800000 := by have := HK.out; omega
      have hst : evs (toI (es.take (j + 1))) = evs (toI (es.take j)) ++ [.int .i64 (a : Int), .int .i64 (b : Int)] := by
        rw [take_snoc he]
        unfold toI
        rw [List.map_append]
        exact evs_snoc _ _
      have HST := Lib.hid hst
      have hsrc : Src Tryz.prog 1 23 (.slice (some ⟨wr.heap.size + 1, 0, none⟩) 2 2) 2 [.int .i64 (a : Int), .int .i64 (b : Int)] ((wr.alloc (.cells #[.int .i64 (a : Int), .int .i64 (b : Int)] 36)).alloc (.cells #[.int .i64 (a : Int), .int .i64 (b : Int)] 3)) := by
        have h := src_new (k := 1) (w := wr.alloc (.cells #[.int .i64 (a : Int), .int .i64 (b : Int)] 36)) Tryz.underlying23 [.int .i64 (a : Int), .int .i64 (b : Int)] 2 3 2 rfl onePr
        simpa using h
      have HSRC := Lib.hid hsrc
      have HRA := Lib.hid ((HW.out.alloc (.cells #[.int .i64 (a : Int), .int .i64 (b : Int)] 36)).alloc (.cells #[.int .i64 (a : Int), .int .i64 (b : Int)] 3))
      have hszw : w.heap.size ≤ ((wr.alloc (.cells #[.int .i64 (a : Int), .int .i64 (b : Int)] 36)).alloc (.cells #[.int .i64 (a : Int), .int .i64 (b : Int)] 3)).heap.size := by have := HB.out.size; simp; omega
      have HBA := Lib.hid ((HB.out.alloc HB.out.size (.cells #[.int .i64 (a : Int), .int .i64 (b : Int)] 36)).alloc (by have := HB.out.size; simp; omega) (.cells #[.int .i64 (a : Int), .int .i64 (b : Int)] 3))
      unfold maxLen at hvc2
      clear hst hsrc he
      go_wp2_with (at_builtin; refine wpList_append_row rfl (.tmp 16) (.tmp 21) 23 23 rfl 1 3 (.int .i64 0) 8 Tryz.underlying23 infoIk rfl w.heap.size (.slice oa k oc) k (evs (toI (es.take j))) (by simp [Act.eval]) HRA.out (.slice (some ⟨wr.heap.size + 1, 0, none⟩) 2 2) (by simp [Act.eval]) 2 [.int .i64 (a : Int), .int .i64 (b : Int)] HSRC.out hszw (by omega) (by decide) ?_; intro v6 w6 hr6 ho6 hw6; obtain ⟨a6, c6, hv6⟩ := hr6.form; subst hv6; have HR6 := Lib.hid hr6; have HO6 := Lib.hid ho6; clear hr6 ho6 hw6)
      exact ⟨⟨j + 1, k + 2, by go_num, by omega, Lib.hid (by have := HK.out; omega), Lib.hid (by rw [HST.out]; exact HR6.out), Lib.hid (HBA.out.trans (HO6.out.below (B := w.heap.size) (fun b hb => (HW.out.lt b hb).1) hszw))⟩, by simp [intOf]; omega⟩
    · have hjj : E = j := by omega
      have hf := HW.out
      rw [← hjj, HE.out, List.take_length, flatI_evs] at hf
      have hk2 := HK.out
      by_cases hE0 : E = 0
      · have hk0 : k = 0 := by omega
        subst hk0
        have HRES : Hid (∀ W, RI W (.slice oa 0 oc) (nl (tiedL es n))) := Lib.hid (fun W => .inl ⟨by
          have : es = [] := List.length_eq_zero_iff.1 (by rw [← HE.out]; exact hE0)
          have ht : tiedL es n = [] := List.filter_eq_nil_iff.2 (fun x hx => by rw [this]; simp [endB])
          rw [ht]; rfl, _, _, rfl⟩)
        have S1 := Lib.hid (fun W => Tryz.slices_Sort_int_none oa oc W)
        have S2 := Lib.hid (fun W => Tryz.slices_Compact_int_empty oa oc W)
        have HOW := Lib.hid (fun b hb => (HW.out.lt b hb).1)
        subst hjj
        clear hf hk2 hE0
        go_wp2_with fail
        refine (S1.out _).mono ?_
        rintro e w2 ⟨rfl, rfl⟩
        go_wp2_with fail
        refine (S2.out _).mono ?_
        rintro e w3 ⟨rfl, rfl⟩
        go_wp2_with fail
        go_ret
        exact ⟨_, rfl, HRES.out _, HOW.out, HB.out⟩
      · obtain ⟨zs, hzs⟩ : ∃ zs, zs = flatI (toI es) := ⟨_, rfl⟩
        rw [← hzs] at hf
        have hzl : zs.length = k := by rw [hzs, flatI_len]; simp [toI]; rw [← HE.out]; omega
        obtain ⟨b, cap, hv, hBb, hbw, hkc, hcm, _, _⟩ := hf.pos (by omega)
        injection hv with hv1 _ hv3
        subst hv1; subst hv3
        have hH := holdsI_of_row hf
        obtain ⟨ts, hts⟩ : ∃ ts, ts = zs.mergeSort fun x y => decide (x ≤ y) := ⟨_, rfl⟩
        have htl : ts.length = zs.length := by rw [hts]; exact List.length_mergeSort _
        have hpe : ts.Perm zs := by rw [hts]; exact List.mergeSort_perm _ _
        have heq := ends_eq HLT.out ts (by rw [← hzs]; exact hpe) (by rw [hts]; exact sortI_pairwise zs)
        have hsort := Tryz.slices_Sort_int b 0 oc zs wr hH hbw (by omega)
        rw [hzl, ← hts] at hsort
        have hcomp : ∀ nn os, Calls Tryz.prog 41 #[.slice (some ⟨b, 0, none⟩) k oc] (Go.Sort.grow (Go.Sort.putRow (Value.int .i64) (Go.Sort.ahead wr nn) b 0 ts.toArray) os) fun e w' => (∃ v, e = .returned v ∧ RI w' v (nl (tiedL es n)) ∧ ∀ g, v.ownBlock = some g → w.heap.size ≤ g) ∧ Below w.heap.size w w' := by
          intro nn os
          have hH2 := holdsI_sorted (n := nn) (os := os) hH hbw htl
          have ho1 := offI_sorted (w := wr) (g := b) (n := nn) (os := os) ts.toArray
          have hb3 := Nat.lt_of_lt_of_le hbw ho1.size
          have h := Tryz.slices_Compact_int b 0 oc ts _ hH2 (by omega) (by omega)
          rw [htl, hzl] at h
          refine h.mono ?_
          rintro e w2 ⟨rfl, q, rfl⟩
          refine ⟨⟨_, rfl, ?_, fun g hg => by have hg : b = g := Option.some.inj hg; omega⟩, ?_⟩
          · have := readsI_compact (q := q) hH2 hb3 (cap := oc) (by omega) hcm
            rw [htl, hzl, heq] at this
            rw [heq]
            exact this
          · have h2 := offI_sorted (w := Go.Sort.grow (Go.Sort.putRow (Value.int .i64) (Go.Sort.ahead wr nn) b 0 ts.toArray) os) (g := b) (n := q) (os := #[]) (Lib.compact ts ++ List.replicate (k - (Lib.compact ts).length) 0).toArray
            rw [Go.Sort.grow_empty] at h2
            exact HB.out.trans ((ho1.trans h2).below (B := w.heap.size) (fun i hi => by omega) HB.out.size)
        have HSO := Lib.hid hsort
        have HCO := Lib.hid hcomp
        subst hjj
        clear hf hzs hzl hH hts htl hpe heq hsort hcomp hk2
        go_wp2_with fail
        refine HSO.out.mono ?_
        rintro e w2 ⟨rfl, nn, os, rfl⟩
        go_wp2_with fail
        refine (HCO.out nn os).mono ?_
        rintro e w3 ⟨⟨tv, rfl, h1, h2⟩, h3⟩
        have H1 := Lib.hid h1
        have H2 := Lib.hid h2
        have H3 := Lib.hid h3
        clear h1 h2 h3
        go_wp2_with fail
        go_ret
        exact ⟨_, rfl, H1.out, H2.out, H3.out⟩
end Go.Proofs.YtfpepoebammeoaaGreat
