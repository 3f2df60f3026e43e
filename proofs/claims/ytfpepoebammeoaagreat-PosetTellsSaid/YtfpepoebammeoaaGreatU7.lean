/- The contract of the hunt's leave. -/
import Derived.Test.YtfpepoebammeoaaGreatU6
set_option linter.unusedVariables false
namespace Go.Proofs.YtfpepoebammeoaaGreat
open Go.ChangeShapes Go.WideShapes Go.ChangeAt Go.RowKit

def updL (f : Nat → Nat) (x : Nat) : List Nat → Nat → Nat
  | [] => f
  | v :: l => updL (upd f v x) x l
theorem updL_not {x : Nat} : ∀ {l : List Nat} {f : Nat → Nat} {u : Nat}, u ∉ l → updL f x l u = f u
  | [], _, _, _ => rfl
  | v :: l, f, u, h => by
    simp only [List.mem_cons, not_or] at h
    rw [updL, updL_not h.2, upd_other _ _ h.1]
theorem updL_mem {x : Nat} : ∀ {l : List Nat} {f : Nat → Nat} {u : Nat}, u ∈ l → updL f x l u = x
  | v :: l, f, u, h => by
    rw [updL]
    by_cases hl : u ∈ l
    · exact updL_mem hl
    · rw [updL_not hl]
      rcases List.mem_cons.1 h with rfl | h
      · exact upd_same _ _ _
      · exact absurd h hl
theorem updL_snoc {x : Nat} : ∀ {l : List Nat} {f : Nat → Nat} {v : Nat}, updL f x (l ++ [v]) = upd (updL f x l) v x
  | [], _, _ => rfl
  | u :: l, f, v => by
    rw [List.cons_append, updL, updL, updL_snoc]

set_option maxHeartbeats 2000000 in
set_option maxRecDepth 100000 in
theorem leave_any {w0 : World} {S p bb lb m : Nat} {fv hv ov wv : Value} {op : List Nat} {bk ls : Nat → Nat} {c pl : Nat} {l : List Nat} {u : Value} {r : List (Stp × Value)} {W : World} (h : HuntM w0 S p bb lb m fv hv ov wv op bk ls ((⟨c, pl, l⟩, u) :: r) W) (hm : m ≤ 1000000) (hc : c < m) (hp1 : 1 ≤ pl) (hp2 : pl ≤ op.length) (hol : op.length ≤ 1000000) (hsl : r.length ≤ 1000000) (hlt : ∀ v ∈ op, v < m) (hbc : bk c ≤ toldK) :
    Calls Tryz.prog 102 #[.pointer (some ⟨p, 0, none⟩)] W fun e W' => e = .returned (.tuple #[]) ∧ ((bk c < pl ∧ ∃ wv', HuntM w0 S p bb lb m fv hv ov wv' op bk ls r W') ∨
      (¬ bk c < pl ∧ ∃ ov' wv', HuntM w0 S p bb lb m fv hv ov' wv' (op.take (pl - 1)) (updL bk toldK (op.drop (pl - 1))) (updL ls (minL (op.drop (pl - 1))) (op.drop (pl - 1))) r W')) := by
  obtain ⟨q, hq⟩ : ∃ q, q = pl - 1 := ⟨_, rfl⟩
  obtain ⟨n, hn⟩ : ∃ n, n = op.length := ⟨_, rfl⟩
  obtain ⟨k, hk⟩ : ∃ k, k = r.length := ⟨_, rfl⟩
  obtain ⟨ua, uc, hu⟩ := (h.left _ (List.mem_cons_self)).form
  simp only at hu
  obtain ⟨ul, hul⟩ : ∃ ul, ul = (nl l).length := ⟨_, rfl⟩
  rw [← hul] at hu
  subst hu
  clear hul
  obtain ⟨wq, wc, rfl, hw1, hw2, hwp, hwl, s0, s1, s2, _⟩ := h.last
  obtain ⟨ob, oc, rfl, ho1, ho2, ho3, ho4, ho5, ho6⟩ := h.ro.pos (by omega)
  have hown : p + 1 ≤ ob := by have := h.sp; omega
  have hown2 := h.ownO2 (i := ob) rfl
  have H0 := Lib.hid h
  have HPOP := Lib.hid h.pop
  have c2 := h.c2
  have c3 := h.c3
  have c4 := h.c4
  have c5 := h.c5
  have f4 := h.fr 4 (by decide)
  have hpp := h.pl
  have hwz : wq ≠ p := by omega
  have hbw := h.wp
  obtain ⟨bw1, bw2, bw3⟩ := hbw
  have hbp := h.bp
  have hlp := h.lp
  have hbn := h.bn
  rw [← hk] at s0 s1 s2 hw1 c4 HPOP hsl
  rw [← hn] at c2 ho3 hp2 hol HPOP
  rw [← hq]
  have HN := Lib.hid hn
  have HK := Lib.hid hk
  have HLT := Lib.hid hlt
  have e1 : (pl : Int) - 1 = (q : Int) := by omega
  have hqn : q < n := by omega
  unfold maxLen at hw2 ho4
  unfold toldK at hbc
  have HO6 := Lib.hid ho6
  clear h hn hk hlt ho6 ho5
  obtain ⟨z, hz⟩ : ∃ z, z = W.heap.size := ⟨_, rfl⟩
  obtain ⟨w1, hw1d⟩ : ∃ w1, w1 = (W.alloc (.cells #[.int .i64 (c : Nat), .int .i64 (pl : Nat), .slice ua ul uc] 136)).drew := ⟨_, rfl⟩
  have hb1 : Below W.heap.size W w1 := by rw [hw1d]; exact ((Below.refl _ _).alloc (Nat.le_refl _) _).drew
  have z0 : w1.cell? ⟨z, 0, none⟩ = some (.int .i64 (c : Nat)) := by rw [hw1d, hz]; show (W.alloc _).cell? _ = _; rw [World.cell?_alloc_at _ _ _ _ rfl]; rfl
  have z1 : w1.cell? ⟨z, 1, none⟩ = some (.int .i64 (pl : Nat)) := by rw [hw1d, hz]; show (W.alloc _).cell? _ = _; rw [World.cell?_alloc_at _ _ _ _ rfl]; rfl
  have h1 := H0.out.below hb1
  have g4 := h1.c4
  have gf4 := h1.fr 4 (by decide)
  have h2 := h1.pop
  rw [← HK.out] at g4 h2
  have hzp : z ≠ p := by omega
  have HW1 := Lib.hid hw1d
  have HZ := Lib.hid hz
  obtain ⟨w2, hw2d⟩ : ∃ w2, w2 = (w1.setCell ⟨p, 4, none⟩ (.slice (some ⟨wq, 0, none⟩) k wc)).drew := ⟨_, rfl⟩
  have h2' : HuntM w0 S p bb lb m fv hv (.slice (some ⟨ob, 0, none⟩) op.length oc) (.slice (some ⟨wq, 0, none⟩) k wc) op bk ls r w2 := by rw [hw2d]; exact h2.below (Below.refl _ _).drew
  have y0 : w2.cell? ⟨z, 0, none⟩ = some (.int .i64 (c : Nat)) := by rw [hw2d]; show (w1.setCell _ _).cell? _ = _; rw [World.cell?_setCell_other _ _ _ _ (fun e => hzp (by injection e with e _ _; exact e.symm))]; exact z0
  have y1 : w2.cell? ⟨z, 1, none⟩ = some (.int .i64 (pl : Nat)) := by rw [hw2d]; show (w1.setCell _ _).cell? _ = _; rw [World.cell?_setCell_other _ _ _ _ (fun e => hzp (by injection e with e _ _; exact e.symm))]; exact z1
  have HW2 := Lib.hid hw2d
  have H2 := Lib.hid h2'
  have d2 := h2'.c2
  have d3 := h2'.c3
  have d5 := h2'.c5
  have df2 := h2'.fr 2 (by decide)
  obtain ⟨dbk, _⟩ := h2'.rb.cellF (bkv_at bk hc)
  have hcells : ∀ (j x : Nat), op[j]? = some x → w2.cell? ⟨ob, j, none⟩ = some (.int .i64 (x : Int)) := fun j x hx => by
    have := h2'.ro
    exact (this.cellF (j := j) (by simp [iv, nl, hx])).1
  have HCL := Lib.hid hcells
  have hob2 : ob < w2.heap.size := (h2'.ownO (i := ob) rfl).2
  rw [← HN.out] at d2
  obtain ⟨b, hb⟩ : ∃ b, b = bk c := ⟨_, rfl⟩
  rw [← hb] at dbk hbc ⊢
  have HB := Lib.hid hb
  have HQ := Lib.hid hq
  clear hq hz hw1d hb1 h1 h2 hw2d h2' hcells hb c2 c3 c5 f4 z0 z1
  go_enter Tryz.func102, Tryz.ntmps102
  go_wp2_with fail
  rw [HZ.out] at y0 y1
  go_region
  rw [← HW1.out]
  clear c4
  go_wp2_with fail
  go_region
  rw [← HW2.out]
  go_wp2_with fail
  clear s0 s1 s2 g4 gf4
  by_cases hlt : b < pl
  · go_quiet (fail)
    go_wp2_with fail
    refine bodyPost_ret (results_none rfl _ _ _) rfl ?_
    exact ⟨rfl, .inl ⟨hlt, _, H2.out.drewN⟩⟩
  · have hoq : ¬ oc = q := by omega
    have hqc : ¬ q = oc := fun e => hoq e.symm
    go_quiet (fail)
    go_wp2_with fail
    go_quiet (fail)
    go_wp2_with fail
    generalize hA : w2.drewN _ = wA
    have hA2 : HuntM w0 S p bb lb m fv hv (.slice (some ⟨ob, 0, none⟩) op.length oc) (.slice (some ⟨wq, 0, none⟩) k wc) op bk ls r wA := by rw [← hA]; exact H2.out.drewN
    have hAc : ∀ (j x : Nat), op[j]? = some x → wA.cell? ⟨ob, j, none⟩ = some (.int .i64 (x : Int)) := fun j x hx => by rw [← hA]; exact HCL.out j x hx
    have i0 : wA.cell? ⟨W.heap.size, 0, none⟩ = some (.int .i64 (c : Nat)) := by rw [← hA]; exact y0
    have i1 : wA.cell? ⟨W.heap.size, 1, none⟩ = some (.int .i64 (pl : Nat)) := by rw [← hA]; exact y1
    have i2 := hA2.c2
    rw [← HN.out] at i2
    have if2 := hA2.fr 2 (by decide)
    have h3 : HuntM w0 S p bb lb m fv hv (.slice (some ⟨ob, 0, none⟩) q oc) (.slice (some ⟨wq, 0, none⟩) k wc) (op.take q) bk ls r (wA.setCell ⟨p, 2, none⟩ (.slice (some ⟨ob, 0, none⟩) q oc)) := by
      refine hA2.putO (Off.refl _ _) ?_ (.inl rfl)
      have hf := hA2.ro.front (m := q) (by rw [← HN.out]; omega)
      have e1 : (op.take q).length = q := by rw [List.length_take, ← HN.out]; omega
      have e2 : iv (nl (op.take q)) = (iv (nl op)).take q := by simp [iv, nl, List.map_take]
      rw [e1, e2]
      exact hf
    have H3 := Lib.hid h3
    have HAC := Lib.hid hAc
    clear hA hA2 hAc h3 y0 y1 d2 d3 d5 df2 dbk
    go_region
    go_wp2_with fail
    generalize hw3 : World.setCell _ ⟨p, 2, none⟩ _ = w3
    have h3 : HuntM w0 S p bb lb m fv hv (.slice (some ⟨ob, 0, none⟩) q oc) (.slice (some ⟨wq, 0, none⟩) k wc) (op.take q) bk ls r w3 := by rw [← hw3]; exact H3.out.drewN
    have hkc : ∀ (j x : Nat), (op.drop q)[j]? = some x → w3.cell? ⟨ob, q + j, none⟩ = some (.int .i64 (x : Int)) := fun j x hx => by
      rw [List.getElem?_drop] at hx
      rw [← hw3, World.cell?_setCell_other _ _ _ _ (fun e => by injection e with e _ _; omega)]
      exact HAC.out _ x hx
    obtain ⟨K, hK⟩ : ∃ K, K = op.drop q := ⟨_, rfl⟩
    obtain ⟨kn, hkn⟩ : ∃ kn, kn = n - q := ⟨_, rfl⟩
    have hKl : kn = K.length := by rw [hK, List.length_drop, ← HN.out, hkn]
    rw [← hK] at hkc
    rw [← hkn]
    have HKE := Lib.hid hK
    have hk0 : 0 < kn := by omega
    have hkc6 : kn ≤ 1000000 := by omega
    have hob3 : ob < w3.heap.size := (h3.ownO (i := ob) rfl).2
    have hKR : RI w3 (.slice (some ⟨ob, q, none⟩) kn (oc - q)) (nl K) := .inr ⟨fun e => by (have : K.length = 0 := (nl_len K).symm.trans (congrArg List.length e)); omega, ob, q, oc - q, by rw [nl_len, hKl], by rw [nl_len]; omega, by unfold maxLen; omega, hob3, fun j y hy => by
      obtain ⟨x, hx, rfl⟩ := nl_inv hy
      exact hkc j x hx⟩
    have HMIN := Lib.hid (min_any K _ kn _ w3 hKR hKl hk0 hkc6)
    have HLK : Hid (∀ v ∈ K, v < m) := Lib.hid (fun v hv => HLT.out v (by rw [hK] at hv; exact List.mem_of_mem_drop hv))
    have H3' := Lib.hid h3
    have HKC := Lib.hid hkc
    have HKL := Lib.hid hKl
    have hob : ob ≠ bb := by omega
    have hob' : ob ≠ lb := by omega
    have hocq : kn ≤ oc - q := by omega
    clear hw3 h3 hkc hK hkn hKl hKR H3 HAC HCL HQ i0 i1 i2 if2 hob2
    refine HMIN.out.mono ?_
    rintro e w4 ⟨rfl, d4, rfl⟩
    obtain ⟨mn, hmn⟩ : ∃ mn, mn = minL K := ⟨_, rfl⟩
    rw [← hmn]
    have HMN := Lib.hid hmn
    clear hmn HMIN
    go_wp2_with fail
    go_loopw [67] (fun jv wr => ∃ j : Nat, jv = .int .i64 (j : Nat) ∧ j ≤ kn ∧ Hid (HuntM w0 S p bb lb m fv hv (.slice (some ⟨ob, 0, none⟩) q oc) (.slice (some ⟨wq, 0, none⟩) k wc) (op.take q) (updL bk toldK (K.take j)) (updL ls mn (K.take j)) r wr) ∧ Hid (Off (fun i => i = bb ∨ i = lb) w3 wr)) (fun jv _ => kn - (intOf jv).toNat)
    case atStart => exact ⟨0, rfl, Nat.zero_le _, Lib.hid H3'.out.drewN, Lib.hid (Off.refl _ _).drewN⟩
    case round =>
      obtain ⟨j, rfl, hjn, HJ, HO⟩ := hrel
      by_cases hlt2 : j < kn
      · obtain ⟨x, hx⟩ : ∃ x, K[j]? = some x := ⟨K[j]'(by rw [← HKL.out]; exact hlt2), by simp⟩
        have hcx := (HO.out.cell (p := ⟨ob, q + j, none⟩) hob3 (by show ¬ (ob = bb ∨ ob = lb); omega)).trans (HKC.out j x hx)
        have hxm : x < m := HLK.out x (List.mem_of_getElem? hx)
        have j3 := HJ.out.c3
        have j5 := HJ.out.c5
        obtain ⟨xb, xf, _⟩ := HJ.out.rb.cellF (bkv_at _ hxm)
        obtain ⟨yb, yf, _⟩ := HJ.out.rl.cellF (bkv_at _ hxm)
        have hst : K.take (j + 1) = K.take j ++ [x] := by rw [List.take_add_one, hx]; rfl
        have hn1 := (HJ.out.putB (x := toldK) hxm).putL (x := mn) hxm
        rw [← updL_snoc, ← updL_snoc, ← hst] at hn1
        have hno : Off (fun i => i = bb ∨ i = lb) w3 ((wr.setCell ⟨bb, x, none⟩ (.int .i64 9223372036854775807)).setCell ⟨lb, x, none⟩ (.int .i64 (mn : Nat))) := (HO.out.setCell (.inr (.inl rfl)) _).setCell (.inr (.inr rfl)) _
        have yb2 : (wr.setCell ⟨bb, x, none⟩ (.int .i64 9223372036854775807)).cell? ⟨lb, x, none⟩ = wr.cell? ⟨lb, x, none⟩ := World.cell?_setCell_other _ _ _ _ (fun e => by injection e with e _ _; omega)
        rw [yb] at yb2
        have HN1 := Lib.hid hn1
        have HNO := Lib.hid hno
        clear hst hn1 hno hx
        go_wp2_with fail
        go_region
        go_wp2_with fail
        exact ⟨⟨j + 1, by go_num, by omega, Lib.hid (HN1.out.below (Below.refl _ _).drew), Lib.hid HNO.out.drew⟩, by simp [intOf]; omega⟩
      · have hjk : kn = j := by omega
        subst hjk
        have hf := HJ.out
        rw [HKL.out, List.take_length] at hf
        have HF := Lib.hid hf
        clear hf
        go_wp2_with fail
        go_end0
        exact ⟨rfl, .inr ⟨hlt, _, _, by rw [← HKE.out, ← HMN.out]; exact HF.out⟩⟩
end Go.Proofs.YtfpepoebammeoaaGreat
