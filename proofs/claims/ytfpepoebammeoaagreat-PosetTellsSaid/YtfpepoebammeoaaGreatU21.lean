/- Of package poset: through, placed; of package cmp: Compare. -/
import Derived.Test.YtfpepoebammeoaaGreatU10
import Derived.Test.YtfpepoebammeoaaGreatU9
set_option linter.unusedVariables false
set_option linter.unusedSimpArgs false
namespace Go.Proofs.YtfpepoebammeoaaGreat
open Go.ChangeShapes Go.WideShapes Go.ChangeAt Go.RowKit

theorem ans_at (f : Nat → Nat) {m x : Nat} (h : x < m) : (nl (ansL f m))[x]? = some (f x : Int) := by simp [ansL, h]
theorem ans_len (f : Nat → Nat) (m : Nat) : (nl (ansL f m)).length = m := by simp [ansL]
theorem RI.ans {w : World} {v : Value} {f : Nat → Nat} {m : Nat} (h : RI w v (nl (ansL f m))) (hm : 0 < m) : ∃ b o c, v = .slice (.some ⟨b, o, none⟩) m c ∧ b < w.heap.size ∧ m ≤ c ∧ c ≤ maxLen ∧ ∀ x, x < m → w.cell? ⟨b, o + x, none⟩ = .some (.int .i64 (f x : Int)) := by
  obtain ⟨a, c, rfl⟩ := h.form
  rw [ans_len] at h
  obtain ⟨b, o, rfl, _, hl, hc, hm2, hx⟩ := h.some hm
  exact ⟨b, o, c, by rw [ans_len], hl, hc, hm2, fun x hx' => hx x _ (ans_at f hx')⟩
theorem thr_take {f : Nat → Nat} {es : EdN} {j : Nat} {a b : Nat} (h : es[j]? = some (a, b)) : thrE f (es.take (j + 1)) = thrE f (es.take j) ++ if f a = f b then [] else [(f a, f b)] := by
  unfold thrE
  rw [List.take_add_one, h, List.map_append, List.filter_append]
  congr 1
  by_cases e : f a = f b
  · rw [if_pos e]; simp [e]
  · rw [if_neg e]; simp [e]
set_option maxHeartbeats 2000000 in
set_option maxRecDepth 100000 in
theorem through_any (es : EdN) (f : Nat → Nat) (m : Nat) (v nv : Value) (w : World) (hr : RE w v (toI es)) (hn : RI w nv (nl (ansL f m))) (hl : es.length ≤ 1000000) (hlt : ∀ e ∈ es, e.1 < m ∧ e.2 < m) (hf : ∀ x, f x ≤ 1000000) :
    Calls Tryz.prog 21 #[v, nv] w fun e w' => ∃ ov, e = .returned ov ∧ Row 2 w.heap.size w' ov (thrE f es).length (evs (toI (thrE f es))) ∧ Below w.heap.size w w' := by
  obtain ⟨va, vc, rfl⟩ := hr.form
  obtain ⟨na, nc, rfl⟩ := hn.form
  rw [ans_len] at hn ⊢
  obtain ⟨E, hE⟩ : ∃ E, E = es.length := ⟨_, rfl⟩
  have hlI : (toI es).length = E := by rw [hE]; simp [toI]
  rw [hlI] at hr ⊢
  rw [← hE] at hl
  have HE := Lib.hid hE
  have HR := Lib.hid hr
  have HN := Lib.hid hn
  have HLT := Lib.hid hlt
  have HFB := Lib.hid hf
  have HI : Hid (∀ (j : Nat) e, es[j]? = some e → (toI es)[j]? = some ((e.1 : Int), (e.2 : Int))) := Lib.hid (fun j e he => by simp [toI, he])
  clear hr hn hlI hE hlt hf
  go_enter Tryz.func21, Tryz.ntmps21
  go_wp2_with fail
  go_loopw [5, 12] (fun ov jv wr => ∃ j k : Nat, jv = .int .i64 (j : Nat) ∧ j ≤ E ∧ k ≤ j ∧ Hid (k = (thrE f (es.take j)).length) ∧ Hid (Row 2 w.heap.size wr ov k (evs (toI (thrE f (es.take j))))) ∧ Hid (Below w.heap.size w wr)) (fun _ jv _ => E - (intOf jv).toNat)
  case atStart => exact ⟨0, 0, rfl, Nat.zero_le _, Nat.le_refl _, Lib.hid (by simp [thrE]), Lib.hid (Row.nil _ _ _), Lib.hid (Below.refl _ _)⟩
  case round =>
    obtain ⟨j, k, rfl, hj, hkj, HK, HO, HB⟩ := hrel
    obtain ⟨oa, oc, rfl⟩ := HO.out.form
    by_cases hlj : j < E
    · obtain ⟨e, he⟩ : ∃ e, es[j]? = some e := ⟨es[j]'(by rw [← HE.out]; exact hlj), by simp⟩
      have hem := HLT.out e (List.mem_of_getElem? he)
      obtain ⟨a, b⟩ := e
      obtain ⟨vb, vo, rfl, hvb, hvc1, hvc2, d0, d1⟩ := (HR.out.below HB.out).at (HI.out j _ he)
      simp only at d0 d1 hem
      obtain ⟨ham, hbm⟩ := hem
      obtain ⟨nb, no, nc', hnv, hnl, hnc1, hnc2, hnx⟩ := (HN.out.below HB.out).ans (by omega)
      injection hnv with h1 _ h3
      subst h1; subst h3
      have HTK := Lib.hid (thr_take (f := f) he)
      obtain ⟨z, hz⟩ : ∃ z, z = wr.heap.size := ⟨_, rfl⟩
      obtain ⟨wz, hwz⟩ : ∃ wz, wz = wr.alloc (.cells #[.int .i64 (a : Int), .int .i64 (b : Int)] 36) := ⟨_, rfl⟩
      have hbz : Below wr.heap.size wr wz := by rw [hwz]; exact (Below.refl _ _).alloc (Nat.le_refl _) _
      have z0 : wz.cell? ⟨z, 0, none⟩ = some (.int .i64 (a : Int)) := by rw [hwz, hz, World.cell?_alloc_at _ _ _ _ rfl]; rfl
      have z1 : wz.cell? ⟨z, 1, none⟩ = some (.int .i64 (b : Int)) := by rw [hwz, hz, World.cell?_alloc_at _ _ _ _ rfl]; rfl
      have na := (hbz.cell (p := ⟨nb, no + a, none⟩) hnl).trans (hnx a ham)
      have nb' := (hbz.cell (p := ⟨nb, no + b, none⟩) hnl).trans (hnx b hbm)
      obtain ⟨x, hx⟩ : ∃ x, x = f a := ⟨_, rfl⟩
      obtain ⟨y, hy⟩ : ∃ y, y = f b := ⟨_, rfl⟩
      have hxb : x ≤ 1000000 := by rw [hx]; exact HFB.out a
      have hyb : y ≤ 1000000 := by rw [hy]; exact HFB.out b
      rw [← hx] at na HTK
      rw [← hy] at nb' HTK
      have hszz : wz.heap.size = wr.heap.size + 1 := by rw [hwz]; simp
      have HBZ := Lib.hid (HB.out.trans (hbz.mono HB.out.size))
      have HOZ := Lib.hid (HO.out.below hbz)
      have HWZ := Lib.hid hwz
      have hE0 : 0 < E := by omega
      unfold maxLen at hvc2 hnc2
      clear hx hy hnx hbz hwz he
      by_cases hxy : x = y
      · have hxyI : (x : Int) = (y : Int) := by omega
        have HT9 := Lib.hid (show thrE f (es.take (j + 1)) = thrE f (es.take j) by rw [HTK.out, if_pos hxy]; simp)
        subst hxy
        clear hxyI
        go_wp2_with fail
        rw [← hz, ← HWZ.out]
        clear hz hszz
        go_quiet (fail)
        go_wp2_with fail
        exact ⟨⟨j + 1, k, by go_num, by omega, by omega, Lib.hid (by rw [HT9.out]; exact HK.out), Lib.hid (by rw [HT9.out]; exact HOZ.out.drewN), Lib.hid (Below.drewN HBZ.out)⟩, by simp [intOf]; omega⟩
      · have hxyI : ¬ (x : Int) = (y : Int) := by omega
        have HT9 := Lib.hid (show thrE f (es.take (j + 1)) = thrE f (es.take j) ++ [(x, y)] by rw [HTK.out, if_neg hxy])
        clear hxy
        go_wp2_with fail
        rw [← hz, ← HWZ.out]
        clear hz
        go_quiet (fail)
        generalize hwq : wz.drewN _ = wq
        have HOQ := Lib.hid (show Row 2 w.heap.size wq (.slice oa k oc) k (evs (toI (thrE f (es.take j)))) by rw [← hwq]; exact HOZ.out.drewN)
        have HBQ := Lib.hid (show Below w.heap.size w wq by rw [← hwq]; exact Below.drewN HBZ.out)
        clear hwq
        have hsrc : Src Tryz.prog 2 22 (.slice (some ⟨wq.heap.size, 0, none⟩) 1 1) 1 [.int .i64 (x : Int), .int .i64 (y : Int)] (wq.alloc (.cells #[.int .i64 (x : Int), .int .i64 (y : Int)] 36)) := src_new Tryz.underlying22 [.int .i64 (x : Int), .int .i64 (y : Int)] 1 36 1 rfl onePr
        have HSRC := Lib.hid hsrc
        have HRA := Lib.hid (HOQ.out.alloc (.cells #[.int .i64 (x : Int), .int .i64 (y : Int)] 36))
        have hszw : w.heap.size ≤ (wq.alloc (.cells #[.int .i64 (x : Int), .int .i64 (y : Int)] 36)).heap.size := by have := HBQ.out.size; simp; omega
        have HBA := Lib.hid (HBQ.out.alloc HBQ.out.size (.cells #[.int .i64 (x : Int), .int .i64 (y : Int)] 36))
        have HOWN := Lib.hid (fun b hb => (HOQ.out.lt b hb).1)
        clear hsrc
        go_wp2_with (at_builtin; refine wpList_append_row rfl (.tmp 29) (.tmp 33) 22 22 rfl 2 36 (.agg #[.int .i64 0, .int .i64 0]) 16 Tryz.underlying22 infoPr rfl w.heap.size (.slice oa k oc) k (evs (toI (thrE f (es.take j)))) (by simp [Act.eval]) HRA.out (.slice (some ⟨wq.heap.size, 0, none⟩) 1 1) (by simp [Act.eval]) 1 [.int .i64 (x : Int), .int .i64 (y : Int)] HSRC.out hszw (by omega) (by decide) ?_; intro v6 w6 hr6 ho6 hw6; obtain ⟨a6, c6, hv6⟩ := hr6.form; subst hv6; have HR6 := Lib.hid hr6; have HO6 := Lib.hid ho6; clear hr6 ho6 hw6)
        have HR9 := Lib.hid (show Row 2 w.heap.size w6 (.slice a6 (k + 1) c6) (k + 1) (evs (toI (thrE f (es.take (j + 1))))) by
          rw [HT9.out]
          have e : evs (toI (thrE f (es.take j) ++ [(x, y)])) = evs (toI (thrE f (es.take j))) ++ [.int .i64 (x : Int), .int .i64 (y : Int)] := by
            unfold toI
            rw [List.map_append]
            exact evs_snoc _ _
          rw [e]
          exact HR6.out)
        exact ⟨⟨j + 1, k + 1, by go_num, by omega, by omega, Lib.hid (by rw [HT9.out, List.length_append, ← HK.out]; rfl), HR9, Lib.hid (HBA.out.trans (HO6.out.below (B := w.heap.size) HOWN.out hszw))⟩, by simp [intOf]; omega⟩
    · have hje : E = j := by omega
      have hll : es.take j = es := List.take_of_length_le (by rw [← HE.out]; omega)
      have HO9 := HO.out
      have HK9 := HK.out
      rw [hll] at HO9 HK9
      have HO8 := Lib.hid (show Row 2 w.heap.size wr (.slice oa k oc) (thrE f es).length (evs (toI (thrE f es))) by rw [← HK9]; exact HO9)
      subst hje
      clear HO9 HK9 HO hll
      go_wp2_with fail
      go_ret
      exact ⟨_, rfl, HO8.out, HB.out⟩

set_option maxHeartbeats 2000000 in
set_option maxRecDepth 100000 in
theorem placed_any (ls : Nat → Nat) (out : List Int) (m : Nat) (lv nv : Value) (w : World) (hr : RI w lv out) (hn : RI w nv (nl (ansL ls m))) (hl : out.length = m) (hm : m ≤ 1000000) (hnd : out.Nodup) (hin : ∀ x ∈ out, ∃ u : Nat, u < m ∧ x = (u : Int)) :
    Calls Tryz.prog 23 #[lv, nv] w fun e w' => ∃ pb, e = .returned (.slice (some ⟨pb, 0, none⟩) m m) ∧ Row 1 w.heap.size w' (.slice (some ⟨pb, 0, none⟩) m m) m (bkv (atR ls out m) m) ∧ Below w.heap.size w w' := by
  obtain ⟨la, lc, rfl⟩ := hr.form
  obtain ⟨na, nc, rfl⟩ := hn.form
  rw [ans_len] at hn ⊢
  rw [hl] at hr ⊢
  have mk1 := run_make_row' (P := Tryz.prog) 23 3 (.int .i64 0) 8 Tryz.underlying23 infoIk rfl .i64 .i64 m (by omega) (by omega)
  have hr0 : Row 1 w.heap.size (w.alloc (.cells (madeCells #[.int .i64 0] m) 3)) (.slice (some ⟨w.heap.size, 0, none⟩) m m) m (bkv (atR ls out 0) m) := by
    have : bkv (atR ls out 0) m = iv (List.replicate m 0) := by
      rw [bkv_congr (g := fun _ => 0) (fun v _ => atR_zero ls out v), ← bkv_zero]
    rw [this]
    exact made_intk hm (Nat.le_refl _) _
  have HR0 := Lib.hid hr0
  have HB0 := Lib.hid ((Below.refl w.heap.size w).alloc (Nat.le_refl _) (.cells (madeCells #[.int .i64 0] m) 3))
  have HS0 : Hid (w.heap.size < (w.alloc (.cells (madeCells #[.int .i64 0] m) 3)).heap.size) := Lib.hid (by simp)
  have HR := Lib.hid hr
  have HN := Lib.hid hn
  have HL := Lib.hid hl
  have HND := Lib.hid hnd
  have HIN := Lib.hid hin
  clear hr hn hl hnd hin hr0
  go_enter Tryz.func23, Tryz.ntmps23
  go_wp2_with fail
  go_loopw [6, 14] (fun nv jv wr => ∃ j k : Nat, nv = .int .i64 (k : Nat) ∧ jv = .int .i64 (j : Nat) ∧ j ≤ m ∧ k ≤ j ∧ Hid (k = cntR ls out j) ∧ Hid (Row 1 w.heap.size wr (.slice (some ⟨w.heap.size, 0, none⟩) m m) m (bkv (atR ls out j) m)) ∧ Hid (Below w.heap.size w wr) ∧ w.heap.size < wr.heap.size) (fun _ jv _ => m - (intOf jv).toNat)
  case atStart => exact ⟨0, 0, rfl, rfl, Nat.zero_le _, Nat.le_refl _, Lib.hid (cntR_zero ls out).symm, HR0, HB0, HS0.out⟩
  case round =>
    obtain ⟨j, k, rfl, rfl, hj, hkj, HK, HO, HB, hsz⟩ := hrel
    by_cases hlj : j < m
    · obtain ⟨x0, hx0⟩ : ∃ x, out[j]? = some x := ⟨out[j]'(by rw [HL.out]; exact hlj), by simp⟩
      obtain ⟨x, hxm, rfl⟩ := HIN.out x0 (List.mem_of_getElem? hx0)
      have HC := Lib.hid (cntR_succ (ls := ls) hx0)
      obtain ⟨lb, lo, rfl, _, hlc1, hlc2, cx⟩ := (HR.out.below HB.out).at hx0
      obtain ⟨nb, no, nc', hnv, _, hnc1, hnc2, hnx⟩ := (HN.out.below HB.out).ans (by omega)
      injection hnv with h1 _ h3
      subst h1; subst h3
      have cn := hnx x hxm
      obtain ⟨ca, fa, _⟩ := HO.out.cellF (bkv_at (atR ls out j) hxm)
      unfold maxLen at hlc2 hnc2
      by_cases hrp : ls x = x
      · have hb : repB ls (x : Int) = true := by unfold repB; rw [Int.toNat_natCast, hrp]; simp
        have HC9 : Hid (k + 1 = cntR ls out (j + 1)) := Lib.hid (by rw [HC.out, hb, HK.out]; rfl)
        have hp := HO.out.put (j := x) (by rw [bkv_len]; exact hxm) (.int .i64 (k : Int))
        have hset : (bkv (atR ls out j) m).set x (.int .i64 (k : Int)) = bkv (atR ls out (j + 1)) m := by
          rw [bkv_set _ hxm]
          exact bkv_congr fun v _ => by
            rw [atR_take HND.out hx0 hrp v, HK.out]
            rfl
        rw [hset] at hp
        have HP := Lib.hid hp
        have HB9 := Lib.hid (HB.out.setCell (p := ⟨w.heap.size, x, none⟩) (Nat.le_refl _) (.int .i64 (k : Int)))
        have hsz9 : w.heap.size < (wr.setCell ⟨w.heap.size, x, none⟩ (.int .i64 (k : Int))).heap.size := by simpa [World.setCell] using hsz
        have HSZ := Lib.hid hsz9
        rw [hrp] at cn
        clear hp hset hb hnx hx0 hrp hsz9
        go_wp2_with fail
        exact ⟨⟨j + 1, k + 1, by go_num, by go_num, by omega, by omega, HC9, HP, HB9, HSZ.out⟩, by simp [intOf]; omega⟩
      · have hb : repB ls (x : Int) = false := by unfold repB; rw [Int.toNat_natCast, beq_eq_false_iff_ne]; exact hrp
        have HC9 : Hid (k = cntR ls out (j + 1)) := Lib.hid (by rw [HC.out, hb, HK.out]; rfl)
        have HP := Lib.hid (show Row 1 w.heap.size wr (.slice (some ⟨w.heap.size, 0, none⟩) m m) m (bkv (atR ls out (j + 1)) m) by
          rw [bkv_congr (g := atR ls out j) (fun v _ => atR_skip hx0 hrp v)]
          exact HO.out)
        obtain ⟨y, hy⟩ : ∃ y, y = ls x := ⟨_, rfl⟩
        rw [← hy] at cn hrp
        have hyI : ¬ (y : Int) = (x : Int) := by omega
        have hyb : ((y : Int) == (x : Int)) = false := by rw [beq_eq_false_iff_ne]; exact hyI
        clear hb hnx hx0 hrp hy
        go_wp2_with fail
        exact ⟨⟨j + 1, k, rfl, by go_num, by omega, by omega, HC9, HP, HB, hsz⟩, by simp [intOf]; omega⟩
    · have hje : m = j := by omega
      subst hje
      go_wp2_with fail
      go_ret
      exact ⟨_, rfl, HO.out, HB.out⟩

def cmpI (a b : Int) : Int := if a < b then -1 else if b < a then 1 else 0
theorem isnan_any (x : Int) (w : World) : Calls Tryz.prog 55 #[.int .i64 x] w fun e w' => e = .returned (.bool false) ∧ w' = w := by
  go_enter Tryz.func55, Tryz.ntmps55
  go_wp2_with fail
  go_ret
  exact ⟨by simp, rfl⟩
theorem compare_any (a b : Int) (w : World) : Calls Tryz.prog 27 #[.int .i64 a, .int .i64 b] w fun e w' => e = .returned (.int .i64 (cmpI a b)) ∧ w' = w := by
  have H1 := Lib.hid (fun x => isnan_any x w)
  unfold cmpI
  by_cases h1 : a < b
  · rw [if_pos h1]
    go_enter Tryz.func27, Tryz.ntmps27
    go_wp2_with fail
    refine (H1.out _).mono ?_
    rintro e w2 ⟨rfl, rfl⟩
    go_wp2_with fail
    refine (H1.out _).mono ?_
    rintro e w2 ⟨rfl, rfl⟩
    go_wp2_with fail
    go_ret
    exact ⟨rfl, rfl⟩
  · rw [if_neg h1]
    by_cases h2 : b < a
    · rw [if_pos h2]
      go_enter Tryz.func27, Tryz.ntmps27
      go_wp2_with fail
      refine (H1.out _).mono ?_
      rintro e w2 ⟨rfl, rfl⟩
      go_wp2_with fail
      refine (H1.out _).mono ?_
      rintro e w2 ⟨rfl, rfl⟩
      go_wp2_with fail
      go_ret
      exact ⟨rfl, rfl⟩
    · rw [if_neg h2]
      go_enter Tryz.func27, Tryz.ntmps27
      go_wp2_with fail
      refine (H1.out _).mono ?_
      rintro e w2 ⟨rfl, rfl⟩
      go_wp2_with fail
      refine (H1.out _).mono ?_
      rintro e w2 ⟨rfl, rfl⟩
      go_wp2_with fail
      go_ret
      exact ⟨rfl, rfl⟩
end Go.Proofs.YtfpepoebammeoaaGreat
