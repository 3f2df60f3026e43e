/- The document's told, walked: what is asked for. The document's Runs, walked. -/
import Derived.Test.YtfpepoebammeoaaGreatU0
import Derived.Test.YtfpepoebammeoaaGreatU26
import Derived.Test.YtfpepoebammeoaaGreatU44
import Derived.Test.YtfpepoebammeoaaGreatU46
import Derived.Test.YtfpepoebammeoaaGreatU6
set_option linter.unusedVariables false
set_option linter.unusedSimpArgs false
namespace Go.Proofs.YtfpepoebammeoaaGreat
open Go.ChangeShapes Go.WideShapes Go.ChangeAt Go.RowKit Go.WideMaps Go.Maps

def lenV : Value → Nat
  | .slice _ n _ => n
  | _ => 0
theorem bool_lit {a b : Bool} (h : (DataW.lit (Lit.bool a) : DU) = .lit (.bool b)) : b = a := by
  injection h with h
  injection h with h
  exact h.symm
theorem look_bool {w : World} {t : TypeId} {b n : Nat} {D : DU} {key : Value} {kl : Lit} {c : Bool} (hown : w.ownsMap Tryz.prog 3 (plainElem Tryz.prog 4) b n D) (ht : Tryz.prog.underlying t = some (.map 3 4)) (hkey : keyOf Tryz.prog 3 key = some kl) (hc : D.atKey kl (.lit (.bool false)) = .lit (.bool c)) : (Instr.lookup t (.map (some b)) key false).run Tryz.prog w = .ok (.bool c) w := by
  obtain ⟨v, ps, hrun, hv⟩ := hown.lookup ilaw ht (zeroB9 w) (plainElem_bool (P := Tryz.prog) Tryz.underlying4 false) hkey
  obtain ⟨c', rfl, e⟩ := plainElem_bool_inv Tryz.underlying4 hv
  rw [hrun, bool_lit (hc.symm.trans (congrArg Prod.fst e))]
set_option maxHeartbeats 8000000 in
set_option maxRecDepth 100000 in
theorem rtold_any (p N : Nat) (F : EdN) (hF : ∀ e ∈ F, e.1 < N ∧ e.2 < N) (P : Int → Int) (hP : ∀ x y : Nat, P (x : Int) = P (y : Int) ↔ Knot (EdR F) x y) (l : List Int) (lv : Value) (w : World) (h : ROrd w p N (viaB (edB F) N)) (hr : RI w lv l) (hl : l.length ≤ 60)
    (hlb : ∀ x ∈ l, -9223372036854775808 ≤ x ∧ x ≤ 9223372036854775807) (hN : N ≤ 2000) (A : List Nat) (hA : A = askN (hasB (N : Int)) P l) (L : List Int) (hL : ReachK (needE (pairA (fun i j => AheadK (EdR F) (A.getD i 0) (A.getD j 0)) A.length)) A.length L) (hLl : L.length = A.length) :
    Calls Tryz.prog 37 #[.pointer (some ⟨p, 0, none⟩), lv] w fun e w' => ∃ ov, e = .returned ov ∧ RI w' ov (L.map (thgI A)) ∧ Below w.heap.size w w' := by
  obtain ⟨la, lc, rfl⟩ := hr.form
  obtain ⟨LN, hLN⟩ : ∃ LN, LN = l.length := ⟨_, rfl⟩
  rw [← hLN] at hr hl ⊢
  have HTH := Lib.hid (fun (a : Int) (ha : a ∈ l) W (hb : Below w.heap.size w W) => rthere_any p N _ a W (h.below hb) hN (hlb a ha).1 (hlb a ha).2)
  have HRO := Lib.hid h
  have HR := Lib.hid hr
  have HLB := Lib.hid hlb
  have HLN := Lib.hid hLN
  have HOH := Lib.hid (fun (j : Nat) y (hy : y ∈ askL (hasB (N : Int)) P (l.take j)) => ((ask_is (hasB (N : Int)) P (l.take j)).1 y hy).1)
  have HOL := Lib.hid (fun (j : Nat) => ask_len (hasB (N : Int)) P l j)
  have HST := Lib.hid (fun (j : Nat) t (ht : l[j]? = some t) => (ask_take (h := hasB (N : Int)) (P := P) ht).trans (ask_knB hF hP (HOH.out j) t))
  have HTB : Hid (0 < N → ∃ (ob oc : Nat) (rb : Nat → Nat), N ≤ oc ∧ oc ≤ 9223372036854775807 ∧ ∀ W, Below w.heap.size w W → W.cell? ⟨p, 0, none⟩ = some (.slice (some ⟨ob, 0, none⟩) N oc) ∧ (∀ x, x < N → W.cell? ⟨ob, x, none⟩ = some (.slice (some ⟨rb x, 0, none⟩) N N)) ∧ ∀ x y, x < N → y < N → W.cell? ⟨rb x, y, none⟩ = some (.bool (viaB (edB F) N x y))) := Lib.hid (fun h0 => by
    obtain ⟨B, ov, rb, h1, h2⟩ := h.tab
    obtain ⟨ob, oc, hov, h3, h4⟩ := h2.form h0
    subst hov
    unfold maxLen at h4
    exact ⟨ob, oc, rb, h3, by omega, fun W hb => ⟨(hb.cell (p := ⟨p, 0, none⟩) h.lt).trans h1, fun x hx => (h2.below hb).row hx, fun x y hx hy => ((h2.below hb).cell hx hy).1⟩⟩)
  clear h hr hLN
  go_enter Tryz.func37, Tryz.ntmps37
  go_wp2_with fail
  go_loopw [5, 6] (fun ov nv wr => ∃ i k : Nat, nv = .int .i64 (i : Nat) ∧ i ≤ LN ∧ k ≤ i ∧ Hid (k = (askL (hasB (N : Int)) P (l.take i)).length) ∧ Hid (Row 1 w.heap.size wr ov k (iv (askL (hasB (N : Int)) P (l.take i)))) ∧ Hid (Below w.heap.size w wr)) (fun _ nv _ => LN - (intOf nv).toNat)
  case atStart => exact ⟨0, 0, rfl, Nat.zero_le _, Nat.le_refl _, Lib.hid rfl, Lib.hid (Row.nil _ _ _), Lib.hid (Below.refl _ _)⟩
  case round =>
    obtain ⟨i, k, rfl, hi, hki, HK, HO, HB⟩ := hrel
    obtain ⟨oa, oc, rfl⟩ := HO.out.form
    obtain ⟨wi, rfl⟩ : ∃ wi, wi = wr := ⟨wr, rfl⟩
    by_cases hli : i < LN
    · obtain ⟨t, ht⟩ : ∃ t, l[i]? = some t := ⟨l[i]'(by rw [← HLN.out]; exact hli), by simp⟩
      obtain ⟨vb, vo, rfl, hvb, hvc1, hvc2, ct⟩ := HR.out.at ht
      have ct := (HB.out.cell (p := ⟨vb, _, none⟩) hvb).trans ct
      have HCT : Hid (∀ W, Below wi.heap.size wi W → W.cell? ⟨vb, vo + i, none⟩ = some (.int .i64 t)) := Lib.hid (fun W hW => (hW.cell (p := ⟨vb, _, none⟩) (Nat.lt_of_lt_of_le hvb HB.out.size)).trans ct)
      have HT := Lib.hid (HTH.out t (List.mem_of_getElem? ht) wi HB.out)
      have HS := Lib.hid (HST.out i t ht)
      obtain ⟨O, hO⟩ : ∃ O, O = askL (hasB (N : Int)) P (l.take i) := ⟨_, rfl⟩
      have HOI := Lib.hid (HOH.out i)
      rw [← hO] at HK HO HS HOI
      have HOE := Lib.hid hO
      obtain ⟨hb, hhb⟩ : ∃ hb, hb = hasB (N : Int) t := ⟨_, rfl⟩
      rw [← hhb] at HT HS
      have HHB := Lib.hid hhb
      unfold maxLen at hvc2
      clear ht hO hhb hvb
      go_wp2_with fail
      refine HT.out.mono ?_
      rintro e w2 ⟨rfl, hw2⟩
      obtain rfl := hw2.symm
      go_wp2_with fail
      go_loopw [7, 8] (fun av qv W => ∃ q : Nat, qv = .int .i64 (q : Nat) ∧ q ≤ k ∧ av = .bool (!hb || (O.take q).any (knB N F t)) ∧ Hid (Below wi.heap.size wi W)) (fun _ qv _ => k - (intOf qv).toNat)
      case atStart => exact ⟨0, rfl, Nat.zero_le _, by simp, Lib.hid (Below.refl _ _)⟩
      case round =>
        obtain ⟨q, rfl, hq, rfl, HBQ⟩ := hrel
        obtain ⟨wq, rfl⟩ : ∃ wq, wq = wr := ⟨wr, rfl⟩
        obtain ⟨c, hc⟩ : ∃ c, c = (!hb || (O.take q).any (knB N F t)) := ⟨_, rfl⟩
        rw [← hc]
        have HC := Lib.hid hc
        have ct := HCT.out wq HBQ.out
        clear hc
        cases c with
        | true =>
          have HS9 : Hid (askL (hasB (N : Int)) P (l.take (i + 1)) = O) := Lib.hid (by
            rw [HS.out, if_pos]
            cases hb with
            | false => rfl
            | true =>
              have h := HC.out.symm
              simp only [Bool.not_true, Bool.false_or] at h ⊢
              rw [List.any_eq_true] at h ⊢
              obtain ⟨y, hy, e⟩ := h
              exact ⟨y, List.mem_of_mem_take hy, e⟩)
          have HO9 := Lib.hid (HO.out.below HBQ.out)
          have HB9 := Lib.hid (HB.out.trans (HBQ.out.mono HB.out.size))
          go_wp2_with fail
          all_goals exact ⟨⟨i + 1, k, by go_num, by omega, by omega, Lib.hid (by rw [HS9.out]; exact HK.out), Lib.hid (by rw [HS9.out]; exact HO9.out), HB9⟩, by simp [intOf]; omega⟩
        | false =>
          have HHT : Hid (hb = true) := Lib.hid (by
            have h := HC.out
            cases hb with
            | true => rfl
            | false => simp at h)
          by_cases hlq : q < k
          · obtain ⟨y, hy⟩ : ∃ y, O[q]? = some y := ⟨O[q]'(by rw [← HK.out]; exact hlq), by simp⟩
            have hyB := HOI.out y (List.mem_of_getElem? hy)
            have htB : hasB (N : Int) t = true := by rw [← HHB.out]; exact HHT.out
            obtain ⟨y1, y2⟩ := hasB_iff.1 hyB
            obtain ⟨t1, t2⟩ := hasB_iff.1 htB
            obtain ⟨tn, rfl⟩ : ∃ tn : Nat, t = (tn : Int) := ⟨t.toNat, by omega⟩
            obtain ⟨yn, rfl⟩ : ∃ yn : Nat, y = (yn : Int) := ⟨y.toNat, by omega⟩
            have hyN : yn < N := by omega
            have htN : tn < N := by omega
            have HAN : Hid ((!hb || (O.take (q + 1)).any (knB N F (tn : Int))) = (decide ((yn : Int) = (tn : Int)) || (viaB (edB F) N yn tn && viaB (edB F) N tn yn))) := Lib.hid (by
              rw [any_take hy, HHT.out]
              have h := HC.out
              rw [HHT.out] at h
              simp only [Bool.not_true, Bool.false_or] at h ⊢
              rw [← h, Bool.false_or]
              unfold knB
              rw [Int.toNat_natCast, Int.toNat_natCast])
            obtain ⟨ob, oc', rb, hoc1, hoc2, htab⟩ := HTB.out (by omega)
            obtain ⟨c0, crow, ccell⟩ := htab wq (HB.out.trans (HBQ.out.mono HB.out.size))
            have ry := crow yn hyN
            have rt := crow tn htN
            have cyt := ccell yn tn hyN htN
            have cty := ccell tn yn htN hyN
            have HOR := Lib.hid (HO.out.below HBQ.out)
            obtain ⟨ab, cap, hav, _, _, hac1, hac2, _, hcv⟩ := HOR.out.pos (by omega)
            injection hav with e1 _ e3
            subst e1
            subst e3
            have cy := hcv q (.int .i64 (yn : Int)) (by simp [iv, hy])
            obtain ⟨d1, hd1⟩ : ∃ d1, d1 = viaB (edB F) N yn tn := ⟨_, rfl⟩
            obtain ⟨d2, hd2⟩ : ∃ d2, d2 = viaB (edB F) N tn yn := ⟨_, rfl⟩
            rw [← hd1] at cyt HAN
            rw [← hd2] at cty HAN
            have HB9 := HBQ
            unfold maxLen at hac2
            clear hy hyB htB y1 y2 t1 t2 crow ccell htab hcv hd1 hd2
            by_cases hyt : yn = tn
            · have hyb : ((yn : Int) == (tn : Int)) = true := by simp [hyt]
              have HN9 : Hid ((!hb || (O.take (q + 1)).any (knB N F (tn : Int))) = true) := Lib.hid (by rw [HAN.out, hyt, decide_eq_true rfl, Bool.true_or])
              subst hyt
              clear HAN cyt cty
              go_wp2_with fail
              go_quiet (fail)
              go_wp2_with fail
              exact ⟨⟨q + 1, by go_num, by omega, by rw [HN9.out], Lib.hid (below_drewN HB9.out)⟩, by simp [intOf]; omega⟩
            · have hyb : ((yn : Int) == (tn : Int)) = false := beq_eq_false_iff_ne.2 (by omega)
              have HN9 : Hid ((!hb || (O.take (q + 1)).any (knB N F (tn : Int))) = (d1 && d2)) := Lib.hid (by rw [HAN.out, decide_eq_false (by omega)]; simp)
              clear HAN
              cases d1 with
              | false =>
                have HN8 : Hid ((!hb || (O.take (q + 1)).any (knB N F (tn : Int))) = false) := Lib.hid (by rw [HN9.out]; rfl)
                go_wp2_with fail
                go_quiet (fail)
                go_wp2_with fail
                exact ⟨⟨q + 1, by go_num, by omega, by rw [HN8.out], Lib.hid (below_drewN HB9.out)⟩, by simp [intOf]; omega⟩
              | true =>
                have HN8 : Hid ((!hb || (O.take (q + 1)).any (knB N F (tn : Int))) = d2) := Lib.hid (by rw [HN9.out]; simp)
                go_wp2_with fail
                go_quiet (fail)
                go_wp2_with fail
                exact ⟨⟨q + 1, by go_num, by omega, by rw [HN8.out], Lib.hid (below_drewN HB9.out)⟩, by simp [intOf]; omega⟩
          · have hqe : k = q := by omega
            have HS9 : Hid (askL (hasB (N : Int)) P (l.take (i + 1)) = O ++ [t]) := Lib.hid (by
              rw [HS.out, if_neg]
              have h := HC.out
              rw [List.take_of_length_le (by rw [← HK.out]; omega)] at h
              rw [← h]; simp)
            have HOA := Lib.hid ((HO.out.below HBQ.out).alloc (.cells #[.int .i64 t] 3))
            have HB8 := Lib.hid ((HB.out.trans (HBQ.out.mono HB.out.size)).alloc (Nat.le_trans HB.out.size HBQ.out.size) (.cells #[.int .i64 t] 3))
            have HSRC := Lib.hid (show Src Tryz.prog 1 23 (.slice (some ⟨wq.heap.size, 0, none⟩) 1 1) 1 [.int .i64 t] (wq.alloc (.cells #[.int .i64 t] 3)) from src_new Tryz.underlying23 [.int .i64 t] 1 3 1 rfl oneIk)
            have HSZ : Hid (w.heap.size ≤ (wq.alloc (.cells #[.int .i64 t] 3)).heap.size) := Lib.hid HB8.out.size
            have HZ : Hid (∀ b, (Value.slice oa k oc).ownBlock = some b → w.heap.size ≤ b) := Lib.hid (fun b hb => (HO.out.lt b hb).1)
            subst hqe
            go_wp2_with (at_builtin; refine wpList_append_row rfl (.tmp 85) (.tmp 90) 23 23 rfl 1 3 (.int .i64 0) 8 Tryz.underlying23 infoIk rfl w.heap.size (.slice oa k oc) k (iv O) (by simp [Act.eval]) HOA.out (.slice (some ⟨wq.heap.size, 0, none⟩) 1 1) (by simp [Act.eval]) 1 [.int .i64 t] HSRC.out HSZ.out (by omega) (by decide) ?_; intro v8 w8 hr8 ho8 hw8; obtain ⟨a8, c8, hv8⟩ := hr8.form; subst hv8; have HR8 := Lib.hid hr8; have HO8 := Lib.hid ho8; clear hr8 ho8 hw8)
            have HR9 : Hid (Row 1 w.heap.size w8 (.slice a8 (k + 1) c8) (k + 1) (iv (O ++ [t]))) := Lib.hid (by
              have e : iv (O ++ [t]) = iv O ++ [.int .i64 t] := by simp [iv]
              rw [e]
              exact HR8.out)
            exact ⟨⟨i + 1, k + 1, by go_num, by omega, by omega, Lib.hid (by rw [HS9.out, List.length_append, ← HK.out]; rfl), Lib.hid (by rw [HS9.out]; exact HR9.out), Lib.hid (HB8.out.trans (HO8.out.below (B := w.heap.size) HZ.out HSZ.out))⟩, by simp [intOf]; omega⟩
    · have hie : LN = i := by omega
      obtain ⟨O, hO⟩ : ∃ O, O = askL (hasB (N : Int)) P l := ⟨_, rfl⟩
      have hOt : askL (hasB (N : Int)) P (l.take i) = O := by rw [hO, List.take_of_length_le (by rw [← HLN.out]; omega)]
      rw [hOt] at HK HO
      have hAS := askN_is (N : Int) P l
      rw [← hA] at hAS
      obtain ⟨m, hm⟩ : ∃ m, m = A.length := ⟨_, rfl⟩
      have hints := hAS.ints
      rw [← hO] at hints
      have hkm : k = m := by
        have h1 := congrArg List.length hints
        rw [List.length_map, (sortI_perm O).length_eq] at h1
        have := HK.out
        omega
      have hoA : ∀ x, x ∈ O ↔ ∃ u, u < A.length ∧ x = thgI A (u : Int) := fun x => by
        rw [← (sortI_perm O).mem_iff, ← hints, List.mem_map]
        constructor
        · rintro ⟨y, hy, rfl⟩
          obtain ⟨u, hu⟩ := List.getElem?_of_mem hy
          have hul := (List.getElem?_eq_some_iff.1 hu).1
          refine ⟨u, hul, ?_⟩
          rw [thgI_nat, List.getD_eq_getElem?_getD, hu]
          rfl
        · rintro ⟨u, hu, rfl⟩
          refine ⟨A.getD u 0, ?_, (thgI_nat A u).symm⟩
          rw [List.getD_eq_getElem?_getD, List.getElem?_eq_getElem hu]
          exact List.getElem_mem hu
      have hbd : ∀ u, u < A.length → ((A.getD u 0 : Nat) : Int) < (N : Int) := fun u hu => by
        refine hAS.lt _ ?_
        rw [List.getD_eq_getElem?_getD, List.getElem?_eq_getElem hu]
        exact List.getElem_mem hu
      have hah : ∀ u v, u < A.length → v < A.length → (ahB (N : Int) F (thgI A (u : Int)) (thgI A (v : Int)) = true ↔ AheadK (EdR F) (A.getD u 0) (A.getD v 0)) := fun u v hu hv => by
        rw [thgI_nat, thgI_nat, ahB_iff, Int.toNat_natCast, Int.toNat_natCast]
        exact ⟨fun h => h.2.2.2.2, fun h => ⟨by omega, hbd u hu, by omega, hbd v hv, h⟩⟩
      have HNEXT := Lib.hid (fun (k : Nat) x (hk : L[k]? = some x) => told_next hL hAS.asc hoA hah hk)
      have HOB : Hid (∀ x ∈ O, 0 ≤ x ∧ x < (N : Int)) := Lib.hid (fun x hx => by
        obtain ⟨u, hu, rfl⟩ := (hoA x).1 hx
        rw [thgI_nat]
        exact ⟨by omega, hbd u hu⟩)
      have HLT : Hid (∀ x ∈ L, 0 ≤ x ∧ x < (m : Int)) := Lib.hid (fun x hx => by
        obtain ⟨u, hu, rfl⟩ := (reach_tame hL).2 x hx
        rw [hm]
        omega)
      have HOUTN : Hid (∀ (k : Nat) x, L[k]? = some x → thgI A x ∉ (L.take k).map (thgI A)) := Lib.hid (fun k x hk hmem => by
        obtain ⟨y, hy, e⟩ := List.mem_map.1 hmem
        obtain ⟨u, hu, rfl⟩ := (reach_tame hL).2 x (List.mem_of_getElem? hk)
        obtain ⟨v, hv, rfl⟩ := (reach_tame hL).2 y (List.mem_of_mem_take hy)
        rw [thgI_nat, thgI_nat] at e
        have := asc_inj hAS.asc hv hu (by omega)
        subst this
        obtain ⟨q, hq, e2⟩ := List.getElem_of_mem hy
        rw [List.getElem_take] at e2
        have hql : q < k := by rw [List.length_take] at hq; omega
        obtain ⟨hkl, e3⟩ := List.getElem?_eq_some_iff.1 hk
        have h4 := List.pairwise_iff_getElem.1 (List.nodup_iff_pairwise_ne.1 (reach_tame hL).1) q k (by omega) hkl hql
        exact h4 (by rw [e2, e3]))
      have HXB : Hid (∀ (x : Int), x ∈ L → 0 ≤ thgI A x ∧ thgI A x < (N : Int)) := Lib.hid (fun x hx => by
        obtain ⟨u, hu, rfl⟩ := (reach_tame hL).2 x hx
        rw [thgI_nat]
        exact ⟨by omega, hbd u hu⟩)
      have HOO := Lib.hid (show RI wi (.slice oa m oc) O by
        have h := HO.out
        rw [HK.out] at h
        have := RI.ofRow h
        rw [← HK.out, hkm] at this
        exact this)
      have HM := Lib.hid hm
      have HLM : Hid (L.length = m) := Lib.hid (by rw [hm]; exact hLl)
      have HOM : Hid (O.length = m) := Lib.hid (by rw [← hkm]; exact HK.out.symm)
      have HAH := Lib.hid (fun (a b : Int) (ha : a ∈ O) (hb : b ∈ O) W (hW : Below wi.heap.size wi W) => rahead_any p N F hF a b W (HRO.out.below (HB.out.trans (hW.mono HB.out.size))) hN (by have := HOB.out a ha; omega) (by have := HOB.out a ha; omega) (by have := HOB.out b hb; omega) (by have := HOB.out b hb; omega))
      have hm60 : m ≤ 60 := by omega
      obtain ⟨S, hS⟩ : ∃ S, S = wi.heap.size := ⟨_, rfl⟩
      have HM0 := Lib.hid (show MBo (wi.alloc (.map #[] 0)) S ((L.take 0).map (thgI A)) by rw [hS]; exact MBo.made wi)
      have HB0 := Lib.hid ((Below.refl wi.heap.size wi).alloc (Nat.le_refl _) (.map #[] 0))
      have HS := Lib.hid hS
      have hmm := @run_makeMap Tryz.prog
      subst hkm
      subst hie
      clear hO hOt hAS hm hints hoA hbd hah HK HO HTB HST HOL HOH HTH hS hL hA hLl
      go_wp2_with fail
      rw [← HS.out]
      clear hmm
      go_loopw [9] (fun ov W => ∃ j : Nat, j ≤ k ∧ Hid (Row 1 (S + 1) W ov j (iv ((L.take j).map (thgI A)))) ∧ Hid (MBo W S ((L.take j).map (thgI A))) ∧ Hid (Below S wi W)) (fun ov _ => k - lenV ov)
      case atStart => exact ⟨0, Nat.zero_le _, Lib.hid (Row.nil _ _ _), HM0, Lib.hid (by rw [HS.out]; exact HB0.out)⟩
      case round =>
        clear HM0 HB0
        obtain ⟨j, hj, HR, HM2, HB2⟩ := hrel
        obtain ⟨ua, uc, rfl⟩ := HR.out.form
        obtain ⟨wk, rfl⟩ : ∃ wk, wk = wr := ⟨wr, rfl⟩
        by_cases hlj : j < k
        · obtain ⟨x, hx⟩ : ∃ x, L[j]? = some x := ⟨L[j]'(by rw [HLM.out]; exact hlj), by simp⟩
          obtain ⟨out, hout⟩ : ∃ out, out = (L.take j).map (thgI A) := ⟨_, rfl⟩
          have hbest := HNEXT.out j x hx
          rw [← hout] at hbest HR HM2
          obtain ⟨fr, hfr⟩ : ∃ fr, fr = freeB (ahB (N : Int) F) out O := ⟨_, rfl⟩
          rw [← hfr] at hbest
          have HFR := Lib.hid hfr
          have HBEST := Lib.hid hbest
          have HOUT := Lib.hid hout
          have HX := Lib.hid hx
          clear hbest hfr hout hx
          have HBk : Hid (Below wi.heap.size wi wk) := Lib.hid (by rw [← HS.out]; exact HB2.out)
          have HOk := Lib.hid (HOO.out.below HBk.out)
          go_wp2_with fail
          go_loopw [11, 12] (fun bv nv W => ∃ i : Nat, nv = .int .i64 (i : Nat) ∧ i ≤ k ∧ bv = .int .i64 (bestL fr (O.take i)) ∧ Hid (Below wk.heap.size wk W)) (fun _ nv _ => k - (intOf nv).toNat)
          case atStart => exact ⟨0, rfl, Nat.zero_le _, rfl, Lib.hid (Below.refl _ _)⟩
          case round =>
            obtain ⟨i, rfl, hi, rfl, HBI⟩ := hrel
            obtain ⟨wj, rfl⟩ : ∃ wj, wj = wr := ⟨wr, rfl⟩
            by_cases hli : i < k
            · obtain ⟨y, hy⟩ : ∃ y, O[i]? = some y := ⟨O[i]'(by rw [HOM.out]; exact hli), by simp⟩
              have hyO := List.mem_of_getElem? hy
              obtain ⟨vb, vo, rfl, hvb, hvc1, hvc2, cy⟩ := HOk.out.at hy
              have HCY : Hid (∀ W, Below wj.heap.size wj W → W.cell? ⟨vb, vo + i, none⟩ = some (.int .i64 y)) := Lib.hid (fun W hW => (hW.cell (p := ⟨vb, _, none⟩) (Nat.lt_of_lt_of_le hvb HBI.out.size)).trans ((HBI.out.cell (p := ⟨vb, _, none⟩) hvb).trans cy))
              have cy := HCY.out wj (Below.refl _ _)
              have HVB := Lib.hid hvb
              obtain ⟨hy0, hyN⟩ := HOB.out y hyO
              obtain ⟨Dm, hown, hhas, hat, hsz⟩ := HM2.out.below HBI.out
              obtain ⟨nK, hnK⟩ : ∃ nK, nK = out.length := ⟨_, rfl⟩
              rw [← hnK] at hown
              have HOWN := Lib.hid hown
              have HATS := Lib.hid hat
              have HKEY := Lib.hid (fun z (hz : z ∈ O) => show keyOf Tryz.prog 3 (.int .i64 z) = some (li z) from li_key (by have := HOB.out z hz; omega) (by have := HOB.out z hz; omega))
              have HKY := Lib.hid (HKEY.out y hyO)
              obtain ⟨c0, hc0⟩ : ∃ c0, c0 = out.contains y := ⟨_, rfl⟩
              have HAT := Lib.hid (hat y)
              rw [← hc0] at HAT
              have HBT := Lib.hid (best_take (fr := fr) hy)
              have HFY : Hid (fr y = (!c0 && O.all fun z => !(!out.contains z && ahB (N : Int) F z y))) := Lib.hid (by rw [HFR.out, hc0]; rfl)
              have HYO := Lib.hid hyO
              obtain ⟨b0, hb0⟩ : ∃ b0, b0 = bestL fr (O.take i) := ⟨_, rfl⟩
              rw [← hb0] at HBT ⊢
              unfold maxLen at hvc2
              clear hy hown hhas hat hsz hnK hc0 hvb hyO hb0
              go_wp2_with (at_lookup; refine wpList_lookup_own_bool _ rfl _ _ 35 rfl Tryz.underlying35 S nK Dm rfl HOWN.out _ _ rfl HKY.out c0 HAT.out ?_)
              go_loopw [13, 14] (fun fv nv W => ∃ q : Nat, nv = .int .i64 (q : Nat) ∧ q ≤ k ∧ fv = .bool (!c0 && (O.take q).all fun z => !(!out.contains z && ahB (N : Int) F z y)) ∧ Hid (Below wj.heap.size wj W)) (fun _ nv _ => k - (intOf nv).toNat)
              case atStart => exact ⟨0, rfl, Nat.zero_le _, by simp, Lib.hid (Below.refl _ _)⟩
              case round =>
                obtain ⟨q, rfl, hq, rfl, HBQ⟩ := hrel
                obtain ⟨wq, rfl⟩ : ∃ wq, wq = wr := ⟨wr, rfl⟩
                by_cases hlq : q < k
                · obtain ⟨z, hz⟩ : ∃ z, O[q]? = some z := ⟨O[q]'(by rw [HOM.out]; exact hlq), by simp⟩
                  have hzO := List.mem_of_getElem? hz
                  obtain ⟨vb', vo', he', _, _, _, cz⟩ := HOk.out.at hz
                  injection he' with he'
                  injection he' with e1 e2 _
                  subst e1
                  subst e2
                  have cz := (HBQ.out.cell (p := ⟨vb, _, none⟩) (Nat.lt_of_lt_of_le HVB.out HBI.out.size)).trans ((HBI.out.cell (p := ⟨vb, _, none⟩) HVB.out).trans cz)
                  have cy := HCY.out wq HBQ.out
                  obtain ⟨d, hd⟩ : ∃ d, d = out.contains z := ⟨_, rfl⟩
                  have hlk : ∀ mm, (Instr.lookup 35 (.map (some S)) (.int .i64 z) false).run Tryz.prog (wq.drewN mm) = .ok (.bool d) (wq.drewN mm) := fun mm => look_bool (n := nK) (D := Dm) (show World.ownsMap (wq.drewN mm) Tryz.prog 3 (plainElem Tryz.prog 4) S nK Dm from owns_below HOWN.out (below_drewN HBQ.out)) Tryz.underlying35 (HKEY.out z hzO) (by rw [hd]; exact HATS.out z)
                  obtain ⟨a, ha⟩ : ∃ a, a = ahB (N : Int) F z y := ⟨_, rfl⟩
                  have HAHQ : Hid (∀ mm, Calls Tryz.prog 11 #[.pointer (some ⟨p, 0, none⟩), .int .i64 z, .int .i64 y] (wq.drewN mm) fun e w' => e = .returned (.bool a) ∧ w' = wq.drewN mm) := Lib.hid (fun mm => by
                    rw [ha]
                    exact HAH.out z y hzO HYO.out _ (below_drewN (HBk.out.trans ((HBI.out.trans (HBQ.out.mono HBI.out.size)).mono HBk.out.size))))
                  have HALL : Hid ((!c0 && (O.take (q + 1)).all fun z => !(!out.contains z && ahB (N : Int) F z y)) = ((!c0 && (O.take q).all fun z => !(!out.contains z && ahB (N : Int) F z y)) && !(!d && a))) := Lib.hid (by rw [all_take hz, hd, ha, Bool.and_assoc])
                  obtain ⟨f0, hf0⟩ : ∃ f0, f0 = (!c0 && (O.take q).all fun z => !(!out.contains z && ahB (N : Int) F z y)) := ⟨_, rfl⟩
                  rw [← hf0] at HALL ⊢
                  have HB9 := HBQ
                  clear hz hzO hd ha hf0
                  cases d with
                  | true =>
                    go_wp2_with fail
                    go_quiet (fail)
                    go_wp2_with fail
                    exact ⟨⟨q + 1, by go_num, by omega, by rw [HALL.out]; simp, Lib.hid (below_drewN HB9.out)⟩, by simp [intOf]; omega⟩
                  | false =>
                    cases a with
                    | true =>
                      go_wp2_with fail
                      go_quiet (first | (go_at_call 11; with_reducible exact Calls.quiet_of_same (HAHQ.out _)))
                      go_wp2_with fail
                      exact ⟨⟨q + 1, by go_num, by omega, by rw [HALL.out]; simp, Lib.hid (below_drewN HB9.out)⟩, by simp [intOf]; omega⟩
                    | false =>
                      go_wp2_with fail
                      go_quiet (first | (go_at_call 11; with_reducible exact Calls.quiet_of_same (HAHQ.out _)))
                      go_wp2_with fail
                      exact ⟨⟨q + 1, by go_num, by omega, by rw [HALL.out]; simp, Lib.hid (below_drewN HB9.out)⟩, by simp [intOf]; omega⟩
                · have hqe : k = q := by omega
                  rw [List.take_of_length_le (by rw [HOM.out]; omega), ← HFY.out]
                  have cy := HCY.out wq HBQ.out
                  have HB9 := Lib.hid (HBI.out.trans (HBQ.out.mono HBI.out.size))
                  subst hqe
                  cases hfy : fr y with
                  | false =>
                    have HB8 : Hid (bestL fr (O.take (i + 1)) = b0) := Lib.hid (by rw [HBT.out]; unfold bestF; rw [if_neg]; rw [hfy]; simp)
                    clear hfy
                    go_wp2_with fail
                    exact ⟨⟨i + 1, by go_num, by omega, by rw [HB8.out], HB9⟩, by simp [intOf]; omega⟩
                  | true =>
                    by_cases hb1 : b0 < 0
                    · have HB8 : Hid (bestL fr (O.take (i + 1)) = y) := Lib.hid (by rw [HBT.out]; unfold bestF; rw [if_pos ⟨hfy, .inl hb1⟩])
                      clear hfy
                      go_wp2_with fail
                      exact ⟨⟨i + 1, by go_num, by omega, by rw [HB8.out], HB9⟩, by simp [intOf]; omega⟩
                    · by_cases hb2 : y < b0
                      · have HB8 : Hid (bestL fr (O.take (i + 1)) = y) := Lib.hid (by rw [HBT.out]; unfold bestF; rw [if_pos ⟨hfy, .inr hb2⟩])
                        clear hfy
                        go_wp2_with fail
                        exact ⟨⟨i + 1, by go_num, by omega, by rw [HB8.out], HB9⟩, by simp [intOf]; omega⟩
                      · have HB8 : Hid (bestL fr (O.take (i + 1)) = b0) := Lib.hid (by rw [HBT.out]; unfold bestF; rw [if_neg (fun h => by rcases h.2 with h | h <;> omega)])
                        clear hfy
                        go_wp2_with fail
                        exact ⟨⟨i + 1, by go_num, by omega, by rw [HB8.out], HB9⟩, by simp [intOf]; omega⟩
            · have hie : k = i := by omega
              rw [List.take_of_length_le (by rw [HOM.out]; omega), HBEST.out]
              obtain ⟨hx0, hxN⟩ := HXB.out x (List.mem_of_getElem? HX.out)
              have HNI : Hid (thgI A x ∉ out) := Lib.hid (by rw [HOUT.out]; exact HOUTN.out j x HX.out)
              have HTK : Hid ((L.take (j + 1)).map (thgI A) = out ++ [thgI A x]) := Lib.hid (by rw [List.take_add_one, HX.out, List.map_append, HOUT.out]; rfl)
              obtain ⟨tx, htx⟩ : ∃ tx, tx = thgI A x := ⟨_, rfl⟩
              rw [← htx] at hx0 hxN HNI HTK ⊢
              obtain ⟨Dm, hown, hhas, hat, hsz⟩ := HM2.out.below HBI.out
              obtain ⟨nK, hnK⟩ : ∃ nK, nK = out.length := ⟨_, rfl⟩
              have hnk60 : nK ≤ 60 := by rw [hnK, HOUT.out, List.length_map, List.length_take]; omega
              rw [← hnK] at hown
              have HOWN := Lib.hid hown
              have HKY := Lib.hid (show keyOf Tryz.prog 3 (.int .i64 tx) = some (li tx) from li_key (by omega) (by omega))
              have HWF := Lib.hid (plainElem_bool (H := Unit) (P := Tryz.prog) Tryz.underlying4 true)
              have HMF : Hid (∀ w9 : World, w9.ownsMap Tryz.prog 3 (plainElem Tryz.prog 4) S (nK + 1) (Dm.put (li tx) (.lit (.bool true))) → MBo w9 S ((L.take (j + 1)).map (thgI A))) := Lib.hid (fun w9 h9 => by
                rw [HTK.out]
                exact MBo.step (W0 := wj) (D := Dm) (n := nK) HOWN.out hhas hat hsz HNI.out h9)
              have HRj := Lib.hid (HR.out.below HBI.out)
              have HSk : Hid (S < wk.heap.size) := Lib.hid HM2.out.lt
              have HBj : Hid (Below S wi wj) := Lib.hid (HB2.out.trans (HBI.out.mono (Nat.le_of_lt HSk.out)))
              have HSj : Hid (S < wj.heap.size) := Lib.hid (Nat.lt_of_lt_of_le HSk.out HBI.out.size)
              subst hie
              clear hown hhas hat hsz hnK htx
              go_wp2_with (first | (at_mapUpdate; refine wpList_mapUpdate_own _ rfl _ _ _ 35 rfl 3 4 ilaw Tryz.underlying35 _ S nK Dm rfl HOWN.out (by unfold maxLen; omega) _ _ _ rfl rfl HKY.out _ [] HWF.out ?_; intro w6 hown6 hg6; have HM6 := Lib.hid (HMF.out w6 hown6); have HR6 := Lib.hid (row_grown HRj.out hg6 (Nat.lt_succ_self S)); have HB6 := Lib.hid (HBj.out.grown hg6 (Nat.le_of_lt HSj.out) (fun b hb => by cases hb; exact Nat.le_refl _)); have HS6 := Lib.hid (Nat.lt_of_lt_of_le HSj.out hg6.size); clear hown6 hg6; have HSRC := Lib.hid (show Src Tryz.prog 1 23 (.slice (some ⟨w6.heap.size, 0, none⟩) 1 1) 1 [.int .i64 tx] (w6.alloc (.cells #[.int .i64 tx] 3)) from src_new Tryz.underlying23 [.int .i64 tx] 1 3 1 rfl oneIk); have HRA := Lib.hid (HR6.out.alloc (.cells #[.int .i64 tx] 3)); have HSZW := Lib.hid (show S + 1 ≤ (w6.alloc (.cells #[.int .i64 tx] 3)).heap.size by have := HS6.out; simp; omega); have HBA := Lib.hid (HB6.out.alloc (Nat.le_of_lt HS6.out) (.cells #[.int .i64 tx] 3)); have HMA := Lib.hid (HM6.out.below ((Below.refl _ _).alloc (Nat.le_refl _) (.cells #[.int .i64 tx] 3)))) | (at_builtin; refine wpList_append_row rfl (.tmp 155) (.tmp 157) 23 23 rfl 1 3 (.int .i64 0) 8 Tryz.underlying23 infoIk rfl (S + 1) (.slice ua j uc) j (iv out) (by simp [Act.eval]) HRA.out (.slice (some ⟨w6.heap.size, 0, none⟩) 1 1) (by simp [Act.eval]) 1 [.int .i64 tx] HSRC.out HSZW.out (by omega) (by decide) ?_; intro v8 w8 hr8 ho8 hw8; obtain ⟨a8, c8, hv8⟩ := hr8.form; subst hv8; have HR8 := Lib.hid hr8; have HO8 := Lib.hid ho8; clear hr8 ho8 hw8))
              have HR9 : Hid (Row 1 (S + 1) w8 (.slice a8 (j + 1) c8) (j + 1) (iv ((L.take (j + 1)).map (thgI A)))) := Lib.hid (by
                rw [HTK.out]
                have e : iv (out ++ [tx]) = iv out ++ [.int .i64 tx] := by simp [iv]
                rw [e]
                exact HR8.out)
              have HZ : ∀ b, (Value.slice ua j uc).ownBlock = some b → S + 1 ≤ b := fun b hb => (HRj.out.lt b hb).1
              have HB8 := Lib.hid (off_below HO8.out HZ HSZW.out)
              exact ⟨⟨j + 1, by omega, HR9, Lib.hid (HMA.out.off HO8.out (fun c => by have := HZ S c; omega)), Lib.hid (HBA.out.trans (HB8.out.mono (Nat.le_succ S)))⟩, by simp [lenV]; omega⟩
        · have hje : j = k := by omega
          have HRI := Lib.hid (RI.ofRow (B := S + 1) (v := .slice ua j uc) (l := L.map (thgI A)) (w := wk) (by
            have h := HR.out
            rw [List.take_of_length_le (by rw [HLM.out]; omega)] at h
            have e : (L.map (thgI A)).length = j := by rw [List.length_map, HLM.out]; exact hje.symm
            rw [e]
            exact h))
          have HBE : Hid (Below w.heap.size w wk) := Lib.hid (HB.out.trans (HB2.out.mono (by rw [HS.out]; exact HB.out.size)))
          clear HR
          subst hje
          go_wp2_with fail
          go_ret
          exact ⟨_, rfl, HRI.out, HBE.out⟩
end Go.Proofs.YtfpepoebammeoaaGreat
set_option linter.unusedVariables false
set_option linter.unusedSimpArgs false
namespace Go.Proofs.YtfpepoebammeoaaGreat
open Go.ChangeShapes Go.WideShapes Go.ChangeAt Go.RowKit

def RnT (gb l vb vo Z : Nat) (ua : Option Addr) (gl uc : Nat) (g : List Int) (y : Int) (w W : World) (G : List (List Int)) (V : List Value) (gc n : Nat) (w3 : World) : Prop :=
  let S0 : World → Prop := fun W => W.cell? ⟨gb, l, none⟩ = some (.slice ua gl uc) ∧ W.frozen? ⟨gb, l, none⟩ = false ∧ W.cell? ⟨vb, vo, none⟩ = some (.int .i64 y) ∧ Below w.heap.size w W
  S0 w3 ∧ S0 (w3.alloc (.cells #[.int .i64 y] 3)) ∧ Row 1 Z (w3.alloc (.cells #[.int .i64 y] 3)) (.slice ua gl uc) gl (iv g) ∧ Src Tryz.prog 1 23 (.slice (some ⟨w3.heap.size, 0, none⟩) 1 1) 1 [.int .i64 y] (w3.alloc (.cells #[.int .i64 y] 3)) ∧ Z ≤ (w3.alloc (.cells #[.int .i64 y] 3)).heap.size ∧
  ∀ v8 w8, Row 1 Z w8 v8 (gl + 1) (iv g ++ [.int .i64 y]) → Off (fun i => (Value.slice ua gl uc).ownBlock = some i) (w3.alloc (.cells #[.int .i64 y] 3)) w8 → (v8.ownBlock = (Value.slice ua gl uc).ownBlock ∨ v8.ownBlock = some (w3.alloc (.cells #[.int .i64 y] 3)).heap.size) →
    S0 w8 ∧ Gr Z (w8.setCell ⟨gb, l, none⟩ v8) (.slice (some ⟨gb, 0, none⟩) n gc) (V.set l v8) (G.set l (g ++ [y])) ∧ Off (fun i => Z ≤ i) W (w8.setCell ⟨gb, l, none⟩ v8)
theorem rnt_fact {gb l vb vo Z gl uc gc n : Nat} {y : Int} {ua : Option Addr} {g : List Int} {w W w3 : World} {G : List (List Int)} {V : List Value} (hG : Gr Z W (.slice (some ⟨gb, 0, none⟩) n gc) V G) (hu : V[l]? = some (.slice ua gl uc)) (hg : G[l]? = some g) (hgl : gl = g.length)
    (hub : ∀ i, (Value.slice ua gl uc).ownBlock = some i → i ≠ gb ∧ Z ≤ i ∧ i < W.heap.size) (hgb2 : gb < W.heap.size) (hgb1 : Z ≤ gb)
    (hS : W.drew.cell? ⟨gb, l, none⟩ = some (.slice ua gl uc) ∧ W.drew.frozen? ⟨gb, l, none⟩ = false ∧ W.drew.cell? ⟨vb, vo, none⟩ = some (.int .i64 y) ∧ Below w.heap.size w W.drew) (hSZ : vb < Z) (hZw : w.heap.size ≤ Z) (hb3 : Below W.drew.heap.size W.drew w3) : RnT gb l vb vo Z ua gl uc g y w W G V gc n w3 := by
  have hb3' : Below W.heap.size W w3 := ⟨hb3.os, hb3.tape, hb3.output, hb3.size, hb3.block⟩
  have hs3 : W.heap.size ≤ w3.heap.size := hb3.size
  have hal : Below w3.heap.size w3 (w3.alloc (.cells #[.int .i64 y] 3)) := (Below.refl _ _).alloc (Nat.le_refl _) _
  have hSW : vb < W.heap.size := by omega
  obtain ⟨s0, s1, s2, s5⟩ := hS
  have key : ∀ X, Off (fun i => (Value.slice ua gl uc).ownBlock = some i) W X → X.cell? ⟨gb, l, none⟩ = some (.slice ua gl uc) ∧ X.frozen? ⟨gb, l, none⟩ = false ∧ X.cell? ⟨vb, vo, none⟩ = some (.int .i64 y) ∧ Below w.heap.size w X := fun X ho => by
    have n1 : ¬ (Value.slice ua gl uc).ownBlock = some gb := fun e => (hub gb e).1 rfl
    have n2 : ¬ (Value.slice ua gl uc).ownBlock = some vb := fun e => by have := (hub vb e).2.1; omega
    exact ⟨(ho.cell (p := ⟨gb, l, none⟩) hgb2 n1).trans s0, (ho.frozen (p := ⟨gb, l, none⟩) hgb2 n1).trans s1, (ho.cell (p := ⟨vb, vo, none⟩) hSW n2).trans s2, (show Below w.heap.size w W from ⟨s5.os, s5.tape, s5.output, s5.size, s5.block⟩).trans (ho.below (fun i hi => by have h1 := (hub i hi).2.1; exact Nat.le_trans hZw h1) s5.size)⟩
  have hur := hG.each l _ g hu hg
  rw [← hgl] at hur
  have hoa : Off (fun i => (Value.slice ua gl uc).ownBlock = some i) W (w3.alloc (.cells #[.int .i64 y] 3)) := (Off.of_below hb3').alloc _
  refine ⟨key w3 (Off.of_below hb3'), key _ hoa, (hur.below hb3').alloc _, src_new Tryz.underlying23 [.int .i64 y] 1 3 1 rfl oneIk, by have := hal.size; omega, fun v8 w8 hr8 ho8 hw8 => ?_⟩
  have ho9 := hoa.trans ho8
  refine ⟨key w8 ho9, ?_, ?_⟩
  · rw [hgl] at hr8
    exact (hG.below (hb3'.trans (hal.mono hs3))).push hu hg ho8 hr8 (hw8.imp id fun h => ⟨_, h, Nat.le_refl _⟩)
  · exact (ho9.mono (fun i hi => (hub i hi).2.1)).setCell (p := ⟨gb, l, none⟩) (.inr hgb1) _
section
variable {n : Int} {F : EdN} {A : List Nat} {L : List Int} {s : Nat → Bool} {P : Int → Int} {l : List Int}
theorem single_doc (h : RunsK n F A L s) (hA : AskS n P l A) (hP : ∀ x y : Nat, P (x : Int) = P (y : Int) ↔ Knot (EdR F) x y) {k : Nat} (hk : k < A.length) : (L.map (thgI A)).all (fun z => cpB n F (xOf A L k) z) = s k := by
  have hcp : ∀ q, q < A.length → (cpB n F (xOf A L k) (xOf A L q) = true ↔ ((k < q → AheadK (EdR F) (tOf A L k) (tOf A L q)) ∧ (q < k → AheadK (EdR F) (tOf A L q) (tOf A L k)))) := fun q hq => by
    obtain ⟨a1, a2⟩ := h.has hA hk
    obtain ⟨b1, b2⟩ := h.has hA hq
    rw [xOf_t, xOf_t, cpB_iff, Int.toNat_natCast, Int.toNat_natCast]
    constructor
    · rintro ⟨_, _, _, _, hc⟩
      rcases hc with hc | hc | hc
      · have e := hA.inj _ _ _ _ (h.at hk).2.2 (h.at hq).2.2 ((hP _ _).2 hc)
        have := h.inj hk hq e
        exact ⟨fun h1 => by omega, fun h1 => by omega⟩
      · have := h.up hk hq hc
        exact ⟨fun _ => hc, fun h1 => by omega⟩
      · have := h.up hq hk hc
        exact ⟨fun h1 => by omega, fun _ => hc⟩
    · intro hc
      refine ⟨a1, a2, b1, b2, ?_⟩
      rcases Nat.lt_trichotomy k q with c | c | c
      · exact .inr (.inl (hc.1 c))
      · subst c; exact .inl (Knot.refl _)
      · exact .inr (.inr (hc.2 c))
  rw [Bool.eq_iff_iff, List.all_eq_true, h.one hk]
  constructor
  · intro ha q hq
    refine (hcp q hq).1 (ha _ (List.mem_map.2 ⟨_, List.mem_of_getElem? (h.at hq).1, ?_⟩))
    rw [thgI_nat, xOf_t]
    rfl
  · intro ha z hz
    obtain ⟨x, hx, rfl⟩ := List.mem_map.1 hz
    obtain ⟨q, hq⟩ := List.getElem?_of_mem hx
    have hql : q < A.length := by rw [← h.len]; exact (List.getElem?_eq_some_iff.1 hq).1
    have e := (h.at hql).1
    rw [hq] at e
    injection e with e
    have := (hcp q hql).2 (ha q hql)
    rw [e, thgI_nat]
    exact this
end
def opn (s : Nat → Bool) (k : Nat) : Bool := !(k == 0 || s (k - 1))
set_option maxHeartbeats 8000000 in
set_option maxRecDepth 100000 in
theorem rruns_any (p N : Nat) (F : EdN) (hF : ∀ e ∈ F, e.1 < N ∧ e.2 < N) (P : Int → Int) (hP : ∀ x y : Nat, P (x : Int) = P (y : Int) ↔ Knot (EdR F) x y) (l : List Int) (lv : Value) (w : World) (h : ROrd w p N (viaB (edB F) N)) (hr : RI w lv l) (hl : l.length ≤ 60)
    (hlb : ∀ x ∈ l, -9223372036854775808 ≤ x ∧ x ≤ 9223372036854775807) (hN : N ≤ 2000) (A : List Nat) (hA : A = askN (hasB (N : Int)) P l) (L : List Int) (s : Nat → Bool) (hK : RunsK (N : Int) F A L s) :
    Calls Tryz.prog 16 #[.pointer (some ⟨p, 0, none⟩), lv] w fun e w' => ∃ ov, e = .returned ov ∧ RG w' ov (runL s (xOf A L) A.length) ∧ Below w.heap.size w w' := by
  have HT := Lib.hid (rtold_any p N F hF P hP l lv w h hr hl hlb hN A hA L hK.line hK.len)
  have hAS := askN_is (N : Int) P l
  rw [← hA] at hAS
  have hA60 : A.length ≤ 60 := by
    have h1 := askN_len (N : Int) P l
    rw [hA]; omega
  have HSG := Lib.hid (fun k (hk : k < A.length) => single_doc hK hAS hP hk)
  have HTB : Hid (∀ x ∈ L.map (thgI A), 0 ≤ x ∧ x < (N : Int)) := Lib.hid (fun x hx => by
    obtain ⟨y, hy, rfl⟩ := List.mem_map.1 hx
    obtain ⟨u, hu, rfl⟩ := (reach_tame hK.line).2 y hy
    rw [thgI_nat]
    refine ⟨by omega, hAS.lt _ ?_⟩
    rw [List.getD_eq_getElem?_getD, List.getElem?_eq_getElem hu]
    exact List.getElem_mem hu)
  have HTX : Hid (∀ k, k < A.length → (L.map (thgI A))[k]? = some (xOf A L k)) := Lib.hid (fun k hk => by
    rw [List.getElem?_map, (hK.at hk).1]
    simp [thgI, xOf_t, tOf])
  have HCP := Lib.hid (fun (a b : Int) (ha : 0 ≤ a ∧ a < (N : Int)) (hb : 0 ≤ b ∧ b < (N : Int)) W (hW : Below w.heap.size w W) => rcomp_any p N F hF a b W (h.below hW) hN (by omega) (by omega) (by omega) (by omega))
  have hTL : (L.map (thgI A)).length = A.length := by rw [List.length_map]; exact hK.len
  obtain ⟨T, hTe⟩ : ∃ T, T = L.map (thgI A) := ⟨_, rfl⟩
  obtain ⟨X, hX⟩ : ∃ X, X = xOf A L := ⟨_, rfl⟩
  obtain ⟨m, hm⟩ : ∃ m, m = A.length := ⟨_, rfl⟩
  rw [← hTe] at HT HSG HTB HTX hTL
  rw [← hX] at HSG HTX ⊢
  rw [← hm] at HSG HTX hTL hA60 ⊢
  have HTL := Lib.hid hTL
  obtain ⟨la, lc, rfl⟩ := hr.form
  clear hTL hTe hX hm hAS hK h hr hA hF hP hlb
  go_enter Tryz.func16, Tryz.ntmps16
  go_wp2_with fail
  refine HT.out.mono ?_
  rintro e w3 ⟨tv, rfl, hT, hb3⟩
  obtain ⟨ta, tc, htf⟩ := hT.form
  rw [HTL.out] at htf
  subst htf
  obtain ⟨Z, hZ⟩ : ∃ Z, Z = w3.heap.size := ⟨_, rfl⟩
  have HRT := Lib.hid hT
  have HB3 := Lib.hid hb3
  have HZ := Lib.hid hZ
  clear hT hb3 hZ HT
  go_wp2_with fail
  go_loopw [5, 6, 7] (fun ov opv jv wr => ∃ (j : Nat) (V : List Value), jv = .int .i64 (j : Nat) ∧ j ≤ m ∧ opv = .bool (opn s j) ∧ Hid (Gr Z wr ov V (runL s X j)) ∧ Hid (Below w3.heap.size w3 wr)) (fun _ _ jv _ => m - (intOf jv).toNat)
  case atStart => exact ⟨0, [], rfl, Nat.zero_le _, rfl, Lib.hid (Gr.nil _ _), Lib.hid (Below.refl _ _)⟩
  case round =>
    obtain ⟨j, V, rfl, hj, rfl, HG, HBR⟩ := hrel
    obtain ⟨oa, oc, hof⟩ := HG.out.row.form
    obtain ⟨n, hn⟩ : ∃ n, n = V.length := ⟨_, rfl⟩
    rw [← hn] at hof
    subst hof
    have HNV := Lib.hid hn
    have hnj : n ≤ j := by rw [hn, HG.out.len]; exact runL_len s X j
    have HBW := Lib.hid (HB3.out.trans (HBR.out.mono HB3.out.size))
    obtain ⟨wb, rfl⟩ : ∃ wb, wb = wr := ⟨wr, rfl⟩
    clear hn
    by_cases hlj : j < m
    · have hx := HTX.out j hlj
      have hxT := List.mem_of_getElem? hx
      obtain ⟨y, hy⟩ : ∃ y, y = X j := ⟨_, rfl⟩
      rw [← hy] at hx hxT
      obtain ⟨vb, vo, rfl, hvb, hvc1, hvc2, cx⟩ := HRT.out.at hx
      have HCX : Hid (∀ W, Below wb.heap.size wb W → W.cell? ⟨vb, vo + j, none⟩ = some (.int .i64 y)) := Lib.hid (fun W hW => (hW.cell (p := ⟨vb, _, none⟩) (Nat.lt_of_lt_of_le hvb HBR.out.size)).trans ((HBR.out.cell (p := ⟨vb, _, none⟩) hvb).trans cx))
      have HSJ := Lib.hid (HSG.out j hlj)
      have HXY := Lib.hid hy
      have HYB := Lib.hid (HTB.out y hxT)
      have HVB := Lib.hid hvb
      rw [← hy] at HSJ
      obtain ⟨op, hop⟩ : ∃ op, op = opn s j := ⟨_, rfl⟩
      rw [← hop]
      have HOP := Lib.hid hop
      unfold maxLen at hvc2
      clear hx hxT hy cx hvb hop
      go_wp2_with fail
      go_loopw [8, 9] (fun sv qv W => ∃ q : Nat, qv = .int .i64 (q : Nat) ∧ q ≤ m ∧ sv = .bool ((T.take q).all (fun z => cpB (N : Int) F y z)) ∧ Hid (Below wb.heap.size wb W)) (fun _ qv _ => m - (intOf qv).toNat)
      case atStart => exact ⟨0, rfl, Nat.zero_le _, by simp, Lib.hid (Below.refl _ _)⟩
      case round =>
        obtain ⟨q, rfl, hq, rfl, HBQ⟩ := hrel
        by_cases hlq : q < m
        · have hz := HTX.out q hlq
          obtain ⟨z, hzz⟩ : ∃ z, z = X q := ⟨_, rfl⟩
          rw [← hzz] at hz
          obtain ⟨vb', vo', he', _, _, _, cz⟩ := HRT.out.at hz
          injection he' with he'
          injection he' with e1 e2 _
          subst e1
          subst e2
          have cz := (HBQ.out.cell (p := ⟨vb, _, none⟩) (Nat.lt_of_lt_of_le HVB.out HBR.out.size)).trans ((HBR.out.cell (p := ⟨vb, _, none⟩) HVB.out).trans cz)
          have cx := HCX.out wr HBQ.out
          obtain ⟨c, hc⟩ : ∃ c, c = cpB (N : Int) F y z := ⟨_, rfl⟩
          have HC : Hid (∀ mm, Calls Tryz.prog 13 #[.pointer (some ⟨p, 0, none⟩), .int .i64 y, .int .i64 z] (wr.drewN mm) fun e w' => e = .returned (.bool c) ∧ w' = wr.drewN mm) := Lib.hid (fun mm => by
            rw [hc]
            exact HCP.out y z HYB.out (HTB.out z (List.mem_of_getElem? hz)) _ (below_drewN (HBW.out.trans (HBQ.out.mono HBW.out.size))))
          have HAL : Hid ((T.take (q + 1)).all (fun z => cpB (N : Int) F y z) = ((T.take q).all (fun z => cpB (N : Int) F y z) && c)) := Lib.hid (by rw [all_take hz, hc])
          obtain ⟨a0, ha0⟩ : ∃ a0, a0 = (T.take q).all (fun z => cpB (N : Int) F y z) := ⟨_, rfl⟩
          rw [← ha0] at HAL ⊢
          have HB9 := HBQ
          clear hz hzz hc ha0
          cases a0 with
          | false =>
            go_wp2_with fail
            go_quiet (fail)
            go_wp2_with fail
            exact ⟨⟨q + 1, by go_num, by omega, by rw [HAL.out]; simp, Lib.hid (below_drewN HB9.out)⟩, by simp [intOf]; omega⟩
          | true =>
            go_wp2_with fail
            go_quiet (first | (go_at_call 13; with_reducible exact Calls.quiet_of_same (HC.out _)))
            go_wp2_with fail
            exact ⟨⟨q + 1, by go_num, by omega, by rw [HAL.out]; simp, Lib.hid (below_drewN HB9.out)⟩, by simp [intOf]; omega⟩
        · have hqe : m = q := by omega
          rw [List.take_of_length_le (by rw [HTL.out]; omega), HSJ.out]
          have cx := HCX.out wr HBQ.out
          have HGQ := Lib.hid (HG.out.below HBQ.out)
          have HB9 := Lib.hid (HBR.out.trans (HBQ.out.mono HBR.out.size))
          have HZR : Hid (Z ≤ wr.heap.size) := Lib.hid (by rw [HZ.out]; exact HB9.out.size)
          subst hqe
          obtain ⟨sj, hsj⟩ : ∃ sj, sj = s j := ⟨_, rfl⟩
          rw [← hsj]
          have HSE := Lib.hid hsj
          have HOPE : Hid (opn s (j + 1) = !sj) := Lib.hid (by rw [hsj]; simp [opn])
          have HNEW : Hid (newR s j = (sj || !op)) := Lib.hid (by
            rw [hsj, HOP.out]
            unfold newR opn
            cases (j == 0) <;> cases s j <;> cases s (j - 1) <;> rfl)
          clear hsj
          -- a row more
          have hsl : (wr.alloc (.cells #[.int .i64 y] 3)).heap.size = wr.heap.size + 1 := by simp
          obtain ⟨wa, hwa⟩ : ∃ wa, wa = wr.alloc (.cells #[.int .i64 y] 3) := ⟨_, rfl⟩
          have hbwa : Below wr.heap.size wr wa := by rw [hwa]; exact (Below.refl _ _).alloc (Nat.le_refl _) _
          have hr0 : Row 1 wr.heap.size wa (.slice (some ⟨wr.heap.size, 0, none⟩) 1 1) 1 (iv [y]) := by
            rw [hwa]
            exact row_new (Nat.le_refl _) (by simp [iv]) (by omega) (by unfold maxLen; omega) (by simp) (.inl rfl) (fun k u hu => by
              have hk : k = 0 := by have := (List.getElem?_eq_some_iff.1 hu).1; simp [iv] at this; omega
              subst hk
              simp [iv] at hu
              subst hu
              simp)
          obtain ⟨wc, hwc⟩ : ∃ wc, wc = wa.alloc (.cells #[.slice (some ⟨wr.heap.size, 0, none⟩) 1 1] 23) := ⟨_, rfl⟩
          have hbwc : Below wa.heap.size wa wc := by rw [hwc]; exact (Below.refl _ _).alloc (Nat.le_refl _) _
          rw [← hwa] at hsl
          have hbw : Below wr.heap.size wr wc := hbwa.trans (hbwc.mono (by omega))
          have HGC := Lib.hid (HGQ.out.below hbw)
          have HG6 : Hid (∀ v6 w6, Row 1 Z w6 v6 (n + 1) (V ++ [.slice (some ⟨wr.heap.size, 0, none⟩) 1 1]) → Off (fun i => (Value.slice oa n oc).ownBlock = some i) wc w6 → (v6.ownBlock = (Value.slice oa n oc).ownBlock ∨ v6.ownBlock = some wc.heap.size) → Gr Z w6 v6 (V ++ [.slice (some ⟨wr.heap.size, 0, none⟩) 1 1]) (runL s X j ++ [[y]]) ∧ Below w3.heap.size w3 w6) := Lib.hid (fun v6 w6 hr6 ho6 hw6 => by
            refine ⟨HGC.out.more (g0 := [y]) ((hr0.mono HZR.out).below hbwc) (fun b hb => ?_) (by rw [← HNV.out]; exact hr6) ho6 (hw6.imp id fun h => ⟨_, h, Nat.le_refl _⟩), ?_⟩
            · have hbe : b = wr.heap.size := by simp [Value.ownBlock] at hb; exact hb.symm
              refine ⟨fun e => ?_, fun k u hu e => ?_⟩
              · have := (HGQ.out.row.lt b e).2
                omega
              · have hk := (List.getElem?_eq_some_iff.1 hu).1
                have := ((HGQ.out.each k u _ hu (List.getElem?_eq_getElem (by rw [← HGQ.out.len]; exact hk))).lt b e).2
                omega
            · refine (HB9.out.trans (hbw.mono HB9.out.size)).trans ((ho6.below (B := Z) (fun i hi => ?_) (Nat.le_trans HZR.out hbw.size)).mono (by rw [HZ.out]; exact Nat.le_refl _))
              exact (HGQ.out.row.lt i hi).1)
          have HRA0 := Lib.hid (show Row 1 Z wc (.slice oa n oc) n V by
            have h := HGC.out.row
            rw [← HNV.out] at h
            exact h)
          have HSRC0 := Lib.hid (show Src Tryz.prog 1 31 (.slice (some ⟨wa.heap.size, 0, none⟩) 1 1) 1 [.slice (some ⟨wr.heap.size, 0, none⟩) 1 1] wc by
            rw [hwc]
            exact src_new Tryz.underlying31 [.slice (some ⟨wr.heap.size, 0, none⟩) 1 1] 1 23 1 rfl (by intro u hu; rw [List.mem_singleton.1 hu]; rfl))
          have HSZ0 : Hid (Z ≤ wc.heap.size) := Lib.hid (Nat.le_trans HZR.out hbw.size)
          have HWC : Hid (wc = (wr.alloc (.cells #[.int .i64 y] 3)).alloc (.cells #[.slice (some ⟨wr.heap.size, 0, none⟩) 1 1] 23)) := Lib.hid (by rw [hwc, hwa])
          have HWA : Hid (wa.heap.size = wr.heap.size + 1) := Lib.hid hsl
          rw [hsl] at HSRC0
          clear hwa hwc hbwa hbwc hbw hr0 HGC hsl
          cases sj with
          | true =>
            have HRN : Hid (runL s X (j + 1) = runL s X j ++ [[y]]) := Lib.hid (by
              show (if newR s j then _ else _) = _
              rw [HNEW.out, Bool.true_or, if_pos rfl, ← HXY.out])
            go_wp2_with (at_builtin; rw [← HWC.out]; refine wpList_append_row rfl (.tmp 48) (.tmp 54) 31 31 rfl 1 23 (.slice none 0 0) 24 Tryz.underlying31 infoSI rfl Z (.slice oa n oc) n V (by simp [Act.eval]) HRA0.out (.slice (some ⟨wr.heap.size + 1, 0, none⟩) 1 1) (by simp [Act.eval]) 1 [.slice (some ⟨wr.heap.size, 0, none⟩) 1 1] HSRC0.out HSZ0.out (by omega) (by decide) ?_; intro v6 w6 hr6 ho6 hw6; have HR6 := Lib.hid (HG6.out _ w6 hr6 ho6 hw6); obtain ⟨a6, c6, hv6⟩ := hr6.form; subst hv6; have HO6 := Lib.hid ho6; clear hr6 ho6 hw6)
            exact ⟨⟨j + 1, _, by go_num, by omega, by rw [HOPE.out]; rfl, Lib.hid (by rw [HRN.out]; exact HR6.out.1), Lib.hid HR6.out.2⟩, by simp [intOf]; omega⟩
          | false =>
            cases op with
            | false =>
              have HRN : Hid (runL s X (j + 1) = runL s X j ++ [[y]]) := Lib.hid (by
                show (if newR s j then _ else _) = _
                rw [HNEW.out, Bool.false_or, Bool.not_false, if_pos rfl, ← HXY.out])
              go_wp2_with (at_builtin; rw [← HWC.out]; refine wpList_append_row rfl (.tmp 38) (.tmp 44) 31 31 rfl 1 23 (.slice none 0 0) 24 Tryz.underlying31 infoSI rfl Z (.slice oa n oc) n V (by simp [Act.eval]) HRA0.out (.slice (some ⟨wr.heap.size + 1, 0, none⟩) 1 1) (by simp [Act.eval]) 1 [.slice (some ⟨wr.heap.size, 0, none⟩) 1 1] HSRC0.out HSZ0.out (by omega) (by decide) ?_; intro v6 w6 hr6 ho6 hw6; have HR6 := Lib.hid (HG6.out _ w6 hr6 ho6 hw6); obtain ⟨a6, c6, hv6⟩ := hr6.form; subst hv6; have HO6 := Lib.hid ho6; clear hr6 ho6 hw6)
              exact ⟨⟨j + 1, _, by go_num, by omega, by rw [HOPE.out]; rfl, Lib.hid (by rw [HRN.out]; exact HR6.out.1), Lib.hid HR6.out.2⟩, by simp [intOf]; omega⟩
            | true =>
              have HNO : Hid (newR s j = false) := Lib.hid (by rw [HNEW.out]; rfl)
              have hj0 : 0 < j := by
                rcases Nat.eq_zero_or_pos j with h0 | h0
                · have h1 := HOP.out
                  rw [h0] at h1
                  cases h1
                · exact h0
              have hn1 : 1 ≤ n := by
                have h1 := HNV.out
                have h2 := HGQ.out.len
                rcases Nat.eq_zero_or_pos n with h | h
                · exfalso
                  have h3 : (runL s X j).length = 0 := by omega
                  have h4 := runL_flat s X j
                  rw [List.eq_nil_of_length_eq_zero h3] at h4
                  simp at h4
                  omega
                · exact h
              clear HRA0 HSRC0 HSZ0 HWC HG6 HWA
              obtain ⟨gb, gc', hgf, hgb1, hgb2, hncap, hcapm, hcells, hcv⟩ := HGQ.out.row.pos (by have := HNV.out; omega)
              have hnn := HNV.out
              rw [← hnn] at hgf
              injection hgf with e1 _ e3
              subst e1
              subst e3
              obtain ⟨l, hl⟩ : ∃ l, n = l + 1 := ⟨n - 1, by omega⟩
              have hnI : (n : Int) - 1 = (l : Int) := by omega
              have hgl9 := HGQ.out.len
              obtain ⟨u, hu⟩ : ∃ u, V[l]? = some u := ⟨V[l]'(by omega), by simp⟩
              obtain ⟨g, hg⟩ : ∃ g, (runL s X j)[l]? = some g := ⟨(runL s X j)[l]'(by omega), by simp⟩
              have hur := HGQ.out.each l u g hu hg
              obtain ⟨ua, uc, huf⟩ := hur.form
              obtain ⟨gl, hgl⟩ : ∃ gl, gl = g.length := ⟨_, rfl⟩
              rw [← hgl] at huf hur
              subst huf
              have hub : ∀ i, (Value.slice ua gl uc).ownBlock = some i → i ≠ gb ∧ Z ≤ i ∧ i < wr.heap.size := fun i hi => ⟨fun e => HGQ.out.out l _ i hu hi (by rw [e]; rfl), (hur.lt i hi).1, (hur.lt i hi).2⟩
              have cgl := hcv l _ hu
              have fgl := (hcells l (by omega)).2
              have hvZ : vb < Z := by have := HVB.out; have := HZ.out; omega
              have HBV : Hid (Below w.heap.size w wr) := Lib.hid (HB3.out.trans (HB9.out.mono HB3.out.size))
              have HST : Hid (wr.drew.cell? ⟨gb, l, none⟩ = some (.slice ua gl uc) ∧ wr.drew.frozen? ⟨gb, l, none⟩ = false ∧ wr.drew.cell? ⟨vb, vo + j, none⟩ = some (.int .i64 y) ∧ Below w.heap.size w wr.drew) := Lib.hid ⟨cgl, fgl, cx, HBV.out.drew⟩
              have hglb : gl ≤ 100000 := by
                have := runL_short s X j g (List.mem_of_getElem? hg)
                omega
              have hZw : w.heap.size ≤ Z := by rw [HZ.out]; exact HB3.out.size
              have HFN : Hid (∀ w3, Below wr.drew.heap.size wr.drew w3 → RnT gb l vb (vo + j) Z ua gl uc g y w wr (runL s X j) V oc n w3) := Lib.hid (fun w3 hb3 => rnt_fact HGQ.out hu hg hgl hub hgb2 hgb1 HST.out hvZ hZw hb3)
              have HU := Lib.hid (And.intro hu hg)
              have hncap9 : n ≤ oc := by rw [hnn]; exact hncap
              have hlN : l < n := by omega
              have hl60 : l < 60 := by omega
              have hn60 : n ≤ 60 := by omega
              have hwl : IntKind.i64.wrap (l : Int) = (l : Int) := by simp [IntKind.wrap, IntKind.bits, IntKind.signed]; omega
              have HL9 := Lib.hid hl
              unfold maxLen at hcapm
              clear hl hgl9 hu hg hur hgl hub hgb1 hgb2 hcells hcv cgl fgl hnn hncap
              go_wp2_with fail
              refine wp_region_til (S := (fun W => W.cell? ⟨gb, l, none⟩ = some (.slice ua gl uc) ∧ W.frozen? ⟨gb, l, none⟩ = false ∧ W.cell? ⟨vb, vo + j, none⟩ = some (.int .i64 y) ∧ Below w.heap.size w W)) 17 (by kernel_rfl) ?_ (fun hHeld => ?_)
              · exact HST.out
              refine tkT 0 ⟨some 58, .move (.tmp 5), 31, "ref.go:74", #[], none⟩ ?_
              try simp only [Act.put, List.setIfInBounds_toArray, List.set_cons_zero, List.set_cons_succ]
              refine tkT 1 ⟨some 59, .move (.tmp 5), 31, "ref.go:74", #[], none⟩ ?_
              try simp only [Act.put, List.setIfInBounds_toArray, List.set_cons_zero, List.set_cons_succ]
              refine tkT 2 ⟨some 60, .call { callee := Callee.builtin Builtin.len, args := #[.tmp 59], argTypes := #[31] }, 3, "ref.go:74", #[⟨1, .data⟩], none⟩ ?_
              try simp only [Act.put, List.setIfInBounds_toArray, List.set_cons_zero, List.set_cons_succ]
              refine tkT 3 ⟨some 61, .binOp BinOp.sub 3 (.tmp 60) (.const (Value.int IntKind.i64 1)) 3, 3, "ref.go:74", #[⟨2, .data⟩], none⟩ ?_
              try simp only [Act.put, List.setIfInBounds_toArray, List.set_cons_zero, List.set_cons_succ]
              refine tkT 4 ⟨some 62, .move (.tmp 5), 31, "ref.go:74", #[], none⟩ ?_
              try simp only [Act.put, List.setIfInBounds_toArray, List.set_cons_zero, List.set_cons_succ]
              refine tkT 5 ⟨some 63, .move (.tmp 5), 31, "ref.go:74", #[], none⟩ ?_
              try simp only [Act.put, List.setIfInBounds_toArray, List.set_cons_zero, List.set_cons_succ]
              refine tkT 6 ⟨some 64, .call { callee := Callee.builtin Builtin.len, args := #[.tmp 63], argTypes := #[31] }, 3, "ref.go:74", #[⟨5, .data⟩], none⟩ ?_
              try simp only [Act.put, List.setIfInBounds_toArray, List.set_cons_zero, List.set_cons_succ]
              refine tkT 7 ⟨some 65, .binOp BinOp.sub 3 (.tmp 64) (.const (Value.int IntKind.i64 1)) 3, 3, "ref.go:74", #[⟨6, .data⟩], none⟩ ?_
              try simp only [Act.put, List.setIfInBounds_toArray, List.set_cons_zero, List.set_cons_succ]
              refine tkT 8 ⟨some 66, .indexAddr 31 (.tmp 62) (.tmp 65), 0, "ref.go:74", #[⟨4, .data⟩, ⟨7, .data⟩], none⟩ ?_
              try simp only [Act.put, List.setIfInBounds_toArray, List.set_cons_zero, List.set_cons_succ]
              refine tkT 9 ⟨some 67, .load 23 (.tmp 66), 23, "ref.go:74", #[⟨8, .data⟩], none⟩ ?_
              try simp only [Act.put, List.setIfInBounds_toArray, List.set_cons_zero, List.set_cons_succ]
              refine tkT 10 ⟨some 68, .move (.tmp 1), 23, "ref.go:74", #[], none⟩ ?_
              try simp only [Act.put, List.setIfInBounds_toArray, List.set_cons_zero, List.set_cons_succ]
              refine tkT 11 ⟨some 69, .move (.tmp 7), 3, "ref.go:74", #[], none⟩ ?_
              try simp only [Act.put, List.setIfInBounds_toArray, List.set_cons_zero, List.set_cons_succ]
              refine tkT 12 ⟨some 70, .indexAddr 23 (.tmp 68) (.tmp 69), 0, "ref.go:74", #[⟨10, .data⟩, ⟨11, .data⟩], none⟩ ?_
              try simp only [Act.put, List.setIfInBounds_toArray, List.set_cons_zero, List.set_cons_succ]
              refine tkT 13 ⟨some 71, .load 3 (.tmp 70), 3, "ref.go:74", #[⟨12, .data⟩], none⟩ ?_
              try simp only [Act.put, List.setIfInBounds_toArray, List.set_cons_zero, List.set_cons_succ]
              refine til_one (i := 14) (o := ⟨some 72, .buildSlice 23 1 #[(0, .tmp 71)], 23, "ref.go:74", #[⟨13, .data⟩], none⟩) (by kernel_rfl) rfl (fun KK hK => ?_)
              go_simp
              have HF3 := Lib.hid (HFN.out _ (Below.refl _ _))
              refine hK.out _ _ ?_ (fun hHeld => ?_)
              · exact HF3.out.2.1
              clear hK KK
              try simp only [Act.put, List.setIfInBounds_toArray, List.set_cons_zero, List.set_cons_succ]
              refine til_one (i := 15) (o := ⟨some 73, .call { callee := Callee.builtin Builtin.append, args := #[.tmp 67, .tmp 72], argTypes := #[23, 23] }, 23, "ref.go:74", #[⟨9, .data⟩, ⟨14, .data⟩], none⟩) (by kernel_rfl) rfl (fun KK hK => ?_)
              refine step_append_row rfl (.tmp 67) (.tmp 72) 23 23 rfl 1 3 (.int .i64 0) 8 Tryz.underlying23 infoIk rfl Z (.slice ua gl uc) gl (iv g) (by simp [Act.eval]) HF3.out.2.2.1 (.slice (some ⟨wr.drew.heap.size, 0, none⟩) 1 1) (by simp [Act.eval]) 1 [.int .i64 y] HF3.out.2.2.2.1 HF3.out.2.2.2.2.1 (by omega) (by decide) ?_
              intro v8 w8 hr8 ho8 hw8
              obtain ⟨a8, c8, hv8⟩ := hr8.form
              subst hv8
              have HF8 := Lib.hid (HF3.out.2.2.2.2.2 _ w8 hr8 ho8 hw8)
              have HS8 := Lib.hid HF8.out.1
              clear hr8 ho8 hw8
              refine hK.out _ _ ?_ (fun hHeld => ?_)
              · exact HS8.out
              clear hK KK
              try simp only [Act.put, List.setIfInBounds_toArray, List.set_cons_zero, List.set_cons_succ]
              refine til_one (i := 16) (o := ⟨some 74, .indexAddr 31 (.tmp 58) (.tmp 61), 0, "ref.go:74", #[⟨0, .data⟩, ⟨3, .data⟩, ⟨0, .phase⟩, ⟨1, .phase⟩, ⟨2, .phase⟩, ⟨3, .phase⟩, ⟨4, .phase⟩, ⟨5, .phase⟩, ⟨6, .phase⟩, ⟨7, .phase⟩, ⟨8, .phase⟩, ⟨9, .phase⟩, ⟨10, .phase⟩, ⟨11, .phase⟩, ⟨12, .phase⟩, ⟨13, .phase⟩, ⟨14, .phase⟩, ⟨15, .phase⟩], none⟩) (by kernel_rfl) rfl (fun KK hK => ?_)
              go_simp
              refine hK.out _ _ ?_ (fun hHeld => ?_)
              · exact HS8.out
              clear hK KK
              try simp only [Act.put, List.setIfInBounds_toArray, List.set_cons_zero, List.set_cons_succ]
              refine til_last (o := ⟨none, .store 23 (.tmp 74) (.tmp 73), 0, "ref.go:74", #[⟨16, .data⟩, ⟨15, .data⟩, ⟨15, .chain⟩, ⟨0, .phase⟩, ⟨1, .phase⟩, ⟨2, .phase⟩, ⟨3, .phase⟩, ⟨4, .phase⟩, ⟨5, .phase⟩, ⟨6, .phase⟩, ⟨7, .phase⟩, ⟨8, .phase⟩, ⟨9, .phase⟩, ⟨10, .phase⟩, ⟨11, .phase⟩, ⟨12, .phase⟩, ⟨13, .phase⟩, ⟨14, .phase⟩, ⟨15, .phase⟩], none⟩) (by kernel_rfl) rfl (by kernel_rfl) (fun KK hK => ?_)
              go_simp
              obtain ⟨q1, qf, _, _⟩ := hHeld
              go_simp
              refine hK.out _ _ ?_
              clear hK KK
              try simp only [Act.put, List.setIfInBounds_toArray, List.set_cons_zero, List.set_cons_succ]
              unfold Exit.inBlock
              dsimp only
              go_simp
              go_wp2_with fail
              have hl9 : l = (runL s X j).length - 1 := by
                have := HL9.out
                have := HNV.out
                have := HGQ.out.len
                omega
              have hend := HF8.out.2.1
              have hu9 := HU.out.2
              rw [hl9] at hu9
              have heq9 : (runL s X j).set l (g ++ [y]) = runL s X (j + 1) := by
                rw [hl9, HXY.out]
                exact runL_more s X HNO.out hu9
              rw [heq9] at hend
              exact ⟨⟨j + 1, _, by go_num, by omega, by rw [HOPE.out]; rfl, Lib.hid hend, Lib.hid (HB9.out.trans (HF8.out.2.2.below (B := w3.heap.size) (fun i hi => by have := HZ.out; omega) HB9.out.size))⟩, by simp [intOf]; omega⟩
    · have hje : m = j := by omega
      have HGE := Lib.hid (show RG wb (.slice oa n oc) (runL s X m) by
        have h := HG.out.reads
        rw [← hje] at h
        exact h)
      subst hje
      clear HG
      go_wp2_with fail
      go_ret
      exact ⟨_, rfl, HGE.out, HBW.out⟩
end Go.Proofs.YtfpepoebammeoaaGreat
