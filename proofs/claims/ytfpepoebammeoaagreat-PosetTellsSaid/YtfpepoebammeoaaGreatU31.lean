/- Of package poset: tie. -/
import Derived.Deep.RegionLaw
import Derived.Test.YtfpepoebammeoaaGreatU20
import Derived.Test.YtfpepoebammeoaaGreatU25
import Derived.Test.YtfpepoebammeoaaGreatU6
set_option linter.unusedVariables false
set_option linter.unusedSimpArgs false
namespace Go.Proofs.YtfpepoebammeoaaGreat
open Go.ChangeShapes Go.WideShapes Go.ChangeAt Go.RowKit

theorem flatI_take {n : Int} {es : Ed} {j : Nat} {e1 e2 : Int} (h : es[j]? = some (e1, e2)) : flatI (amongL n (es.take (j + 1))) = flatI (amongL n (es.take j)) ++ if rightP n (e1, e2) then [e1, e2] else [] := by
  rw [amongL_take h]
  unfold flatI
  rw [List.flatMap_append]
  cases rightP n (e1, e2) <;> simp
def BoxK (w : World) (p : Nat) (W : World) : Prop := (∀ j, j ≠ 1 → W.cell? ⟨p, j, none⟩ = w.cell? ⟨p, j, none⟩) ∧ ∀ j, W.frozen? ⟨p, j, none⟩ = w.frozen? ⟨p, j, none⟩
theorem BoxK.refl (w : World) (p : Nat) : BoxK w p w := ⟨fun _ _ => rfl, fun _ => rfl⟩
theorem BoxK.off {w W W' : World} {p : Nat} {Z : Nat → Prop} (h : BoxK w p W) (hp : p < W.heap.size) (ho : Off Z W W') (hz : ¬ Z p) : BoxK w p W' :=
  ⟨fun j hj => (ho.cell (p := ⟨p, j, none⟩) hp hz).trans (h.1 j hj), fun j => (ho.frozen (p := ⟨p, j, none⟩) hp hz).trans (h.2 j)⟩
theorem BoxK.set {w W : World} {p : Nat} (h : BoxK w p W) (x : Value) : BoxK w p (W.setCell ⟨p, 1, none⟩ x) :=
  ⟨fun j hj => (World.cell?_setCell_other _ _ _ _ (fun e => hj (by injection e with _ e _; exact e.symm))).trans (h.1 j hj), fun j => by rw [World.frozen?_setCell]; exact h.2 j⟩
theorem right_has (n e1 e2 : Int) : (hasB n e1 && hasB n e2) = rightP n (e1, e2) := by
  rw [Bool.eq_iff_iff, Bool.and_eq_true, hasB_iff, hasB_iff, rightP_iff]
  omega
def renM (T : List Nat) (es : EdN) (j : Nat) : EdN := renE T (es.take j) ++ es.drop j
theorem renM_zero (T : List Nat) (es : EdN) : renM T es 0 = es := by simp [renM, renE]
theorem renM_all (T : List Nat) (es : EdN) {j : Nat} (h : es.length ≤ j) : renM T es j = renE T es := by
  unfold renM
  rw [List.take_of_length_le h, List.drop_of_length_le h, List.append_nil]
theorem renM_len (T : List Nat) (es : EdN) (j : Nat) : (renM T es j).length = es.length := by
  unfold renM renE
  simp
  omega
theorem renM_at (T : List Nat) {es : EdN} {j : Nat} {e : Nat × Nat} (h : es[j]? = some e) : (renM T es j)[j]? = some e := by
  have hj := (List.getElem?_eq_some_iff.1 h).1
  unfold renM
  rw [List.getElem?_append_right (by unfold renE; simp; omega)]
  have : (renE T (es.take j)).length = j := by unfold renE; simp; omega
  rw [this, Nat.sub_self, List.getElem?_drop]
  exact h
theorem renM_step (T : List Nat) {es : EdN} {j : Nat} {e : Nat × Nat} (h : es[j]? = some e) : (renM T es j).set j (T.idxOf e.1, T.idxOf e.2) = renM T es (j + 1) := by
  have hj := (List.getElem?_eq_some_iff.1 h).1
  have hl : (renE T (es.take j)).length = j := by unfold renE; simp; omega
  unfold renM
  rw [List.set_append_right _ _ (by omega), hl, Nat.sub_self]
  have hd : es.drop j = e :: es.drop (j + 1) := by
    rw [← List.getElem_cons_drop (h := hj)]
    congr 1
    exact (List.getElem?_eq_some_iff.1 h).2
  rw [hd, List.set_cons_zero]
  have : renE T (es.take (j + 1)) = renE T (es.take j) ++ [(T.idxOf e.1, T.idxOf e.2)] := by
    rw [List.take_add_one, h]
    unfold renE
    rw [List.map_append]
    rfl
  rw [this, List.append_assoc]
  rfl
set_option maxHeartbeats 4000000 in
set_option maxRecDepth 100000 in
theorem tie_any (p : Nat) (n : Int) (es : Ed) (v : Value) (w : World) (hp : p < w.heap.size) (h0 : w.cell? ⟨p, 0, none⟩ = some (.int .i64 n)) (h1 : w.cell? ⟨p, 1, none⟩ = some (.slice none 0 0)) (hf : w.frozen? ⟨p, 1, none⟩ = false) (hr : RE w v es) (hz : es ≠ [] → ∀ b o c k, v = .slice (some ⟨b, o, none⟩) k c → b ≠ p) (hl : es.length ≤ 100000) (hn : n ≤ 1000000) :
    Calls Tryz.prog 19 #[.pointer (some ⟨p, 0, none⟩), v] w fun e w' => ∃ kv tv, e = .returned kv ∧ Row 2 w.heap.size w' kv (amongL n es).length (evs (toI (renE (tiedL (toN (amongL n es)) n.toNat) (toN (amongL n es))))) ∧ w'.cell? ⟨p, 1, none⟩ = some tv ∧ RI w' tv (nl (tiedL (toN (amongL n es)) n.toNat)) ∧ (∀ b, tv.ownBlock = some b → w.heap.size ≤ b) ∧ BoxK w p w' ∧ Off (fun i => i = p) w w' := by
  obtain ⟨va, vc, rfl⟩ := hr.form
  obtain ⟨E, hE⟩ : ∃ E, E = es.length := ⟨_, rfl⟩
  rw [← hE] at hr hl ⊢
  obtain ⟨ES, hES⟩ : ∃ ES, ES = toN (amongL n es) := ⟨_, rfl⟩
  obtain ⟨N, hN⟩ : ∃ N, N = n.toNat := ⟨_, rfl⟩
  obtain ⟨T, hTT⟩ : ∃ T, T = tiedL ES N := ⟨_, rfl⟩
  rw [← hES, ← hN, ← hTT]
  have hlt : ∀ e ∈ ES, e.1 < N ∧ e.2 < N := by rw [hES, hN]; exact among_lt
  have HTI : Hid (Tied N ES T) := Lib.hid (by rw [hTT]; exact tied_tiedL hlt)
  have HTL : Hid (T.length ≤ 1000000) := Lib.hid (by
    rw [hTT]
    refine Nat.le_trans (tiedL_len ES N) ?_
    omega)
  have HLT := Lib.hid hlt
  have HES := Lib.hid hES
  have HTT := Lib.hid hTT
  clear hES hN hTT hlt
  obtain ⟨S, hS⟩ : ∃ S, S = w.heap.size := ⟨_, rfl⟩
  rw [← hS] at hp ⊢
  have hre : ∀ W, Off (fun i => i = p) w W → RE W (.slice va E vc) es := fun W ho => by
    rcases hr with h | ⟨hn, b, o, c, e, h1, h2, h3, h4⟩
    · exact .inl h
    · have hb : ¬ b = p := hz hn b o c es.length (by rw [← hE] at e ⊢; exact e)
      exact .inr ⟨hn, b, o, c, e, h1, h2, Nat.lt_of_lt_of_le h3 ho.size, fun j e he => ⟨(ho.cell (p := ⟨b, o + j * 2, none⟩) h3 hb).trans (h4 j e he).1, (ho.cell (p := ⟨b, o + j * 2 + 1, none⟩) h3 hb).trans (h4 j e he).2⟩⟩
  have HE := Lib.hid hE
  have HS := Lib.hid hS
  have HRE := Lib.hid hre
  have HH := Lib.hid (fun (t : Int) (W : World) (h : W.cell? ⟨p, 0, none⟩ = some (.int .i64 n)) => has_any p n t W h)
  have H00 := Lib.hid h0
  have H10 := Lib.hid h1
  have HF0 := Lib.hid hf
  clear hE hS hr hre hz h0 h1 hf
  go_enter Tryz.func19, Tryz.ntmps19
  go_wp2_with fail
  go_loopw [5, 12] (fun kv jv wr => ∃ (j k : Nat) (tv : Value), jv = .int .i64 (j : Nat) ∧ j ≤ E ∧ k ≤ j ∧ Hid (k = (amongL n (es.take j)).length) ∧ Hid (Row 2 S wr kv k (evs (amongL n (es.take j)))) ∧ Hid (Row 1 S wr tv (k * 2) (iv (flatI (amongL n (es.take j))))) ∧ (∀ b, kv.ownBlock = some b → tv.ownBlock ≠ some b) ∧ wr.cell? ⟨p, 1, none⟩ = some tv ∧ Hid (BoxK w p wr) ∧ Hid (Off (fun i => i = p) w wr)) (fun _ jv _ => E - (intOf jv).toNat)
  case atStart => exact ⟨0, 0, .slice none 0 0, rfl, Nat.zero_le _, Nat.le_refl _, Lib.hid (by simp [amongL]), Lib.hid (by simpa [amongL, evs] using Row.nil 2 S w), Lib.hid (by simpa [amongL, flatI] using Row.nil 1 S w), fun b hb => by simp [Value.ownBlock] at hb, H10.out, Lib.hid (BoxK.refl w p), Lib.hid (Off.refl _ _)⟩
  case round =>
    obtain ⟨j, k, tv, rfl, hj, hkj, HK, HO, HT, hne, ct, HBX, HOF⟩ := hrel
    obtain ⟨oa, oc, rfl⟩ := HO.out.form
    obtain ⟨ta, tc, rfl⟩ := HT.out.form
    have hsw : S ≤ wr.heap.size := by have := HOF.out.size; have := HS.out; omega
    have c00 : wr.cell? ⟨p, 0, none⟩ = some (.int .i64 n) := (HBX.out.1 0 (by decide)).trans H00.out
    have f1 : wr.frozen? ⟨p, 1, none⟩ = false := (HBX.out.2 1).trans HF0.out
    by_cases hlj : j < E
    · obtain ⟨e, he⟩ : ∃ e, es[j]? = some e := ⟨es[j]'(by rw [← HE.out]; exact hlj), by simp⟩
      obtain ⟨e1, e2⟩ := e
      obtain ⟨vb, vo, rfl, hvb, hvc1, hvc2, d0, d1⟩ := (HRE.out wr HOF.out).at he
      simp only at d0 d1
      have HFT := Lib.hid (flatI_take (n := n) he)
      have HAT := Lib.hid (amongL_take (n := n) he)
      have HRH := Lib.hid (right_has n e1 e2)
      obtain ⟨T2, hT2⟩ : ∃ T2, T2 = k * 2 := ⟨_, rfl⟩
      rw [← hT2] at HT ct hne
      have HT2 := Lib.hid hT2
      have hT29 : T2 ≤ 200000 := by omega
      obtain ⟨z, hz⟩ : ∃ z, z = wr.heap.size := ⟨_, rfl⟩
      obtain ⟨wz, hwz⟩ : ∃ wz, wz = wr.alloc (.cells #[.int .i64 e1, .int .i64 e2] 36) := ⟨_, rfl⟩
      have hbz : Below wr.heap.size wr wz := by rw [hwz]; exact (Below.refl _ _).alloc (Nat.le_refl _) _
      have z0 : wz.cell? ⟨z, 0, none⟩ = some (.int .i64 e1) := by rw [hwz, hz, World.cell?_alloc_at _ _ _ _ rfl]; rfl
      have z1 : wz.cell? ⟨z, 1, none⟩ = some (.int .i64 e2) := by rw [hwz, hz, World.cell?_alloc_at _ _ _ _ rfl]; rfl
      have hzs : wz.heap.size = z + 1 := by rw [hwz, hz]; simp
      have hpr : p < wr.heap.size := by omega
      have c00z := (hbz.cell (p := ⟨p, 0, none⟩) hpr).trans c00
      have ctz := (hbz.cell (p := ⟨p, 1, none⟩) hpr).trans ct
      have f1z := (hbz.frozen (p := ⟨p, 1, none⟩) hpr).trans f1
      have HOz := Lib.hid (HO.out.below hbz)
      have HTz := Lib.hid (HT.out.below hbz)
      have HBXz := Lib.hid (HBX.out.off hpr (Off.of_below (Z := fun _ => False) hbz) (fun h => h))
      have HOFz := Lib.hid (HOF.out.trans (Off.of_below hbz))
      have HWZ := Lib.hid hwz
      have hoz : ∀ b, (Value.slice oa k oc).ownBlock = some b → S ≤ b ∧ b < z := fun b hb => by rw [hz]; exact HO.out.lt b hb
      have htz : ∀ b, (Value.slice ta T2 tc).ownBlock = some b → S ≤ b ∧ b < z := fun b hb => by rw [hz]; exact HT.out.lt b hb
      have HOZ := Lib.hid hoz
      have HTZ := Lib.hid htz
      have HNE := Lib.hid hne
      have HH1 := Lib.hid (HH.out e1 wz c00z)
      have HH2 := Lib.hid (HH.out e2 wz c00z)
      unfold maxLen at hvc2
      clear hT2 hbz hwz hoz htz hne he c00 ct f1 HO HT HBX HOF
      have hE0 : 0 < E := by omega
      have hzI : S ≤ z := by omega
      go_wp2_with fail
      rw [← hz, ← HWZ.out]
      clear hz
      refine HH1.out.mono ?_
      rintro e w3 ⟨rfl, rfl⟩
      cases hh1 : hasB n e1
      · have hR : rightP n (e1, e2) = false := by rw [← HRH.out, hh1]; rfl
        have HF9 := Lib.hid (show flatI (amongL n (es.take (j + 1))) = flatI (amongL n (es.take j)) by rw [HFT.out, hR]; simp)
        have HA9 := Lib.hid (show amongL n (es.take (j + 1)) = amongL n (es.take j) by rw [HAT.out, hR]; simp)
        clear hR hh1
        go_wp2_with fail
        exact ⟨⟨j + 1, k, .slice ta T2 tc, by go_num, by omega, by omega, Lib.hid (by rw [HA9.out]; exact HK.out), Lib.hid (by rw [HA9.out]; exact HOz.out), Lib.hid (by rw [HF9.out, ← HT2.out]; exact HTz.out), HNE.out, ctz, HBXz, HOFz⟩, by simp [intOf]; omega⟩
      · go_wp2_with fail
        refine HH2.out.mono ?_
        rintro e w4 ⟨rfl, rfl⟩
        cases hh2 : hasB n e2
        · have hR : rightP n (e1, e2) = false := by rw [← HRH.out, hh1, hh2]; rfl
          have HF9 := Lib.hid (show flatI (amongL n (es.take (j + 1))) = flatI (amongL n (es.take j)) by rw [HFT.out, hR]; simp)
          have HA9 := Lib.hid (show amongL n (es.take (j + 1)) = amongL n (es.take j) by rw [HAT.out, hR]; simp)
          clear hR hh1 hh2
          go_wp2_with fail
          exact ⟨⟨j + 1, k, .slice ta T2 tc, by go_num, by omega, by omega, Lib.hid (by rw [HA9.out]; exact HK.out), Lib.hid (by rw [HA9.out]; exact HOz.out), Lib.hid (by rw [HF9.out, ← HT2.out]; exact HTz.out), HNE.out, ctz, HBXz, HOFz⟩, by simp [intOf]; omega⟩
        · have hR : rightP n (e1, e2) = true := by rw [← HRH.out, hh1, hh2]; rfl
          have HF9 := Lib.hid (show flatI (amongL n (es.take (j + 1))) = flatI (amongL n (es.take j)) ++ [e1, e2] by rw [HFT.out, hR]; simp)
          have HA9 := Lib.hid (show amongL n (es.take (j + 1)) = amongL n (es.take j) ++ [(e1, e2)] by rw [HAT.out, hR]; simp)
          have hsrc : Src Tryz.prog 2 22 (.slice (some ⟨w4.heap.size, 0, none⟩) 1 1) 1 [.int .i64 e1, .int .i64 e2] (w4.alloc (.cells #[.int .i64 e1, .int .i64 e2] 36)) := src_new Tryz.underlying22 [.int .i64 e1, .int .i64 e2] 1 36 1 rfl onePr
          have HSRC := Lib.hid hsrc
          have HRA := Lib.hid (HOz.out.alloc (.cells #[.int .i64 e1, .int .i64 e2] 36))
          have hszw : S ≤ (w4.alloc (.cells #[.int .i64 e1, .int .i64 e2] 36)).heap.size := by simp; omega
          clear hR hh1 hh2 hsrc
          go_wp2_with (at_builtin; refine wpList_append_row rfl (.tmp 26) (.tmp 28) 22 22 rfl 2 36 (.agg #[.int .i64 0, .int .i64 0]) 16 Tryz.underlying22 infoPr rfl S (.slice oa k oc) k (evs (amongL n (es.take j))) (by simp [Act.eval]) HRA.out (.slice (some ⟨w4.heap.size, 0, none⟩) 1 1) (by simp [Act.eval]) 1 [.int .i64 e1, .int .i64 e2] HSRC.out hszw (by omega) (by decide) ?_; intro v6 w6 hr6 ho6 hw6; obtain ⟨a6, c6, hv6⟩ := hr6.form; subst hv6; have HR6 := Lib.hid hr6; have HO6 := Lib.hid ho6; have HW6 := Lib.hid hw6; clear hr6 ho6 hw6)
          have hoff : Off (fun i => (Value.slice oa k oc).ownBlock = some i) w4 w6 := ((Off.refl _ w4).alloc _).trans HO6.out
          have hpz : p < w4.heap.size := by omega
          have hnp : ¬ (Value.slice oa k oc).ownBlock = some p := fun e => by have := (HOZ.out p e).1; omega
          have hnz : ¬ (Value.slice oa k oc).ownBlock = some z := fun e => by have := (HOZ.out z e).2; omega
          have hz4 : z < w4.heap.size := by omega
          have y0 := (hoff.cell (p := ⟨z, 0, none⟩) hz4 hnz).trans z0
          have y1 := (hoff.cell (p := ⟨z, 1, none⟩) hz4 hnz).trans z1
          have yt := (hoff.cell (p := ⟨p, 1, none⟩) hpz hnp).trans ctz
          have yf := (hoff.frozen (p := ⟨p, 1, none⟩) hpz hnp).trans f1z
          have HBX6 := Lib.hid (HBXz.out.off hpz hoff hnp)
          have hs6 := hoff.size
          have HT6 := Lib.hid (HTz.out.off hoff (fun b hb e => HNE.out b e hb))
          have hof6 : Off (fun i => i = p) w w6 := HOFz.out.trans' hoff (fun i hi h => by have := (HOZ.out i h).1; have := HS.out; omega)
          have HOF6 := Lib.hid hof6
          have HOW6 : Hid (∀ b, (Value.slice a6 (k + 1) c6).ownBlock = some b → S ≤ b ∧ (Value.slice ta T2 tc).ownBlock ≠ some b) := Lib.hid (fun b hb => by
            refine ⟨(HR6.out.lt b hb).1, fun e => ?_⟩
            have h2 := HTZ.out b e
            rcases HW6.out with h | h
            · exact HNE.out b (by rw [← h]; exact hb) e
            · rw [h] at hb
              injection hb with hb
              simp at hb
              omega)
          have HS6 : Hid (w6.drew.cell? ⟨z, 0, none⟩ = some (.int .i64 e1) ∧ w6.drew.cell? ⟨z, 1, none⟩ = some (.int .i64 e2) ∧ w6.drew.cell? ⟨p, 1, none⟩ = some (.slice ta T2 tc) ∧ w6.drew.frozen? ⟨p, 1, none⟩ = false) := Lib.hid ⟨y0, y1, yt, yf⟩
          have hal := (Below.refl w6.drew.heap.size w6.drew).alloc (Nat.le_refl _) (.cells #[.int .i64 e1, .int .i64 e2] 3)
          have hz6 : z < w6.drew.heap.size := by show z < w6.heap.size; omega
          have hp6 : p < w6.drew.heap.size := by show p < w6.heap.size; omega
          have hs7 : (w6.drew.alloc (.cells #[.int .i64 e1, .int .i64 e2] 3)).cell? ⟨z, 0, none⟩ = some (.int .i64 e1) ∧ (w6.drew.alloc (.cells #[.int .i64 e1, .int .i64 e2] 3)).cell? ⟨z, 1, none⟩ = some (.int .i64 e2) ∧ (w6.drew.alloc (.cells #[.int .i64 e1, .int .i64 e2] 3)).cell? ⟨p, 1, none⟩ = some (.slice ta T2 tc) ∧ (w6.drew.alloc (.cells #[.int .i64 e1, .int .i64 e2] 3)).frozen? ⟨p, 1, none⟩ = false := ⟨(hal.cell (p := ⟨z, 0, none⟩) hz6).trans y0, (hal.cell (p := ⟨z, 1, none⟩) hz6).trans y1, (hal.cell (p := ⟨p, 1, none⟩) hp6).trans yt, (hal.frozen (p := ⟨p, 1, none⟩) hp6).trans yf⟩
          have HS7 := Lib.hid hs7
          have hA7 : (w6.drew.alloc (.cells #[.int .i64 e1, .int .i64 e2] 3)).heap.size = w6.heap.size + 1 := by simp
          have hz7 : z < (w6.drew.alloc (.cells #[.int .i64 e1, .int .i64 e2] 3)).heap.size := by omega
          have hp7 : p < (w6.drew.alloc (.cells #[.int .i64 e1, .int .i64 e2] 3)).heap.size := by omega
          have htp : ¬ (Value.slice ta T2 tc).ownBlock = some p := fun e => by have := (HTZ.out p e).1; omega
          have htz2 : ¬ (Value.slice ta T2 tc).ownBlock = some z := fun e => by have := (HTZ.out z e).2; omega
          have HSO : Hid (∀ w8, Off (fun i => (Value.slice ta T2 tc).ownBlock = some i) (w6.drew.alloc (.cells #[.int .i64 e1, .int .i64 e2] 3)) w8 → w8.cell? ⟨z, 0, none⟩ = some (.int .i64 e1) ∧ w8.cell? ⟨z, 1, none⟩ = some (.int .i64 e2) ∧ w8.cell? ⟨p, 1, none⟩ = some (.slice ta T2 tc) ∧ w8.frozen? ⟨p, 1, none⟩ = false) := Lib.hid (fun w8 ho => ⟨(ho.cell (p := ⟨z, 0, none⟩) hz7 htz2).trans hs7.1, (ho.cell (p := ⟨z, 1, none⟩) hz7 htz2).trans hs7.2.1, (ho.cell (p := ⟨p, 1, none⟩) hp7 htp).trans hs7.2.2.1, (ho.frozen (p := ⟨p, 1, none⟩) hp7 htp).trans hs7.2.2.2⟩)
          have HRA7 := Lib.hid (HT6.out.drew.alloc (.cells #[.int .i64 e1, .int .i64 e2] 3))
          have hsrc7 : Src Tryz.prog 1 23 (.slice (some ⟨w6.drew.heap.size, 0, none⟩) 2 2) 2 [.int .i64 e1, .int .i64 e2] (w6.drew.alloc (.cells #[.int .i64 e1, .int .i64 e2] 3)) := src_new Tryz.underlying23 [.int .i64 e1, .int .i64 e2] 2 3 2 rfl onePr
          have HSRC7 := Lib.hid hsrc7
          have hsz7 : S ≤ (w6.drew.alloc (.cells #[.int .i64 e1, .int .i64 e2] 3)).heap.size := by omega
          have HSZ6 : Hid (z + 1 ≤ w6.heap.size) := Lib.hid (by omega)
          have HPP : Hid (¬ (Value.slice ta T2 tc).ownBlock = some p) := Lib.hid htp
          clear y0 y1 yt yf hal hs7 hsrc7 hoff hnp hnz hof6 z0 z1 c00z ctz f1z htp htz2
          go_wp2_with fail
          refine wp_region_til (S := (fun W => W.cell? ⟨z, 0, none⟩ = some (.int .i64 e1) ∧ W.cell? ⟨z, 1, none⟩ = some (.int .i64 e2) ∧ W.cell? ⟨p, 1, none⟩ = some (.slice ta T2 tc) ∧ W.frozen? ⟨p, 1, none⟩ = false)) 13 (by kernel_rfl) ?_ (fun hHeld => ?_)
          · exact HS6.out
          refine tkT 0 ⟨some 30, .move (.tmp 0), 25, "poset.go:104", #[], none⟩ ?_
          try simp only [Act.put, List.setIfInBounds_toArray, List.set_cons_zero, List.set_cons_succ]
          refine tkT 1 ⟨some 31, .move (.tmp 0), 25, "poset.go:104", #[], none⟩ ?_
          try simp only [Act.put, List.setIfInBounds_toArray, List.set_cons_zero, List.set_cons_succ]
          refine tkT 2 ⟨some 32, .nilCheck (.tmp 31), 0, "poset.go:104", #[⟨1, .data⟩], none⟩ ?_
          try simp only [Act.put, List.setIfInBounds_toArray, List.set_cons_zero, List.set_cons_succ]
          refine tkT 3 ⟨some 33, .fieldAddr 38 (.tmp 32) 1, 0, "poset.go:104", #[⟨2, .data⟩], none⟩ ?_
          try simp only [Act.put, List.setIfInBounds_toArray, List.set_cons_zero, List.set_cons_succ]
          refine tkT 4 ⟨some 34, .load 23 (.tmp 33), 23, "poset.go:104", #[⟨3, .data⟩], none⟩ ?_
          try simp only [Act.put, List.setIfInBounds_toArray, List.set_cons_zero, List.set_cons_succ]
          refine tkT 5 ⟨some 35, .indexAddr 36 (.tmp 7) (.const (Value.int IntKind.i64 0)), 0, "poset.go:104", #[], none⟩ ?_
          try simp only [Act.put, List.setIfInBounds_toArray, List.set_cons_zero, List.set_cons_succ]
          refine tkT 6 ⟨some 36, .load 3 (.tmp 35), 3, "poset.go:104", #[⟨5, .data⟩], none⟩ ?_
          try simp only [Act.put, List.setIfInBounds_toArray, List.set_cons_zero, List.set_cons_succ]
          refine tkT 7 ⟨some 37, .indexAddr 36 (.tmp 7) (.const (Value.int IntKind.i64 1)), 0, "poset.go:104", #[], none⟩ ?_
          try simp only [Act.put, List.setIfInBounds_toArray, List.set_cons_zero, List.set_cons_succ]
          refine tkT 8 ⟨some 38, .load 3 (.tmp 37), 3, "poset.go:104", #[⟨7, .data⟩], none⟩ ?_
          try simp only [Act.put, List.setIfInBounds_toArray, List.set_cons_zero, List.set_cons_succ]
          refine til_one (i := 9) (o := ⟨some 39, .buildSlice 23 2 #[(0, .tmp 36), (1, .tmp 38)], 23, "poset.go:104", #[⟨6, .data⟩, ⟨8, .data⟩], none⟩) (by kernel_rfl) rfl (fun KK hK => ?_)
          go_simp
          refine hK.out _ _ ?_ (fun hHeld => ?_)
          · exact HS7.out
          clear hK KK
          try simp only [Act.put, List.setIfInBounds_toArray, List.set_cons_zero, List.set_cons_succ]
          refine til_one (i := 10) (o := ⟨some 40, .call { callee := Callee.builtin Builtin.append, args := #[.tmp 34, .tmp 39], argTypes := #[23, 23] }, 23, "poset.go:104", #[⟨4, .data⟩, ⟨9, .data⟩], none⟩) (by kernel_rfl) rfl (fun KK hK => ?_)
          refine step_append_row rfl (.tmp 34) (.tmp 39) 23 23 rfl 1 3 (.int .i64 0) 8 Tryz.underlying23 infoIk rfl S (.slice ta T2 tc) T2 (iv (flatI (amongL n (es.take j)))) (by simp [Act.eval]) HRA7.out (.slice (some ⟨w6.drew.heap.size, 0, none⟩) 2 2) (by simp [Act.eval]) 2 [.int .i64 e1, .int .i64 e2] HSRC7.out hsz7 (by omega) (by decide) ?_
          intro v8 w8 hr8 ho8 hw8
          obtain ⟨a8, c8, hv8⟩ := hr8.form
          subst hv8
          have HR8 := Lib.hid hr8
          have HO8 := Lib.hid ho8
          have HW8 := Lib.hid hw8
          have HS8 := Lib.hid (HSO.out w8 ho8)
          clear hr8 ho8 hw8
          refine hK.out _ _ ?_ (fun hHeld => ?_)
          · exact HS8.out
          clear hK KK
          try simp only [Act.put, List.setIfInBounds_toArray, List.set_cons_zero, List.set_cons_succ]
          refine til_one (i := 11) (o := ⟨some 41, .nilCheck (.tmp 30), 0, "poset.go:104", #[⟨0, .data⟩, ⟨0, .phase⟩, ⟨1, .phase⟩, ⟨2, .phase⟩, ⟨3, .phase⟩, ⟨4, .phase⟩, ⟨5, .phase⟩, ⟨6, .phase⟩, ⟨7, .phase⟩, ⟨8, .phase⟩, ⟨9, .phase⟩, ⟨10, .phase⟩], none⟩) (by kernel_rfl) rfl (fun KK hK => ?_)
          go_simp
          refine hK.out _ _ ?_ (fun hHeld => ?_)
          · exact HS8.out
          clear hK KK
          try simp only [Act.put, List.setIfInBounds_toArray, List.set_cons_zero, List.set_cons_succ]
          refine tkT 12 ⟨some 42, .fieldAddr 38 (.tmp 41) 1, 0, "poset.go:104", #[⟨11, .data⟩, ⟨0, .phase⟩, ⟨1, .phase⟩, ⟨2, .phase⟩, ⟨3, .phase⟩, ⟨4, .phase⟩, ⟨5, .phase⟩, ⟨6, .phase⟩, ⟨7, .phase⟩, ⟨8, .phase⟩, ⟨9, .phase⟩, ⟨10, .phase⟩], none⟩ ?_
          try simp only [Act.put, List.setIfInBounds_toArray, List.set_cons_zero, List.set_cons_succ]
          refine til_last (o := ⟨none, .store 23 (.tmp 42) (.tmp 40), 0, "poset.go:104", #[⟨12, .data⟩, ⟨10, .data⟩, ⟨10, .chain⟩, ⟨0, .phase⟩, ⟨1, .phase⟩, ⟨2, .phase⟩, ⟨3, .phase⟩, ⟨4, .phase⟩, ⟨5, .phase⟩, ⟨6, .phase⟩, ⟨7, .phase⟩, ⟨8, .phase⟩, ⟨9, .phase⟩, ⟨10, .phase⟩], none⟩) (by kernel_rfl) rfl (by kernel_rfl) (fun KK hK => ?_)
          go_simp
          obtain ⟨_, _, q1, qf⟩ := hHeld
          go_simp
          refine hK.out _ _ ?_
          clear hK KK
          try simp only [Act.put, List.setIfInBounds_toArray, List.set_cons_zero, List.set_cons_succ]
          have hof8 : Off (fun i => (Value.slice ta T2 tc).ownBlock = some i) w6 w8 := (((Off.refl _ w6).drew).alloc _).trans HO8.out
          have hpw8 : p < w8.heap.size := by have := hof8.size; have := HSZ6.out; omega
          have hrt := HR8.out.setOther (p := ⟨p, 1, none⟩) (fun e => by have := (HR8.out.lt p e).1; omega) (.slice a8 (T2 + 2) c8)
          have hrk := (HR6.out.off hof8 (fun b hb e => (HOW6.out b hb).2 e)).setOther (p := ⟨p, 1, none⟩) (fun e => by have := (HOW6.out p e).1; omega) (.slice a8 (T2 + 2) c8)
          have hbx := (HBX6.out.off (show p < w6.heap.size by have := HSZ6.out; omega) hof8 HPP.out).set (.slice a8 (T2 + 2) c8)
          have hofz : Off (fun i => i = p) w (w8.setCell ⟨p, 1, none⟩ (.slice a8 (T2 + 2) c8)) := (HOF6.out.trans' hof8 (fun i hi h => by have := (HTZ.out i h).1; have := HS.out; omega)).setCell (p := ⟨p, 1, none⟩) (.inr rfl) _
          have hcp : (w8.setCell ⟨p, 1, none⟩ (.slice a8 (T2 + 2) c8)).cell? ⟨p, 1, none⟩ = some (.slice a8 (T2 + 2) c8) := by
            obtain ⟨_, _, q1, _⟩ := HS8.out
            exact World.cell?_setCell_same _ _ _ q1
          have hne8 : ∀ b, (Value.slice a6 (k + 1) c6).ownBlock = some b → (Value.slice a8 (T2 + 2) c8).ownBlock ≠ some b := fun b hb e => by
            rcases HW8.out with h | h
            · exact (HOW6.out b hb).2 (by rw [← h]; exact e)
            · rw [h] at e
              injection e with e
              have e2 : b = w6.heap.size + 1 := by simpa using e.symm
              have := (HR6.out.lt b hb).2
              omega
          have HRT := Lib.hid hrt
          have HRK := Lib.hid hrk
          have HBX9 := Lib.hid hbx
          have HOF9 := Lib.hid hofz
          have HCP := Lib.hid hcp
          have HNE9 := Lib.hid hne8
          clear hof8 hrt hrk hbx hofz hcp hne8
          go_wp2_with fail
          refine ⟨⟨j + 1, k + 1, .slice a8 (T2 + 2) c8, by go_num, by omega, by omega, Lib.hid (by rw [HA9.out, List.length_append, ← HK.out]; rfl), Lib.hid (by rw [HA9.out, evs_snoc]; exact HRK.out), Lib.hid (by
            rw [HF9.out]
            have e : (k + 1) * 2 = T2 + 2 := by have := HT2.out; omega
            rw [e]
            have := HRT.out
            simpa [iv] using this), HNE9.out, HCP.out, HBX9, HOF9⟩, by simp [intOf]; omega⟩
    · have hje : E = j := by omega
      have hall : es.take j = es := List.take_of_length_le (by rw [← HE.out]; omega)
      have hK := HK.out
      have hO := HO.out
      have hT := HT.out
      rw [hall] at hK hO hT
      have hEI : amongL n es = toI ES := by rw [HES.out]; exact toI_toN.symm
      have hEl : ES.length = k := by rw [hK, HES.out]; simp [toN]
      have hTi := HTI.out
      have hlt := HLT.out
      have hTl := HTL.out
      rw [hEI] at hO hT
      have hfl : (flatI (toI ES)).length = k * 2 := by rw [flatI_len]; simp [toI, hEl]
      have hsc := sortC_any (S := S) (flatI (toI ES)) T (.slice ta (k * 2) tc) wr (by rw [hfl]; exact hT) (by rw [hfl]; omega) (fun ts h1 h2 => by rw [HTT.out]; exact ends_eq hlt ts h1 h2)
      have HSC := Lib.hid hsc
      have HON := Lib.hid (fun b (hb : (Value.slice ta (k * 2) tc).ownBlock = some b) => (hT.lt b hb).1)
      have HKO := Lib.hid (fun b (hb : (Value.slice oa k oc).ownBlock = some b) => hO.lt b hb)
      have HKR := Lib.hid hO
      have HNE := Lib.hid hne
      have HEL := Lib.hid hEl
      have HAL : Hid (k = (amongL n es).length) := Lib.hid hK
      have HC1 := Lib.hid ct
      have HF1 := Lib.hid f1
      have hpr : p < wr.heap.size := by omega
      subst hje
      clear hall hK hO hT hEI hlt hEl hTi hfl hsc hne HO HT HK c00 f1
      go_wp2_with fail
      refine HSC.out.mono ?_
      rintro e w2 ⟨rfl, ho2, hc2⟩
      have hnp : ¬ (Value.slice ta (k * 2) tc).ownBlock = some p := fun e => by have := HON.out p e; omega
      have ct2 := (ho2.cell (p := ⟨p, 1, none⟩) hpr hnp).trans HC1.out
      have hs2 := ho2.size
      have hpr2 : p < w2.heap.size := by omega
      have HC2 := Lib.hid hc2
      have HO2 := Lib.hid ho2
      have HNP := Lib.hid hnp
      clear ho2 hc2 hnp ct
      go_wp2_with fail
      refine HC2.out.mono ?_
      rintro e w3 ⟨v2, rfl, hri, ho3⟩
      have hs3 := ho3.size
      have HO3 := Lib.hid (HO2.out.trans ho3)
      have CL := Lib.hid (clone_any (nl T) v2 w3 hri (by simpa using hTl))
      clear hri ho3 ct2
      go_wp2_with fail
      refine CL.out.mono ?_
      rintro e w4 ⟨v3, rfl, hr4, hb4⟩
      rw [nl_len] at hr4
      obtain ⟨ta3, tc3, hv3⟩ := hr4.form
      obtain ⟨TL, hTL⟩ : ∃ TL, TL = T.length := ⟨_, rfl⟩
      rw [← hTL] at hr4 hv3
      have HTLN := Lib.hid hTL
      clear hTL
      subst hv3
      have hpr3 : p < w3.heap.size := by omega
      have ct4 := (hb4.cell (p := ⟨p, 1, none⟩) hpr3).trans ((HO3.out.cell (p := ⟨p, 1, none⟩) hpr HNP.out).trans HC1.out)
      have f4 := (hb4.frozen (p := ⟨p, 1, none⟩) hpr3).trans ((HO3.out.frozen (p := ⟨p, 1, none⟩) hpr HNP.out).trans HF1.out)
      have hs4 := hb4.size
      have hkr4 := (HKR.out.off HO3.out (fun b hb e => HNE.out b hb e)).below hb4
      have hbx4 := (HBX.out.off hpr HO3.out HNP.out).off hpr3 (Off.of_below (Z := fun _ => False) hb4) (fun h => h)
      have hof4 := (HOF.out.trans' HO3.out (fun i hi h => by have := HON.out i h; have := HS.out; omega)).trans (Off.of_below (Z := fun i => i = p) hb4)
      obtain ⟨w5, hw5⟩ : ∃ w5, w5 = w4.setCell ⟨p, 1, none⟩ (.slice ta3 TL tc3) := ⟨_, rfl⟩
      have hs5 : w5.heap.size = w4.heap.size := by rw [hw5]; simp [World.setCell]
      have hkr5 : Row 2 S w5 (.slice oa k oc) k (evs (toI (renM T ES 0))) := by rw [renM_zero, hw5]; exact hkr4.setOther (p := ⟨p, 1, none⟩) (fun e => by have := (HKO.out p e).1; omega) (.slice ta3 TL tc3)
      have hti5 : Row 1 w3.heap.size w5 (.slice ta3 TL tc3) TL (iv (nl T)) := by rw [hw5]; exact hr4.setOther (p := ⟨p, 1, none⟩) (fun e => by have := (hr4.lt p e).1; omega) (.slice ta3 TL tc3)
      have hc5 : w5.cell? ⟨p, 1, none⟩ = some (.slice ta3 TL tc3) := by rw [hw5]; exact World.cell?_setCell_same _ _ _ ct4
      have hbx5 : BoxK w p w5 := by rw [hw5]; exact hbx4.set (.slice ta3 TL tc3)
      have hof5 : Off (fun i => i = p) w w5 := by rw [hw5]; exact hof4.setCell (p := ⟨p, 1, none⟩) (.inr rfl) _
      have HK5 := Lib.hid hkr5
      have HT5 := Lib.hid hti5
      have HBX5 := Lib.hid hbx5
      have HOF5 := Lib.hid hof5
      have HW5 := Lib.hid hw5
      have HKO5 := Lib.hid (fun b (hb : (Value.slice oa k oc).ownBlock = some b) => show S ≤ b ∧ b < w3.heap.size from ⟨(HKO.out b hb).1, by have := (HKO.out b hb).2; omega⟩)
      obtain ⟨X, hX⟩ : ∃ X, X = w3.heap.size := ⟨_, rfl⟩
      rw [← hX] at HT5 HKO5
      have hSX : S ≤ X := by omega
      have HX5 : Hid (X ≤ w5.heap.size) := Lib.hid (by omega)
      clear hkr4 hbx4 hof4 hkr5 hti5 hbx5 hof5 hb4 hr4 hX
      go_wp2_with fail
      rw [← HW5.out]
      go_loopw [60] (fun jv wr => ∃ j : Nat, jv = .int .i64 (j : Nat) ∧ j ≤ k ∧ Hid (Row 2 S wr (.slice oa k oc) k (evs (toI (renM T ES j)))) ∧ Hid (Row 1 X wr (.slice ta3 TL tc3) TL (iv (nl T))) ∧ wr.cell? ⟨p, 1, none⟩ = some (.slice ta3 TL tc3) ∧ Hid (BoxK w p wr) ∧ Hid (Off (fun i => i = p) w wr) ∧ X ≤ wr.heap.size) (fun jv _ => k - (intOf jv).toNat)
      case atStart => exact ⟨0, rfl, Nat.zero_le _, HK5, HT5, hc5, HBX5, HOF5, HX5.out⟩
      case round =>
        clear HK5 HT5 hc5 HBX5 HOF5 ct4 f4
        obtain ⟨j, rfl, hj, HK, HT, ct, HBX, HOF, hXw⟩ := hrel
        by_cases hlj : j < k
        · obtain ⟨e, he⟩ : ∃ e, ES[j]? = some e := ⟨ES[j]'(by rw [HEL.out]; exact hlj), by simp⟩
          obtain ⟨a, b⟩ := e
          have hem := List.mem_of_getElem? he
          have haT : a ∈ T := HTI.out.fst _ hem
          have hbT : b ∈ T := HTI.out.snd _ hem
          have hat : (toI (renM T ES j))[j]? = some ((a : Int), (b : Int)) := by
            unfold toI
            rw [List.getElem?_map, renM_at T he]
            rfl
          obtain ⟨kb, cap, hkv, hkS, hkw, hkc1, hkc2, _, _⟩ := HK.out.pos (by omega)
          injection hkv with h1 _ h3
          subst h1; subst h3
          obtain ⟨k0, kf0, _⟩ := HK.out.cellK (evs_at hat).1
          obtain ⟨k1, kf1, _⟩ := HK.out.cellK (evs_at hat).2
          have hkbX : kb < X := (HKO5.out kb rfl).2
          have hst := renM_step T he
          have hset := evs_set (e' := (((T.idxOf a : Nat) : Int), ((T.idxOf b : Nat) : Int))) hat
          have hset2 : (toI (renM T ES j)).set j (((T.idxOf a : Nat) : Int), ((T.idxOf b : Nat) : Int)) = toI (renM T ES (j + 1)) := by
            rw [← hst]
            unfold toI
            rw [List.map_set]
          rw [hset2] at hset
          have SE1 : ∀ W, RI W (.slice ta3 TL tc3) (nl T) → Calls Tryz.prog 42 #[.slice ta3 TL tc3, .int .i64 (a : Int)] W fun e w' => e = .returned (.tuple #[.int .i64 ((T.idxOf a : Nat) : Int), .bool true]) ∧ ∃ q, w' = W.drewN q := fun W h => by
            have := search_any (nl T) _ (a : Int) W h (by rw [nl, List.pairwise_map]; exact HTI.out.asc.imp fun hab => by omega) (by simpa using HTL.out)
            rwa [count_at HTI.out.asc haT, List.contains_iff_mem.2 (List.mem_map.2 ⟨a, haT, rfl⟩)] at this
          have SE2 : ∀ W, RI W (.slice ta3 TL tc3) (nl T) → Calls Tryz.prog 42 #[.slice ta3 TL tc3, .int .i64 (b : Int)] W fun e w' => e = .returned (.tuple #[.int .i64 ((T.idxOf b : Nat) : Int), .bool true]) ∧ ∃ q, w' = W.drewN q := fun W h => by
            have := search_any (nl T) _ (b : Int) W h (by rw [nl, List.pairwise_map]; exact HTI.out.asc.imp fun hab => by omega) (by simpa using HTL.out)
            rwa [count_at HTI.out.asc hbT, List.contains_iff_mem.2 (List.mem_map.2 ⟨b, hbT, rfl⟩)] at this
          obtain ⟨x, hx⟩ : ∃ x, x = T.idxOf a := ⟨_, rfl⟩
          obtain ⟨y, hy⟩ : ∃ y, y = T.idxOf b := ⟨_, rfl⟩
          rw [← hx] at SE1 hset
          rw [← hy] at SE2 hset
          have HS1 := Lib.hid SE1
          have HS2 := Lib.hid SE2
          have HSET := Lib.hid hset
          have hln : (evs (toI (renM T ES j))).length = k * 2 := by rw [evs_len]; simp [toI, renM_len, HEL.out]
          obtain ⟨z, hz⟩ : ∃ z, z = wr.heap.size := ⟨_, rfl⟩
          obtain ⟨wz, hwz⟩ : ∃ wz, wz = wr.alloc (.cells #[.int .i64 (a : Int), .int .i64 (b : Int)] 36) := ⟨_, rfl⟩
          have hbz : Below wr.heap.size wr wz := by rw [hwz]; exact (Below.refl _ _).alloc (Nat.le_refl _) _
          have z0 : wz.cell? ⟨z, 0, none⟩ = some (.int .i64 (a : Int)) := by rw [hwz, hz, World.cell?_alloc_at _ _ _ _ rfl]; rfl
          have z1 : wz.cell? ⟨z, 1, none⟩ = some (.int .i64 (b : Int)) := by rw [hwz, hz, World.cell?_alloc_at _ _ _ _ rfl]; rfl
          have hpr' : p < wr.heap.size := by omega
          have ctz := (hbz.cell (p := ⟨p, 1, none⟩) hpr').trans ct
          have y0 := (hbz.cell (p := ⟨kb, j * 2, none⟩) hkw).trans k0
          have y1 := (hbz.cell (p := ⟨kb, j * 2 + 1, none⟩) hkw).trans k1
          have g0 := (hbz.frozen (p := ⟨kb, j * 2, none⟩) hkw).trans kf0
          have g1 := (hbz.frozen (p := ⟨kb, j * 2 + 1, none⟩) hkw).trans kf1
          have hTz := HT.out.below hbz
          have HRI := Lib.hid (show RI wz.drew (.slice ta3 TL tc3) (nl T) from RI.ofRow (B := X) (l := nl T) (by rw [nl_len, ← HTLN.out]; exact hTz.drew))
          have HTz := Lib.hid hTz
          have HKz := Lib.hid (HK.out.below hbz)
          have HBXz := Lib.hid (HBX.out.off hpr' (Off.of_below (Z := fun _ => False) hbz) (fun h => h))
          have HOFz := Lib.hid (HOF.out.trans (Off.of_below hbz))
          have HWZ := Lib.hid hwz
          have HLN := Lib.hid hln
          have hXz : X ≤ z := by omega
          have hzw : z + 1 = wz.heap.size := by rw [hwz, hz]; simp
          have HZW := Lib.hid hzw
          clear hzw
          unfold maxLen at hkc2
          clear hx hy hst hset hset2 SE1 SE2 hat hem haT hbT he hbz hwz hTz ct kf0 kf1 hln HT HBX HOF
          go_wp2_with fail
          rw [← hz, ← HWZ.out]
          clear hz k0 k1
          go_region_law (go_simp; with_reducible refine (HS1.out _ (by exact HRI.out)).mono ?_; rintro e w7 ⟨rfl, q, rfl⟩)
          all_goals
            obtain ⟨wq, hwq⟩ : ∃ wq, wq = (wz.drewN (1 + q)).setCell ⟨kb, j * 2, none⟩ (.int .i64 (x : Int)) := ⟨_, rfl⟩
            rw [← hwq]
            have hzkb : z ≠ kb := by omega
            have hpkb : p ≠ kb := by omega
            have hkq : Row 2 S wq (.slice (some ⟨kb, 0, none⟩) k oc) k ((evs (toI (renM T ES j))).set (j * 2) (.int .i64 (x : Int))) := by rw [hwq]; exact (HKz.out.drewN (d := 1 + q)).put (j := j * 2) (by rw [HLN.out]; omega) _
            have zq1 : wq.cell? ⟨z, 1, none⟩ = some (.int .i64 (b : Int)) := by rw [hwq, World.cell?_setCell_other _ _ _ _ (fun e => hzkb (by injection e with e; exact e.symm))]; exact z1
            have ctq : wq.cell? ⟨p, 1, none⟩ = some (.slice ta3 TL tc3) := by rw [hwq, World.cell?_setCell_other _ _ _ _ (fun e => hpkb (by injection e with e; exact e.symm))]; exact ctz
            have yq1 : wq.cell? ⟨kb, j * 2 + 1, none⟩ = some (.int .i64 (b : Int)) := by rw [hwq, World.cell?_setCell_other _ _ _ _ (fun e => by injection e with _ e; omega)]; exact y1
            have gq1 : wq.frozen? ⟨kb, j * 2 + 1, none⟩ = false := by rw [hwq, World.frozen?_setCell]; exact g1
            have htq : Row 1 X wq (.slice ta3 TL tc3) TL (iv (nl T)) := by rw [hwq]; exact (HTz.out.drewN (d := 1 + q)).setOther (p := ⟨kb, j * 2, none⟩) (fun e => by have := (HTz.out.lt kb e).1; omega) _
            have hoq : Off (fun i => i = kb) wz wq := by rw [hwq]; exact ((Off.refl (fun i => i = kb) wz).drewN (n := 1 + q)).setCell (p := ⟨kb, j * 2, none⟩) (.inr rfl) _
            have hpz9 : p < wz.heap.size := by have := HZW.out; omega
            have HKq := Lib.hid hkq
            have HRIq := Lib.hid (show RI wq.drew (.slice ta3 TL tc3) (nl T) from RI.ofRow (B := X) (l := nl T) (by rw [nl_len, ← HTLN.out]; exact htq.drew))
            have HTq := Lib.hid htq
            have HBXq := Lib.hid (HBXz.out.off hpz9 hoq hpkb)
            have HOFq := Lib.hid (HOFz.out.trans' hoq (fun i hi h => by have := HS.out; omega))
            have HSQ := Lib.hid hoq.size
            clear hwq hkq htq hoq
            go_wp2_with fail
            go_region_law (go_simp; with_reducible refine (HS2.out _ (by exact HRIq.out)).mono ?_; rintro e w9 ⟨rfl, r, rfl⟩)
            all_goals
              have hk9 : Row 2 S ((wq.drewN (1 + r)).setCell ⟨kb, j * 2 + 1, none⟩ (.int .i64 (y : Int))) (.slice (some ⟨kb, 0, none⟩) k oc) k (evs (toI (renM T ES (j + 1)))) := by
                rw [← HSET.out]
                exact (HKq.out.drewN (d := 1 + r)).put (j := j * 2 + 1) (by rw [List.length_set, HLN.out]; omega) _
              have ct9 : ((wq.drewN (1 + r)).setCell ⟨kb, j * 2 + 1, none⟩ (.int .i64 (y : Int))).cell? ⟨p, 1, none⟩ = some (.slice ta3 TL tc3) := by rw [World.cell?_setCell_other _ _ _ _ (fun e => hpkb (by injection e with e; exact e.symm))]; exact ctq
              have ht9 : Row 1 X ((wq.drewN (1 + r)).setCell ⟨kb, j * 2 + 1, none⟩ (.int .i64 (y : Int))) (.slice ta3 TL tc3) TL (iv (nl T)) := (HTq.out.drewN (d := 1 + r)).setOther (p := ⟨kb, j * 2 + 1, none⟩) (fun e => by have := (HTq.out.lt kb e).1; omega) _
              have ho9 : Off (fun i => i = kb) wq ((wq.drewN (1 + r)).setCell ⟨kb, j * 2 + 1, none⟩ (.int .i64 (y : Int))) := ((Off.refl (fun i => i = kb) wq).drewN (n := 1 + r)).setCell (p := ⟨kb, j * 2 + 1, none⟩) (.inr rfl) _
              have HK9 := Lib.hid hk9
              have HT9 := Lib.hid ht9
              have HBX9 := Lib.hid (HBXq.out.off (show p < wq.heap.size by have := HSQ.out; have := HZW.out; omega) ho9 hpkb)
              have HOF9 := Lib.hid (HOFq.out.trans' ho9 (fun i hi h => by have := HS.out; omega))
              have HCT9 := Lib.hid ct9
              have HX9 := Lib.hid (show X ≤ ((wq.drewN (1 + r)).setCell ⟨kb, j * 2 + 1, none⟩ (.int .i64 (y : Int))).heap.size by have := HSQ.out; have := HZW.out; have := ho9.size; omega)
              clear hk9 ht9 ho9 ct9
              go_wp2_with fail
              exact ⟨⟨j + 1, by go_num, by omega, HK9, HT9, HCT9.out, HBX9, HOF9, HX9.out⟩, by simp [intOf]; omega⟩
        · have hjk : k = j := by omega
          have HK9 : Hid (Row 2 S wr (.slice oa k oc) (amongL n es).length (evs (toI (renE T ES)))) := Lib.hid (by
            have h := HK.out
            rw [renM_all T ES (by rw [HEL.out]; omega)] at h
            rw [← HAL.out]
            exact h)
          subst hjk
          clear HK
          go_wp2_with fail
          go_ret
          exact ⟨_, (.slice ta3 TL tc3), rfl, HK9.out, ct, RI.ofRow (B := X) (by rw [nl_len, ← HTLN.out]; exact HT.out), fun b hb => Nat.le_trans hSX (HT.out.lt b hb).1, HBX.out, HOF.out⟩
end Go.Proofs.YtfpepoebammeoaaGreat
