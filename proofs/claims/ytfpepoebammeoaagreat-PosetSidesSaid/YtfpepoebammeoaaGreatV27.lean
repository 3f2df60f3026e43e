/- Of package poset: Ahead and Comparable. -/
import Derived.Test.YtfpepoebammeoaaGreatV23
import Derived.Test.YtfpepoebammeoaaGreatV26
import Derived.Test.YtfpepoebammeoaaGreatV9
set_option linter.unusedVariables false
set_option linter.unusedSimpArgs false
namespace Go.Proofs.YtfpepoebammeoaaGreat
open Go.ChangeShapes Go.WideShapes Go.ChangeAt Go.RowKit

theorem infoBo : (Tryz.prog.info? 4).map (fun i => (i.zero, i.size, i.bytes)) = some (some (.bool false), 1, 1) := by kernel_rfl
structure OrdX (w : World) (p : Nat) (n : Int) (es : EdN) (T : List Nat) (pl : Nat → Nat) (W : EdN) : Prop where
  mem : OrdO w p n T pl W
  ok : OrdS n.toNat es T pl W
  tl : T.length ≤ 200000
  el : es.length ≤ 100000
  nb : n ≤ 400000
  plb : ∀ i, pl i ≤ 1000000
theorem OrdX.below {w w' : World} {p : Nat} {n : Int} {es : EdN} {T : List Nat} {pl : Nat → Nat} {W : EdN} (h : OrdX w p n es T pl W) (hb : Below w.heap.size w w') : OrdX w' p n es T pl W := ⟨h.mem.below hb, h.ok, h.tl, h.el, h.nb, h.plb⟩
theorem OrdX.asc {w : World} {p : Nat} {n : Int} {es : EdN} {T : List Nat} {pl : Nat → Nat} {W : EdN} (h : OrdX w p n es T pl W) : T.Pairwise (· < ·) := h.ok.tied.asc
theorem below_drewN {B q : Nat} {a w : World} (h : Below B a w) : Below B a (w.drewN q) := ⟨h.os, h.tape, h.output, h.size, h.block⟩
section
variable {p : Nat} {n : Int} {es : EdN} {T : List Nat} {pl : Nat → Nat} {W : EdN}
theorem placeX_any (t : Int) (w : World) (h : OrdX w p n es T pl W) (ht : hasB n t = true) :
    Calls Tryz.prog 31 #[.pointer (some ⟨p, 0, none⟩), .int .i64 t] w fun e w' => e = .returned (.int .i64 (plI T pl t)) ∧ ∃ q, w' = w.drewN q := by
  obtain ⟨h1, h2⟩ := hasB_iff.1 ht
  have := h.nb
  exact place_any p n T pl W t w h.mem h.asc (by have := h.tl; omega) h.plb (by omega) (by omega)
theorem betweenX_any (lo hi : Nat) (w0 w : World) (h : OrdX w0 p n es T pl W) (hb : Below w0.heap.size w0 w) (hlh : lo ≤ hi) :
    Calls Tryz.prog 32 #[.pointer (some ⟨p, 0, none⟩), .int .i64 (lo : Int), .int .i64 (hi : Int)] w fun e w' => ∃ v, e = .returned v ∧ RE w0 v (toI (betw W lo hi)) ∧ Below w.heap.size w w' :=
  between_any p n T pl W lo hi w0 w h.mem hb h.ok.sorted (by have := h.ok.wlen; have := h.el; omega) hlh
theorem hasX_any (t : Int) (w : World) (h : OrdX w p n es T pl W) : Calls Tryz.prog 30 #[.pointer (some ⟨p, 0, none⟩), .int .i64 t] w fun e w' => e = .returned (.bool (hasB n t)) ∧ w' = w := has_any p n t w h.mem.c0
theorem plX_lt {w : World} (h : OrdX w p n es T pl W) {x : Nat} (hx : x ∈ T) : pl (T.idxOf x) < T.length := h.ok.lt _ (List.idxOf_lt_length_of_mem hx)
theorem plI_le {w : World} (h : OrdX w p n es T pl W) {t : Int} (ht : 0 ≤ t) : plI T pl t < 200000 := by
  obtain ⟨x, rfl⟩ : ∃ x : Nat, t = (x : Int) := ⟨t.toNat, by omega⟩
  by_cases hx : x ∈ T
  · rw [plI_in hx]
    have := plX_lt h hx
    have := h.tl
    omega
  · rw [plI_out hx]; omega
theorem ahB_place {w : World} (h : OrdX w p n es T pl W) {a b : Int} (ha : hasB n a = true) (hb : hasB n b = true) : ahB n es a b = true ↔ 0 ≤ plI T pl a ∧ 0 ≤ plI T pl b ∧ Walk (EdR W) (plI T pl a).toNat (plI T pl b).toNat := by
  obtain ⟨a1, a2⟩ := hasB_iff.1 ha
  obtain ⟨b1, b2⟩ := hasB_iff.1 hb
  obtain ⟨x, rfl⟩ : ∃ x : Nat, a = (x : Int) := ⟨a.toNat, by omega⟩
  obtain ⟨y, rfl⟩ : ∃ y : Nat, b = (y : Int) := ⟨b.toNat, by omega⟩
  rw [ahB_iff, plI_tied, plI_tied, Int.toNat_natCast, Int.toNat_natCast, h.ok.ahead]
  constructor
  · rintro ⟨_, _, _, _, h1, h2, h3⟩
    refine ⟨h1, h2, ?_⟩
    rw [plI_in h1, plI_in h2, Int.toNat_natCast, Int.toNat_natCast]; exact h3
  · rintro ⟨h1, h2, h3⟩
    rw [plI_in h1, plI_in h2, Int.toNat_natCast, Int.toNat_natCast] at h3
    exact ⟨a1, a2, b1, b2, h1, h2, h3⟩
theorem betw_at {lo hi : Nat} {e : Nat × Nat} (h : e ∈ betw W lo hi) : e ∈ W ∧ lo ≤ e.1 ∧ e.1 < hi := by
  unfold betw at h
  obtain ⟨h1, h2⟩ := List.mem_filter.1 h
  rw [Bool.and_eq_true, decide_eq_true_iff, decide_eq_true_iff] at h2
  exact ⟨h1, h2.1, h2.2⟩
set_option maxHeartbeats 2000000 in
set_option maxRecDepth 100000 in
theorem ahead_any (a b : Int) (w : World) (h : OrdX w p n es T pl W) :
    Calls Tryz.prog 10 #[.pointer (some ⟨p, 0, none⟩), .int .i64 a, .int .i64 b] w fun e w' => e = .returned (.bool (ahB n es a b)) ∧ Below w.heap.size w w' := by
  have HAS := Lib.hid (fun t => hasX_any t w h)
  cases ha : hasB n a with
  | false =>
    rw [ah_out (.inl ha)]
    have HA := HAS.out a
    rw [ha] at HA
    have HA := Lib.hid HA
    go_enter Tryz.func10, Tryz.ntmps10
    go_wp2_with fail
    refine HA.out.mono ?_
    rintro e w2 ⟨rfl, hw2⟩
    obtain rfl := hw2.symm
    go_wp2_with fail
    go_ret
    exact ⟨rfl, Below.refl _ _⟩
  | true =>
  have HA := HAS.out a
  rw [ha] at HA
  have HA := Lib.hid HA
  cases hb : hasB n b with
  | false =>
    rw [ah_out (.inr hb)]
    have HB := HAS.out b
    rw [hb] at HB
    have HB := Lib.hid HB
    go_enter Tryz.func10, Tryz.ntmps10
    go_wp2_with fail
    refine HA.out.mono ?_
    rintro e w2 ⟨rfl, hw2⟩
    obtain rfl := hw2.symm
    go_wp2_with fail
    refine HB.out.mono ?_
    rintro e w2 ⟨rfl, hw2⟩
    obtain rfl := hw2.symm
    go_wp2_with fail
    go_ret
    exact ⟨rfl, Below.refl _ _⟩
  | true =>
  have HB := HAS.out b
  rw [hb] at HB
  have HB := Lib.hid HB
  have HP1 := Lib.hid (placeX_any a w h ha)
  have HP2 := Lib.hid (fun q => placeX_any b (w.drewN q) (h.below (below_drewN (Below.refl _ _))) hb)
  have HIFF := Lib.hid (ahB_place h ha hb)
  have hx1 := plI_le h (hasB_iff.1 ha).1
  have hx2 := plI_le h (hasB_iff.1 hb).1
  have hn4 := h.nb
  have hy1 : -400000 ≤ plI T pl a := by
    obtain ⟨x, rfl⟩ : ∃ x : Nat, a = (x : Int) := ⟨a.toNat, by have := (hasB_iff.1 ha).1; omega⟩
    have := (hasB_iff.1 ha).2
    by_cases hx : x ∈ T
    · rw [plI_in hx]; omega
    · rw [plI_out hx]; omega
  have hy2 : -400000 ≤ plI T pl b := by
    obtain ⟨x, rfl⟩ : ∃ x : Nat, b = (x : Int) := ⟨b.toNat, by have := (hasB_iff.1 hb).1; omega⟩
    have := (hasB_iff.1 hb).2
    by_cases hx : x ∈ T
    · rw [plI_in hx]; omega
    · rw [plI_out hx]; omega
  obtain ⟨P, hP⟩ : ∃ P, P = plI T pl a := ⟨_, rfl⟩
  obtain ⟨Q, hQ⟩ : ∃ Q, Q = plI T pl b := ⟨_, rfl⟩
  rw [← hP] at HP1 HIFF hx1 hy1
  rw [← hQ] at HP2 HIFF hx2 hy2
  obtain ⟨A, hAB⟩ : ∃ A, A = ahB n es a b := ⟨_, rfl⟩
  rw [← hAB] at HIFF ⊢
  have HX := Lib.hid h
  clear hP hQ hAB ha hb h HAS hn4
  by_cases hlo : P < 0
  · have hA : A = false := by
      cases A with
      | false => rfl
      | true => have := (HIFF.out.1 rfl).1; omega
    subst hA
    clear HIFF
    go_enter Tryz.func10, Tryz.ntmps10
    go_wp2_with fail
    refine HA.out.mono ?_
    rintro e w2 ⟨rfl, hw2⟩
    obtain rfl := hw2.symm
    go_wp2_with fail
    refine HB.out.mono ?_
    rintro e w2 ⟨rfl, hw2⟩
    obtain rfl := hw2.symm
    go_wp2_with fail
    refine HP1.out.mono ?_
    rintro e w2 ⟨rfl, q1, rfl⟩
    go_wp2_with fail
    refine (HP2.out q1).mono ?_
    rintro e w2 ⟨rfl, q2, rfl⟩
    go_wp2_with fail
    go_ret
    refine ⟨rfl, ?_⟩
    first | exact Below.refl _ _ | exact below_drewN (Below.refl _ _) | exact below_drewN (below_drewN (Below.refl _ _))
  by_cases hhi : P < Q
  · obtain ⟨lo, rfl⟩ : ∃ lo : Nat, P = (lo : Int) := ⟨P.toNat, by omega⟩
    obtain ⟨hi, rfl⟩ : ∃ hi : Nat, Q = (hi : Int) := ⟨Q.toNat, by omega⟩
    obtain ⟨d, hd⟩ : ∃ d, d = hi - lo := ⟨_, rfl⟩
    obtain ⟨m, hm⟩ : ∃ m, m = d + 1 := ⟨_, rfl⟩
    have hdI : (hi : Int) - (lo : Int) = (d : Int) := by omega
    have hmI : (d : Int) + 1 = (m : Int) := by omega
    have hA : A = metF (betw W lo hi) lo (betw W lo hi).length d := by
      rw [Bool.eq_iff_iff, HIFF.out, metF_iff, List.take_length, show lo + d = hi by omega, walk_betw HX.out.ok.up (Nat.le_refl _) (Nat.le_refl _), Int.toNat_natCast, Int.toNat_natCast]
      constructor
      · rintro ⟨_, _, h⟩; exact .inr h
      · rintro (h | h)
        · omega
        · exact ⟨by omega, by omega, h⟩
    have hsB : (betw W lo hi).Pairwise lexL := HX.out.ok.sorted.sublist List.filter_sublist
    have huB : ∀ e ∈ betw W lo hi, e.1 < e.2 ∧ lo ≤ e.1 ∧ e.1 < hi := fun e he => ⟨HX.out.ok.up e (betw_at he).1, (betw_at he).2⟩
    have HBT := Lib.hid (fun wz (hz : Below w.heap.size w wz) => betweenX_any lo hi w wz HX.out hz (by omega))
    have hbl : (betw W lo hi).length ≤ 100000 := by
      refine Nat.le_trans (List.length_filter_le _ _) ?_
      have := HX.out.ok.wlen; have := HX.out.el; omega
    obtain ⟨B, hB⟩ : ∃ B, B = betw W lo hi := ⟨_, rfl⟩
    rw [← hB] at hA hsB huB HBT hbl
    obtain ⟨K, hK⟩ : ∃ K, K = B.length := ⟨_, rfl⟩
    rw [← hK] at hA hbl
    have HMS := Lib.hid (fun (j : Nat) (e : Nat × Nat) (he : B[j]? = some e) (x : Nat) => metF_step hsB (fun e he => (huB e he).1) he (huB e (List.mem_of_getElem? he)).2.1 x)
    have HUB := Lib.hid huB
    have HKL := Lib.hid hK
    have HAM := Lib.hid hA
    have HI : Hid (∀ (j : Nat) e, B[j]? = some e → (toI B)[j]? = some ((e.1 : Int), (e.2 : Int))) := Lib.hid (fun j e he => by simp [toI, he])
    have HIL : Hid ((toI B).length = K) := Lib.hid (by rw [hK]; simp [toI])
    clear hA hsB huB hK hB HIFF
    have mk1 := run_make_row' (P := Tryz.prog) 55 4 (.bool false) 1 Tryz.underlying55 infoBo rfl .i64 .i64 m (by omega) (by omega)
    have hm0 : 0 < m := by omega
    obtain ⟨wm, hwm⟩ : ∃ wm : Nat → World, wm = fun q => (w.drewN q).alloc (.cells (madeCells #[.bool false] m) 4) := ⟨_, rfl⟩
    have mk2 : ∀ q, (Instr.makeSlice 55 (.int .i64 (m : Int)) (.int .i64 (m : Int))).run Tryz.prog (w.drewN q) = .ok (.slice (some ⟨w.heap.size, 0, none⟩) m m) (wm q) := fun q => by rw [hwm]; exact mk1 (w.drewN q)
    have hwrow : ∀ q, Row 1 w.heap.size (wm q) (.slice (some ⟨w.heap.size, 0, none⟩) m m) m (tbv (fun _ => false) m) := fun q => by rw [hwm]; exact made_boolk (by omega) (Nat.le_refl _) _
    have hwbel : ∀ q, Below w.heap.size w (wm q) := fun q => by rw [hwm]; exact (below_drewN (Below.refl _ _)).alloc (Nat.le_refl _) _
    have hc0 : ∀ q, (wm q).cell? ⟨w.heap.size, 0, none⟩ = some (.bool false) := fun q => ((hwrow q).cellF (tbv_at _ hm0)).1
    have hf0 : ∀ q, (wm q).frozen? ⟨w.heap.size, 0, none⟩ = false := fun q => ((hwrow q).cellF (tbv_at _ hm0)).2.1
    have hbl0 : decide ((lo : Int) < 0) = false := decide_eq_false (by omega)
    have HWR := Lib.hid hwrow
    have HWB := Lib.hid hwbel
    clear hwm mk1 hwrow hwbel
    have hlo9 : lo < 400000 := by omega
    have hhi9 : hi < 400000 := by omega
    clear hlo hy1 hy2 hx1 hx2
    have HD := Lib.hid hd
    have HM := Lib.hid hm
    clear hd hm
    go_enter Tryz.func10, Tryz.ntmps10
    go_wp2_with fail
    refine HA.out.mono ?_
    rintro e w2 ⟨rfl, hw2⟩
    obtain rfl := hw2.symm
    go_wp2_with fail
    refine HB.out.mono ?_
    rintro e w2 ⟨rfl, hw2⟩
    obtain rfl := hw2.symm
    go_wp2_with fail
    refine HP1.out.mono ?_
    rintro e w2 ⟨rfl, q1, rfl⟩
    go_wp2_with fail
    refine (HP2.out q1).mono ?_
    rintro e w2 ⟨rfl, q2, rfl⟩
    go_wp2_with fail
    refine (HBT.out _ ((HWB.out _).setCell (Nat.le_refl _) _)).mono ?_
    rintro e w5 ⟨v, rfl, hre, hb5⟩
    obtain ⟨va, vc, hv9⟩ := hre.form
    rw [HIL.out] at hv9
    subst hv9
    have hrow0 := ((HWR.out (q1 + q2)).put (j := 0) (by rw [tbv_len]; exact hm0) (.bool true)).below hb5
    rw [tbv_set _ (metF B lo 0) hm0 true (fun i _ => by
      rw [metF_first]
      by_cases e : i = 0
      · subst e; rfl
      · rw [if_neg e, beq_eq_false_iff_ne]; exact e)] at hrow0
    have HRE := Lib.hid hre
    have HR0 := Lib.hid hrow0
    have HB0 := Lib.hid ((((HWB.out (q1 + q2)).setCell (p := ⟨w.heap.size, 0, none⟩) (Nat.le_refl _) (.bool true))).trans (hb5.mono (by have := (HWB.out (q1 + q2)).size; simpa [World.setCell] using this)))
    clear hre hrow0 hb5 hc0 hf0 mk2
    go_wp2_with fail
    go_loopw [47] (fun jv wr => ∃ j : Nat, jv = .int .i64 (j : Nat) ∧ j ≤ K ∧ Hid (Row 1 w.heap.size wr (.slice (some ⟨w.heap.size, 0, none⟩) m m) m (tbv (metF B lo j) m)) ∧ Hid (Below w.heap.size w wr)) (fun jv _ => K - (intOf jv).toNat)
    case atStart => exact ⟨0, rfl, Nat.zero_le _, HR0, HB0⟩
    case round =>
      obtain ⟨j, rfl, hj, HO, HB⟩ := hrel
      by_cases hlj : j < K
      · obtain ⟨e, he⟩ : ∃ e, B[j]? = some e := ⟨B[j]'(by rw [← HKL.out]; exact hlj), by simp⟩
        obtain ⟨he1, he2, he3⟩ := HUB.out e (List.mem_of_getElem? he)
        have HST := Lib.hid (HMS.out j e he)
        obtain ⟨x, y⟩ := e
        obtain ⟨vb, vo, rfl, hvb, hvc1, hvc2, d0, d1⟩ := HRE.out.at (HI.out j _ he)
        have d0 := (HB.out.cell (p := ⟨vb, _, none⟩) hvb).trans d0
        have d1 := (HB.out.cell (p := ⟨vb, _, none⟩) hvb).trans d1
        simp only at d0 d1 he1 he2 he3 HST
        obtain ⟨xi, hxi⟩ : ∃ xi, xi = x - lo := ⟨_, rfl⟩
        have hxI : (x : Int) - (lo : Int) = (xi : Int) := by omega
        have hxm : xi < m := by have := HD.out; have := HM.out; omega
        obtain ⟨ca, fa, _, hsz, _⟩ := HO.out.cellF (tbv_at (metF B lo j) hxm)
        unfold maxLen at hvc2
        have HHE := Lib.hid he
        clear he
        by_cases hyh : y ≤ hi
        · have hyb : decide ((y : Int) ≤ (hi : Int)) = true := decide_eq_true (by omega)
          cases hmt : metF B lo j xi with
          | true =>
            rw [hmt] at ca
            obtain ⟨yi, hyi⟩ : ∃ yi, yi = y - lo := ⟨_, rfl⟩
            have hyI : (y : Int) - (lo : Int) = (yi : Int) := by omega
            have hym : yi < m := by have := HD.out; have := HM.out; omega
            obtain ⟨cy, fy, _⟩ := HO.out.cellF (tbv_at (metF B lo j) hym)
            have hp := HO.out.put (j := yi) (by rw [tbv_len]; exact hym) (.bool true)
            rw [tbv_set _ (metF B lo (j + 1)) hym true (fun i hi2 => by
              rw [HST.out i, ← hxi, hmt]
              by_cases e : i = yi
              · rw [if_pos e, if_pos ⟨by omega, rfl⟩]
              · rw [if_neg e, if_neg (fun c => e (by omega))])] at hp
            have HP := Lib.hid hp
            have HB9 := Lib.hid (HB.out.setCell (p := ⟨w.heap.size, yi, none⟩) (Nat.le_refl _) (.bool true))
            clear hp hyi hxi hmt
            go_wp2_with fail
            exact ⟨⟨j + 1, by go_num, by omega, Lib.hid (HP.out.alloc _), Lib.hid (HB9.out.alloc HB9.out.size _)⟩, by simp [intOf]; omega⟩
          | false =>
            rw [hmt] at ca
            have HP := Lib.hid (show Row 1 w.heap.size wr (.slice (some ⟨w.heap.size, 0, none⟩) m m) m (tbv (metF B lo (j + 1)) m) by
              rw [tbv_congr (g := metF B lo j) (fun i hi2 => by
                rw [HST.out i, ← hxi, hmt, if_neg (fun c => by cases c.2)])]
              exact HO.out)
            clear hxi hmt
            go_wp2_with fail
            exact ⟨⟨j + 1, by go_num, by omega, Lib.hid (HP.out.alloc _), Lib.hid (HB.out.alloc HB.out.size _)⟩, by simp [intOf]; omega⟩
        · have hyb : decide ((y : Int) ≤ (hi : Int)) = false := decide_eq_false (by omega)
          have HP := Lib.hid (show Row 1 w.heap.size wr (.slice (some ⟨w.heap.size, 0, none⟩) m m) m (tbv (metF B lo (j + 1)) m) by
            rw [tbv_congr (g := metF B lo j) (fun i hi2 => by
              rw [HST.out i, if_neg (fun c => by have := HD.out; have := HM.out; omega)])]
            exact HO.out)
          clear hxi
          go_wp2_with fail
          exact ⟨⟨j + 1, by go_num, by omega, Lib.hid (HP.out.alloc _), Lib.hid (HB.out.alloc HB.out.size _)⟩, by simp [intOf]; omega⟩
      · have hje : K = j := by omega
        subst hje
        have hdm : d < m := by have := HM.out; omega
        obtain ⟨cd, fd, _⟩ := HO.out.cellF (tbv_at (metF B lo K) hdm)
        rw [← HAM.out] at cd
        go_wp2_with fail
        go_ret
        exact ⟨rfl, HB.out⟩
  · have hA : A = false := by
      cases A with
      | false => rfl
      | true =>
        obtain ⟨h1, h2, h3⟩ := HIFF.out.1 rfl
        have := walk_up HX.out.ok.up h3
        omega
    subst hA
    clear HIFF
    have hlo2 : 0 ≤ P := by omega
    have hhi2 : Q ≤ P := by omega
    go_enter Tryz.func10, Tryz.ntmps10
    go_wp2_with fail
    refine HA.out.mono ?_
    rintro e w2 ⟨rfl, hw2⟩
    obtain rfl := hw2.symm
    go_wp2_with fail
    refine HB.out.mono ?_
    rintro e w2 ⟨rfl, hw2⟩
    obtain rfl := hw2.symm
    go_wp2_with fail
    refine HP1.out.mono ?_
    rintro e w2 ⟨rfl, q1, rfl⟩
    go_wp2_with fail
    refine (HP2.out q1).mono ?_
    rintro e w2 ⟨rfl, q2, rfl⟩
    go_wp2_with fail
    go_ret
    refine ⟨rfl, ?_⟩
    first | exact Below.refl _ _ | exact below_drewN (Below.refl _ _) | exact below_drewN (below_drewN (Below.refl _ _))
end
end Go.Proofs.YtfpepoebammeoaaGreat
