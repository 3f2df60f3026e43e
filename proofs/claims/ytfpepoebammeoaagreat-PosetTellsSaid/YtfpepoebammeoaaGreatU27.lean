/- Of package poset: lay. -/
import Derived.Deep.RegionLaw
import Derived.Test.YtfpepoebammeoaaGreatU24
import Derived.Test.YtfpepoebammeoaaGreatU26
import Derived.Test.YtfpepoebammeoaaGreatU6
set_option linter.unusedVariables false
set_option linter.unusedSimpArgs false
namespace Go.Proofs.YtfpepoebammeoaaGreat
open Go.ChangeShapes Go.WideShapes Go.ChangeAt Go.RowKit

def BoardM (w : World) (bv : Value) (A : List Nat) (D : Nat) (E : EdN) : Prop := ∃ tv ev, bv = .agg #[tv, .int .i64 (D : Int), ev] ∧ RI w tv (nl A) ∧ RE w ev (toI E)
theorem BoardM.below {w w' : World} {bv : Value} {A : List Nat} {D : Nat} {E : EdN} (h : BoardM w bv A D E) (hb : Below w.heap.size w w') : BoardM w' bv A D E := by
  obtain ⟨tv, ev, e, h1, h2⟩ := h
  exact ⟨tv, ev, e, h1.below hb, h2.below hb⟩
def BoxL (w : World) (p : Nat) (W : World) : Prop := (∀ j, j ≠ 2 → W.cell? ⟨p, j, none⟩ = w.cell? ⟨p, j, none⟩) ∧ ∀ j, W.frozen? ⟨p, j, none⟩ = w.frozen? ⟨p, j, none⟩
theorem BoxL.refl (w : World) (p : Nat) : BoxL w p w := ⟨fun _ _ => rfl, fun _ => rfl⟩
theorem BoxL.off {w W W' : World} {p : Nat} {Z : Nat → Prop} (h : BoxL w p W) (hp : p < W.heap.size) (ho : Off Z W W') (hz : ¬ Z p) : BoxL w p W' :=
  ⟨fun j hj => (ho.cell (p := ⟨p, j, none⟩) hp hz).trans (h.1 j hj), fun j => (ho.frozen (p := ⟨p, j, none⟩) hp hz).trans (h.2 j)⟩
theorem BoxL.set {w W : World} {p : Nat} (h : BoxL w p W) (x : Value) : BoxL w p (W.setCell ⟨p, 2, none⟩ x) :=
  ⟨fun j hj => (World.cell?_setCell_other _ _ _ _ (fun e => hj (by injection e with _ e _; exact e.symm))).trans (h.1 j hj), fun j => by rw [World.frozen?_setCell]; exact h.2 j⟩
theorem lay_nil (v : Value) (w : World) : Calls Tryz.prog 35 #[.pointer none, v] w fun e w' => ∃ bv, e = .returned bv ∧ BoardM w' bv [] 0 [] ∧ Below w.heap.size w w' := by
  go_enter Tryz.func35, Tryz.ntmps35
  go_wp2_with fail
  refine bodyPost_ret (v := .agg #[.slice none 0 0, .int .i64 0, .slice none 0 0]) (by simp [results, Tryz.results35, go_sem]) rfl ?_
  exact ⟨_, rfl, ⟨_, _, rfl, .inl ⟨rfl, _, _, rfl⟩, .inl ⟨rfl, _, _, rfl⟩⟩, (Below.refl _ _).alloc (Nat.le_refl _) _⟩
section
variable {p : Nat} {n : Int} {es : EdN} {T : List Nat} {pl : Nat → Nat} {W : EdN}
set_option maxHeartbeats 4000000 in
set_option maxRecDepth 100000 in
theorem lay_any (l : List Int) (v : Value) (w : World) (h : OrdX w p n es T pl W) (hr : RI w v l) (hl : l.length ≤ 100000) :
    Calls Tryz.prog 35 #[.pointer (some ⟨p, 0, none⟩), v] w fun e w' => ∃ bv D rk E, e = .returned bv ∧ BoardM w' bv (askN (hasB n) (plI T pl) l) D E ∧ BoardS (fun i j => AheadK (EdR es) ((askN (hasB n) (plI T pl) l).getD i 0) ((askN (hasB n) (plI T pl) l).getD j 0)) (askN (hasB n) (plI T pl) l).length D rk E ∧ D ≤ 200000 ∧ E.length ≤ 100000 ∧ Below w.heap.size w w' := by
  have hAS := askN_is n (plI T pl) l
  have hAL : (askN (hasB n) (plI T pl) l).length ≤ 100000 := by
    unfold askN
    rw [List.length_map, (sortI_perm _).length_eq]
    have := ask_len (hasB n) (plI T pl) l l.length
    rw [List.take_length] at this
    omega
  obtain ⟨w1, hw1⟩ : ∃ w1, w1 = w.alloc (.cells #[.slice none 0 0, .int .i64 0, .slice none 0 0] 59) := ⟨_, rfl⟩
  have hb1 : Below w.heap.size w w1 := by rw [hw1]; exact (Below.refl _ _).alloc (Nat.le_refl _) _
  have HASK := Lib.hid (asked_any l v w1 (h.below hb1) (hr.below hb1) hl)
  obtain ⟨P, hP⟩ : ∃ P, P = plI T pl := ⟨_, rfl⟩
  obtain ⟨A, hA⟩ : ∃ A, A = askN (hasB n) (plI T pl) l := ⟨_, rfl⟩
  rw [← hA] at hAS hAL HASK ⊢
  have HSTR := Lib.hid (fun tv w2 (hb2 : Below w.heap.size w w2) (hri : RI w2 tv (nl A)) => stretch_any A tv w2 (h.below hb2) hri hAS.lt hAL)
  have HPLC := Lib.hid (fun t wz (hz : Below w.heap.size w wz) ht => placeX_any t wz (h.below hz) ht)
  have HBTW := Lib.hid (fun lo hi wz (hz : Below w.heap.size w wz) (hlh : lo ≤ hi) => betweenX_any lo hi w wz h hz hlh)
  have HBRD := Lib.hid (fun lo hi (hs : StrS (plI T pl) A lo hi) => lay_board h.ok hAS hs)
  have HWL : Hid (∀ lo hi, (betw W lo hi).length ≤ 100000) := Lib.hid (fun lo hi => by
    refine Nat.le_trans (List.length_filter_le _ _) ?_
    have := h.ok.wlen; have := h.el; omega)
  have HWU : Hid (∀ lo hi, ∀ e ∈ betw W lo hi, e.1 < e.2 ∧ lo ≤ e.1 ∧ e.1 < hi) := Lib.hid (fun lo hi e he => ⟨h.ok.up e (betw_at he).1, (betw_at he).2⟩)
  have HPB : Hid (∀ t, hasB n t = true → -400000 ≤ P t ∧ P t < 200000) := Lib.hid (fun t ht => by
    rw [hP]
    refine ⟨?_, plI_le h (hasB_iff.1 ht).1⟩
    obtain ⟨x, rfl⟩ : ∃ x : Nat, t = (x : Int) := ⟨t.toNat, by have := (hasB_iff.1 ht).1; omega⟩
    have := (hasB_iff.1 ht).2
    have := h.nb
    by_cases hx : x ∈ T
    · rw [plI_in hx]; omega
    · rw [plI_out hx]; omega)
  rw [← hP] at HSTR HPLC HBRD
  rw [← hP] at hAS
  have HAS := Lib.hid hAS
  have HB1 := Lib.hid hb1
  have HW1 := Lib.hid hw1
  have HPP := Lib.hid hP
  obtain ⟨L, hL⟩ : ∃ L, L = A.length := ⟨_, rfl⟩
  rw [← hL] at hAL
  have HLL := Lib.hid hL
  clear hP hA hAS hb1 hw1 h hr hl hL
  go_enter Tryz.func35, Tryz.ntmps35
  go_wp2_with fail
  rw [← HW1.out]
  refine HASK.out.mono ?_
  rintro e w2 ⟨tv, rfl, hri2, hown2, hb2⟩
  obtain ⟨ta, tc, htv⟩ := hri2.form
  rw [nl_len, ← HLL.out] at htv
  subst htv

  have HB2 := Lib.hid (HB1.out.trans (hb2.mono HB1.out.size))
  have HRI2 := Lib.hid hri2
  have hs12 := hb2.size
  have HBB2 := Lib.hid hb2
  have HOWN2 := Lib.hid hown2
  clear hri2 hb2 hown2
  go_wp2_with fail
  refine (HSTR.out _ w2 HB2.out HRI2.out).mono ?_
  rintro e w3 ⟨lo, hi, rfl, hss, hb3⟩
  have hlh := hss.1
  have hhi := hss.2.1
  obtain ⟨D, hD⟩ : ∃ D, D = hi - lo := ⟨_, rfl⟩
  have hdI : (hi : Int) - (lo : Int) = (D : Int) := by omega
  have hD4 : D ≤ 200000 := by omega
  have HSS := Lib.hid hss
  have HB3 := Lib.hid (HB2.out.trans (hb3.mono HB2.out.size))
  have HBB3 := Lib.hid hb3
  have HRI3 := Lib.hid (HRI2.out.below hb3)
  have HDD := Lib.hid hD
  obtain ⟨q, hq⟩ : ∃ q, q = w3.heap.size := ⟨_, rfl⟩
  have mk1 := run_make_row' (P := Tryz.prog) 23 3 (.int .i64 0) 8 Tryz.underlying23 infoIk rfl .i64 .i64 D (by omega) (by omega)
  clear hss hb3 hD
  go_wp2_with fail
  rw [← hq]
  obtain ⟨w5, hw5⟩ : ∃ w5, w5 = (w3.alloc (.cells #[.slice ta L tc, .int .i64 (D : Int), .slice none 0 0] 59)).alloc (.cells (madeCells #[.int .i64 0] D) 3) := ⟨_, rfl⟩
  rw [← hw5]
  have hB35 : Below w3.heap.size w3 w5 := by rw [hw5]; exact ((Below.refl _ _).alloc (Nat.le_refl _) _).alloc (by simp) _
  have hrow5 : Row 1 (q + 1) w5 (.slice (some ⟨q + 1, 0, none⟩) D D) D (bkv (aloK 0) D) := by
    have : bkv (aloK 0) D = iv (List.replicate D 0) := by
      rw [bkv_congr (g := fun _ => 0) (fun v _ => by simp [aloK]), ← bkv_zero]
    rw [this, hw5]
    have h := made_intk (w := w3.alloc (.cells #[.slice ta L tc, .int .i64 (D : Int), .slice none 0 0] 59)) (B := q + 1) (n := D) (by omega) (by rw [hq]; simp) 3
    have e : (w3.alloc (.cells #[.slice ta L tc, .int .i64 (D : Int), .slice none 0 0] 59)).heap.size = q + 1 := by rw [hq]; simp
    rw [e] at h
    exact h
  have hbox : ∀ j, w5.cell? ⟨q, j, none⟩ = (#[.slice ta L tc, .int .i64 (D : Int), .slice none 0 0] : Array Value)[j]? ∧ w5.frozen? ⟨q, j, none⟩ = false := fun j => by
    rw [hw5, hq]
    refine ⟨?_, ?_⟩
    · rw [World.cell?_alloc_past _ _ _ (by simp), World.cell?_alloc_at _ _ _ _ rfl]
    · rw [World.frozen?_alloc_past _ _ _ (by simp), World.frozen?_alloc_at _ _ _ _ rfl]
  have hs5 : w5.heap.size = q + 2 := by rw [hw5, hq]; simp
  have hq1 : w1.heap.size ≤ q := by
    have h1 := HBB2.out.size
    have h2 : w2.heap.size ≤ w3.heap.size := HBB3.out.size
    omega
  have HR5 := Lib.hid hrow5
  have HBX5 := Lib.hid hbox
  have HS5 := Lib.hid hs5
  have HQ1 := Lib.hid hq1
  have HB35 := Lib.hid hB35
  have HW5 := Lib.hid hw5
  have HQ := Lib.hid hq
  have HHI : Hid (lo ≤ hi ∧ hi ≤ 200000) := Lib.hid ⟨hlh, hhi⟩
  have HB5 := Lib.hid (HB3.out.trans (hB35.mono HB3.out.size))
  have HRI5 := Lib.hid (HRI3.out.below hB35)
  have HB15 : Hid (Below w1.heap.size w1 w5) := Lib.hid ((HBB2.out.trans (HBB3.out.mono HBB2.out.size)).trans (hB35.mono (Nat.le_trans HBB2.out.size HBB3.out.size)))
  have HTB : Hid (∀ i, (Value.slice ta L tc).ownBlock = some i → w1.heap.size ≤ i ∧ i < q) := Lib.hid (fun i hi => by
    have h1 := HOWN2.out i hi
    have h2 := HBB3.out.size
    omega)
  clear hq mk1 hw5 hB35 hrow5 hbox hs5 hq1 hs12
  go_loopw [38] (fun jv wr => ∃ j : Nat, jv = .int .i64 (j : Nat) ∧ j ≤ D ∧ Hid (Row 1 (q + 1) wr (.slice (some ⟨q + 1, 0, none⟩) D D) D (bkv (aloK j) D)) ∧ Hid (Off (fun i => i = q + 1) w5 wr)) (fun jv _ => D - (intOf jv).toNat)
  case atStart => exact ⟨0, rfl, Nat.zero_le _, HR5, Lib.hid (Off.refl _ _)⟩
  case round =>
    obtain ⟨j, rfl, hj, HO, HOF⟩ := hrel
    by_cases hlj : j < D
    · obtain ⟨cp, fp, _⟩ := HO.out.cellF (bkv_at (aloK j) hlj)
      have hp := HO.out.put (j := j) (by rw [bkv_len]; exact hlj) (.int .i64 (j : Int))
      rw [aloK_step hlj] at hp
      have HP := Lib.hid hp
      have HOF9 := Lib.hid (HOF.out.setCell (p := ⟨q + 1, j, none⟩) (.inr rfl) (.int .i64 (j : Int)))
      clear hp
      go_wp2_with fail
      exact ⟨⟨j + 1, by go_num, by omega, HP, HOF9⟩, by simp [intOf]; omega⟩
    · have hje : D = j := by omega
      have HOE := Lib.hid (show Row 1 (q + 1) wr (.slice (some ⟨q + 1, 0, none⟩) D D) D (bkv (numK P A lo D 0) D) by
        have h := HO.out
        rw [← hje, aloK_all, bkv_congr (f := id) (g := numK P A lo D 0) (fun v _ => (numK_zero P A lo D v).symm)] at h
        exact h)
      subst hje
      clear HO
      obtain ⟨wy, rfl⟩ : ∃ wy, wy = wr := ⟨wr, rfl⟩
      go_wp2_with fail
      go_loopw [48] (fun jv wz => ∃ j : Nat, jv = .int .i64 (j : Nat) ∧ j ≤ L ∧ Hid (Row 1 (q + 1) wz (.slice (some ⟨q + 1, 0, none⟩) D D) D (bkv (numK P A lo D j) D)) ∧ Hid (Off (fun i => i = q + 1) w5 wz)) (fun jv _ => L - (intOf jv).toNat)
      case atStart => exact ⟨0, rfl, Nat.zero_le _, HOE, HOF⟩
      case round =>
        obtain ⟨j, rfl, hj, HO, HOF2⟩ := hrel
        have hsz5 := HOF2.out.size
        have hs5 := HS5.out
        have HBZ : Hid (Below w.heap.size w wr) := Lib.hid (HB5.out.trans (off_below HOF2.out (fun i hi => by rw [hi]; have := HQ1.out; have := HB1.out.size; omega) HB5.out.size))
        have hbx0 := (HOF2.out.cell (p := ⟨q, 0, none⟩) (by show q < _; omega) (by simp)).trans (HBX5.out 0).1
        have hbx1 := (HOF2.out.cell (p := ⟨q, 1, none⟩) (by show q < _; omega) (by simp)).trans (HBX5.out 1).1
        have hbx2 := (HOF2.out.cell (p := ⟨q, 2, none⟩) (by show q < _; omega) (by simp)).trans (HBX5.out 2).1
        have hbxf := (HOF2.out.frozen (p := ⟨q, 2, none⟩) (by show q < _; omega) (by simp)).trans (HBX5.out 2).2
        simp only [List.getElem?_toArray, List.getElem?_cons_zero, List.getElem?_cons_succ] at hbx0 hbx1 hbx2
        have HRZ : Hid (RI wr (.slice ta L tc) (nl A)) := Lib.hid (HRI5.out.off HOF2.out (fun b hb e => by have := HTB.out b hb; omega) (fun b o c k e1 e2 => by
          have := HTB.out b (by rw [e1]; rfl)
          omega))
        by_cases hlj : j < L
        · obtain ⟨t, ht⟩ : ∃ t, A[j]? = some t := ⟨A[j]'(by rw [← HLL.out]; exact hlj), by simp⟩
          have HNS := Lib.hid (fun i => numK_step lo D HAS.out.inj ht i)
          have hmem := List.mem_of_getElem? ht
          have hhas : hasB n (t : Int) = true := hasB_iff.2 ⟨by omega, HAS.out.lt t hmem⟩
          obtain ⟨vb, vo, rfl, hvb, hvc1, hvc2, ct⟩ := HRZ.out.at (nl_at ht)
          have HP := Lib.hid (HPLC.out (t : Int) wr HBZ.out hhas)
          obtain ⟨hp1, hp2⟩ := HPB.out (t : Int) hhas
          have hst : 0 ≤ P (t : Int) → (lo : Int) ≤ P (t : Int) ∧ P (t : Int) < (hi : Int) := HSS.out.2.2.2 t hmem
          unfold maxLen at hvc2
          obtain ⟨x, hx⟩ : ∃ x, x = P (t : Int) := ⟨_, rfl⟩
          rw [← hx] at HP hp1 hp2 hst
          have HPX := Lib.hid hx
          clear ht hhas hx hmem
          by_cases hx0 : x < 0
          · have HO9 := Lib.hid (show Row 1 (q + 1) wr (.slice (some ⟨q + 1, 0, none⟩) D D) D (bkv (numK P A lo D (j + 1)) D) by
              rw [bkv_congr (g := numK P A lo D j) (fun i _ => by rw [HNS.out i, if_neg (by rw [← HPX.out]; omega)])]
              exact HO.out)
            have hxb : decide (x ≥ 0) = false := decide_eq_false (by omega)
            go_wp2_with fail
            refine HP.out.mono ?_
            rintro e w8 ⟨rfl, q1, rfl⟩
            go_wp2_with fail
            exact ⟨⟨j + 1, by go_num, by omega, Lib.hid HO9.out.drewN, Lib.hid HOF2.out.drewN⟩, by simp [intOf]; omega⟩
          · obtain ⟨y, rfl⟩ : ∃ y : Nat, x = (y : Int) := ⟨x.toNat, by omega⟩
            obtain ⟨hs1, hs2⟩ := hst (by omega)
            obtain ⟨i, hi9⟩ : ∃ i, i = y - lo := ⟨_, rfl⟩
            have hyI : (y : Int) - (lo : Int) = (i : Int) := by omega
            have hiD : i < D := by omega
            have hxb : decide ((y : Int) ≥ 0) = true := decide_eq_true (by omega)
            obtain ⟨cn, fn, _⟩ := HO.out.cellF (bkv_at (numK P A lo D j) hiD)
            obtain ⟨g, hg⟩ : ∃ g, g = D + j := ⟨_, rfl⟩
            have hDj : (D : Int) + (j : Int) = (g : Int) := by omega
            have hp := HO.out.put (j := i) (by rw [bkv_len]; exact hiD) (.int .i64 (g : Int))
            rw [bkv_set _ hiD, bkv_congr (g := numK P A lo D (j + 1)) (fun v _ => by
              rw [HNS.out v, ← HPX.out, ← hg]
              unfold upd
              by_cases e : v = i
              · rw [if_pos e, if_pos (by omega)]
              · rw [if_neg e, if_neg (by omega)])] at hp
            have HP9 := Lib.hid hp
            have HOF9 := Lib.hid (HOF2.out.setCell (p := ⟨q + 1, i, none⟩) (.inr rfl) (.int .i64 (g : Int)))
            clear hp hx0 hp1 hp2 hst hi9 hg
            go_wp2_with fail
            refine HP.out.mono ?_
            rintro e w8 ⟨rfl, q1, rfl⟩
            go_wp2_with fail
            exact ⟨⟨j + 1, by go_num, by omega, Lib.hid HP9.out.drewN, Lib.hid HOF9.out.drewN⟩, by simp [intOf]; omega⟩
        · have hje : L = j := by omega
          have HN := Lib.hid (show Row 1 (q + 1) wr (.slice (some ⟨q + 1, 0, none⟩) D D) D (bkv (numK P A lo D L) D) by rw [hje]; exact HO.out)
          obtain ⟨f, hf⟩ : ∃ f, f = numK P A lo D L := ⟨_, rfl⟩
          rw [← hf] at HN
          have HFF : Hid (BoardS (fun i j => AheadK (EdR es) (A.getD i 0) (A.getD j 0)) A.length D (rkB P A lo D) (layE f lo hi (betw W lo hi))) := Lib.hid (by
            have := HBRD.out lo hi HSS.out
            rw [hf, HLL.out, HDD.out]
            exact this)
          have HBT := Lib.hid (HBTW.out lo hi wr HBZ.out HHI.out.1)
          have HWL9 := Lib.hid (HWL.out lo hi)
          have HWU9 := Lib.hid (HWU.out lo hi)
          obtain ⟨B, hB⟩ : ∃ B, B = betw W lo hi := ⟨_, rfl⟩
          rw [← hB] at HFF HBT HWL9 HWU9
          obtain ⟨K, hK⟩ : ∃ K, K = B.length := ⟨_, rfl⟩
          rw [← hK] at HWL9
          have hK9 := HWL9.out
          have HKL := Lib.hid hK
          have HI : Hid (∀ (j : Nat) e, B[j]? = some e → (toI B)[j]? = some ((e.1 : Int), (e.2 : Int))) := Lib.hid (fun j e he => by simp [toI, he])
          have HIL : Hid ((toI B).length = K) := Lib.hid (by rw [hK]; simp [toI])
          have HB1R : Hid (Below w1.heap.size w1 wr) := Lib.hid (HB15.out.trans (off_below HOF2.out (fun i hi => by rw [hi]; have := HQ1.out; omega) HB15.out.size))
          have HBX := Lib.hid (And.intro hbx0 (And.intro hbx1 (And.intro hbx2 hbxf)))
          have HSZ := Lib.hid (show q + 1 < wr.heap.size by omega)
          subst hje
          clear hf hB hK HO hlj hj hbx0 hbx1 hbx2 hbxf hsz5 hs5
          go_wp2_with fail
          refine HBT.out.mono ?_
          rintro e w7 ⟨v9, rfl, hre, hb7⟩
          obtain ⟨va, vc, hv9⟩ := hre.form
          rw [HIL.out] at hv9
          subst hv9
          have HRE := Lib.hid hre
          have hq7 : q + 1 < wr.heap.size := HSZ.out
          have HN7 := Lib.hid (HN.out.below hb7)
          have HB7 := Lib.hid (HBZ.out.trans (hb7.mono HBZ.out.size))
          have HB17 := Lib.hid (HB1R.out.trans (hb7.mono HB1R.out.size))
          have HR7 := Lib.hid (HRZ.out.below hb7)
          have y0 := (hb7.cell (p := ⟨q, 0, none⟩) (by show q < _; omega)).trans HBX.out.1
          have y1 := (hb7.cell (p := ⟨q, 1, none⟩) (by show q < _; omega)).trans HBX.out.2.1
          have y2 := (hb7.cell (p := ⟨q, 2, none⟩) (by show q < _; omega)).trans HBX.out.2.2.1
          have yf := (hb7.frozen (p := ⟨q, 2, none⟩) (by show q < _; omega)).trans HBX.out.2.2.2
          have HY := Lib.hid (And.intro y0 (And.intro y1 (And.intro y2 yf)))
          have hs7 := hb7.size
          obtain ⟨Z, hZ⟩ : ∃ Z, Z = w7.heap.size := ⟨_, rfl⟩
          have hqZ : q + 1 < Z := by omega
          have HZ := Lib.hid hZ
          clear hre hb7 y0 y1 y2 yf hs7 hZ hq7
          go_wp2_with fail
          go_loopw [73] (fun jv wr => ∃ (j k : Nat) (ev : Value), jv = .int .i64 (j : Nat) ∧ j ≤ K ∧ k ≤ j ∧ Hid (k = (layE f lo hi (B.take j)).length) ∧ Hid (Row 2 Z wr ev k (evs (toI (layE f lo hi (B.take j))))) ∧ wr.cell? ⟨q, 2, none⟩ = some ev ∧ Hid (BoxL w7 q wr) ∧ Hid (Off (fun i => i = q) w7 wr)) (fun jv _ => K - (intOf jv).toNat)
          case atStart => exact ⟨0, 0, .slice none 0 0, rfl, Nat.zero_le _, Nat.le_refl _, Lib.hid (by simp [layE]), Lib.hid (by simpa [layE, evs, toI] using Row.nil 2 Z w7), HY.out.2.2.1, Lib.hid (BoxL.refl _ _), Lib.hid (Off.refl _ _)⟩
          case round =>
            obtain ⟨j, k, ev, rfl, hj, hkj, HK, HO, c2, HBXL, HOF⟩ := hrel
            obtain ⟨ea, ec, rfl⟩ := HO.out.form
            have hszr := HOF.out.size
            have hszZ := HZ.out
            have f2 := (HBXL.out.2 2).trans HY.out.2.2.2
            by_cases hlj : j < K
            · obtain ⟨e, he⟩ : ∃ e, B[j]? = some e := ⟨B[j]'(by rw [← HKL.out]; exact hlj), by simp⟩
              obtain ⟨he1, he2, he3⟩ := HWU9.out e (List.mem_of_getElem? he)
              have HTK := Lib.hid (layE_take (f := f) (lo := lo) (hi := hi) he)
              obtain ⟨x, y⟩ := e
              obtain ⟨vb2, vo2, rfl, hvb2, hvc3, hvc4, d0, d1⟩ := HRE.out.at (HI.out j _ he)
              have hvbq : vb2 < w.heap.size := hvb2
              have d0 := ((HB7.out.trans (HOF.out.below (B := w.heap.size) (fun i hi => by rw [hi]; have := HQ1.out; have := HB1.out.size; omega) HB7.out.size)).cell (p := ⟨vb2, _, none⟩) hvb2).trans d0
              have d1 := ((HB7.out.trans (HOF.out.below (B := w.heap.size) (fun i hi => by rw [hi]; have := HQ1.out; have := HB1.out.size; omega) HB7.out.size)).cell (p := ⟨vb2, _, none⟩) hvb2).trans d1
              simp only at d0 d1 he1 he2 he3 HTK
              unfold maxLen at hvc4
              clear he
              by_cases hyh : y < hi
              · have hyb : decide ((y : Int) < (hi : Int)) = true := decide_eq_true (by omega)
                obtain ⟨xi, hxi⟩ : ∃ xi, xi = x - lo := ⟨_, rfl⟩
                have hxI : (x : Int) - (lo : Int) = (xi : Int) := by omega
                have hxD : xi < D := by have := HDD.out; omega
                have hwx : IntKind.i64.wrap (xi : Int) = (xi : Int) := by rw [IntKind.wrap_i64]; omega
                have hxDI : (xi : Int) < (D : Int) := by omega
                obtain ⟨yi, hyi⟩ : ∃ yi, yi = y - lo := ⟨_, rfl⟩
                have hyI : (y : Int) - (lo : Int) = (yi : Int) := by omega
                have hyD : yi < D := by have := HDD.out; omega
                have hwy : IntKind.i64.wrap (yi : Int) = (yi : Int) := by rw [IntKind.wrap_i64]; omega
                have hyDI : (yi : Int) < (D : Int) := by omega
                have hNr := HN7.out.off HOF.out (fun b hb e => by
                  have e2 : q + 1 = b := by simpa [Value.ownBlock] using hb
                  omega)
                obtain ⟨cx, _, _⟩ := hNr.cellF (bkv_at f hxD)
                obtain ⟨cy, _, _⟩ := hNr.cellF (bkv_at f hyD)
                obtain ⟨fx, hfx⟩ : ∃ fx, fx = f xi := ⟨_, rfl⟩
                obtain ⟨fy, hfy⟩ : ∃ fy, fy = f yi := ⟨_, rfl⟩
                have HT9 := Lib.hid (show layE f lo hi (B.take (j + 1)) = layE f lo hi (B.take j) ++ [(fx, fy)] by rw [HTK.out, if_pos hyh, ← hxi, ← hyi, hfx, hfy])
                rw [← hfx] at cx
                rw [← hfy] at cy
                obtain ⟨z, hz⟩ : ∃ z, z = wr.heap.size := ⟨_, rfl⟩
                obtain ⟨wz, hwz⟩ : ∃ wz, wz = wr.alloc (.cells #[.int .i64 (x : Int), .int .i64 (y : Int)] 36) := ⟨_, rfl⟩
                have hbz : Below wr.heap.size wr wz := by rw [hwz]; exact (Below.refl _ _).alloc (Nat.le_refl _) _
                have z0 : wz.cell? ⟨z, 0, none⟩ = some (.int .i64 (x : Int)) := by rw [hwz, hz, World.cell?_alloc_at _ _ _ _ rfl]; rfl
                have z1 : wz.cell? ⟨z, 1, none⟩ = some (.int .i64 (y : Int)) := by rw [hwz, hz, World.cell?_alloc_at _ _ _ _ rfl]; rfl
                have HBZZ := Lib.hid hbz
                have HQZ := Lib.hid (show q < wr.heap.size by omega)
                have hwzs : wz.heap.size = z + 1 := by rw [hwz, hz]; simp
                have c2z := (hbz.cell (p := ⟨q, 2, none⟩) (by show q < _; omega)).trans c2
                have f2z := (hbz.frozen (p := ⟨q, 2, none⟩) (by show q < _; omega)).trans f2
                have cxz := (hbz.cell (p := ⟨q + 1, xi, none⟩) (by show q + 1 < _; omega)).trans cx
                have cyz := (hbz.cell (p := ⟨q + 1, yi, none⟩) (by show q + 1 < _; omega)).trans cy
                have HOz := Lib.hid (HO.out.below hbz)
                have HOFz := Lib.hid (HOF.out.trans (Off.of_below hbz))
                have HWZ := Lib.hid hwz
                have hoz : ∀ b, (Value.slice ea k ec).ownBlock = some b → Z ≤ b ∧ b < z := fun b hb => by rw [hz]; exact HO.out.lt b hb
                have HOZ := Lib.hid hoz
                have HS6 : Hid (wz.drew.cell? ⟨z, 0, none⟩ = some (.int .i64 (x : Int)) ∧ wz.drew.cell? ⟨z, 1, none⟩ = some (.int .i64 (y : Int)) ∧ wz.drew.cell? ⟨q, 2, none⟩ = some (.slice ea k ec) ∧ wz.drew.frozen? ⟨q, 2, none⟩ = false ∧ wz.drew.cell? ⟨q + 1, xi, none⟩ = some (.int .i64 (fx : Int)) ∧ wz.drew.cell? ⟨q + 1, yi, none⟩ = some (.int .i64 (fy : Int))) := Lib.hid ⟨z0, z1, c2z, f2z, cxz, cyz⟩
                have hzz6 : z < wz.drew.heap.size := by show z < wz.heap.size; omega
                have hq6 : q < wz.drew.heap.size := by show q < wz.heap.size; omega
                have hq16 : q + 1 < wz.drew.heap.size := by show q + 1 < wz.heap.size; omega
                have hal := (Below.refl wz.drew.heap.size wz.drew).alloc (Nat.le_refl _) (.cells #[.int .i64 (fx : Int), .int .i64 (fy : Int)] 36)
                have hs7 : (wz.drew.alloc (.cells #[.int .i64 (fx : Int), .int .i64 (fy : Int)] 36)).cell? ⟨z, 0, none⟩ = some (.int .i64 (x : Int)) ∧ (wz.drew.alloc (.cells #[.int .i64 (fx : Int), .int .i64 (fy : Int)] 36)).cell? ⟨z, 1, none⟩ = some (.int .i64 (y : Int)) ∧ (wz.drew.alloc (.cells #[.int .i64 (fx : Int), .int .i64 (fy : Int)] 36)).cell? ⟨q, 2, none⟩ = some (.slice ea k ec) ∧ (wz.drew.alloc (.cells #[.int .i64 (fx : Int), .int .i64 (fy : Int)] 36)).frozen? ⟨q, 2, none⟩ = false ∧ (wz.drew.alloc (.cells #[.int .i64 (fx : Int), .int .i64 (fy : Int)] 36)).cell? ⟨q + 1, xi, none⟩ = some (.int .i64 (fx : Int)) ∧ (wz.drew.alloc (.cells #[.int .i64 (fx : Int), .int .i64 (fy : Int)] 36)).cell? ⟨q + 1, yi, none⟩ = some (.int .i64 (fy : Int)) := ⟨(hal.cell (p := ⟨z, 0, none⟩) hzz6).trans z0, (hal.cell (p := ⟨z, 1, none⟩) hzz6).trans z1, (hal.cell (p := ⟨q, 2, none⟩) hq6).trans c2z, (hal.frozen (p := ⟨q, 2, none⟩) hq6).trans f2z, (hal.cell (p := ⟨q + 1, xi, none⟩) hq16).trans cxz, (hal.cell (p := ⟨q + 1, yi, none⟩) hq16).trans cyz⟩
                have HS7 := Lib.hid hs7
                have hA7 : (wz.drew.alloc (.cells #[.int .i64 (fx : Int), .int .i64 (fy : Int)] 36)).heap.size = z + 2 := by simp [hwzs]
                have HSO : Hid (∀ w8, Off (fun i => (Value.slice ea k ec).ownBlock = some i) (wz.drew.alloc (.cells #[.int .i64 (fx : Int), .int .i64 (fy : Int)] 36)) w8 → w8.cell? ⟨z, 0, none⟩ = some (.int .i64 (x : Int)) ∧ w8.cell? ⟨z, 1, none⟩ = some (.int .i64 (y : Int)) ∧ w8.cell? ⟨q, 2, none⟩ = some (.slice ea k ec) ∧ w8.frozen? ⟨q, 2, none⟩ = false ∧ w8.cell? ⟨q + 1, xi, none⟩ = some (.int .i64 (fx : Int)) ∧ w8.cell? ⟨q + 1, yi, none⟩ = some (.int .i64 (fy : Int))) := Lib.hid (fun w8 ho => by
                  have n1 : ¬ (Value.slice ea k ec).ownBlock = some z := fun e => by have := (hoz z e).2; omega
                  have n2 : ¬ (Value.slice ea k ec).ownBlock = some q := fun e => by have := (hoz q e).1; omega
                  have n3 : ¬ (Value.slice ea k ec).ownBlock = some (q + 1) := fun e => by have := (hoz (q + 1) e).1; omega
                  exact ⟨(ho.cell (p := ⟨z, 0, none⟩) (by show z < _; omega) n1).trans hs7.1, (ho.cell (p := ⟨z, 1, none⟩) (by show z < _; omega) n1).trans hs7.2.1, (ho.cell (p := ⟨q, 2, none⟩) (by show q < _; omega) n2).trans hs7.2.2.1, (ho.frozen (p := ⟨q, 2, none⟩) (by show q < _; omega) n2).trans hs7.2.2.2.1, (ho.cell (p := ⟨q + 1, xi, none⟩) (by show q + 1 < _; omega) n3).trans hs7.2.2.2.2.1, (ho.cell (p := ⟨q + 1, yi, none⟩) (by show q + 1 < _; omega) n3).trans hs7.2.2.2.2.2⟩)
                have HRA7 := Lib.hid (HOz.out.drew.alloc (.cells #[.int .i64 (fx : Int), .int .i64 (fy : Int)] 36))
                have hsrc7 : Src Tryz.prog 2 22 (.slice (some ⟨wz.drew.heap.size, 0, none⟩) 1 1) 1 [.int .i64 (fx : Int), .int .i64 (fy : Int)] (wz.drew.alloc (.cells #[.int .i64 (fx : Int), .int .i64 (fy : Int)] 36)) := src_new Tryz.underlying22 [.int .i64 (fx : Int), .int .i64 (fy : Int)] 1 36 1 rfl onePr
                have HSRC7 := Lib.hid hsrc7
                have hsz7 : Z ≤ (wz.drew.alloc (.cells #[.int .i64 (fx : Int), .int .i64 (fy : Int)] 36)).heap.size := by omega
                clear hbz hwz hs7 hsrc7 hal hoz hxi hyi hfx hfy cx cy hNr c2 f2 z0 z1 c2z f2z cxz cyz HO HOF
                go_wp2_with fail
                rw [← hz, ← HWZ.out]
                clear hz
                go_wp2_with fail
                refine wp_region_til (S := (fun W => W.cell? ⟨z, 0, none⟩ = some (.int .i64 (x : Int)) ∧ W.cell? ⟨z, 1, none⟩ = some (.int .i64 (y : Int)) ∧ W.cell? ⟨q, 2, none⟩ = some (.slice ea k ec) ∧ W.frozen? ⟨q, 2, none⟩ = false ∧ W.cell? ⟨q + 1, xi, none⟩ = some (.int .i64 (fx : Int)) ∧ W.cell? ⟨q + 1, yi, none⟩ = some (.int .i64 (fy : Int)))) 20 (by kernel_rfl) ?_ (fun hHeld => ?_)
                · exact HS6.out
                refine tkT 0 ⟨some 81, .fieldAddr 59 (.tmp 8) 2, 0, "board.go:36", #[], none⟩ ?_
                try simp only [Act.put, List.setIfInBounds_toArray, List.set_cons_zero, List.set_cons_succ]
                refine tkT 1 ⟨some 82, .load 22 (.tmp 81), 22, "board.go:36", #[⟨0, .data⟩], none⟩ ?_
                try simp only [Act.put, List.setIfInBounds_toArray, List.set_cons_zero, List.set_cons_succ]
                refine tkT 2 ⟨some 83, .move (.tmp 9), 23, "board.go:36", #[], none⟩ ?_
                try simp only [Act.put, List.setIfInBounds_toArray, List.set_cons_zero, List.set_cons_succ]
                refine tkT 3 ⟨some 84, .indexAddr 36 (.tmp 15) (.const (Value.int IntKind.i64 0)), 0, "board.go:36", #[], none⟩ ?_
                try simp only [Act.put, List.setIfInBounds_toArray, List.set_cons_zero, List.set_cons_succ]
                refine tkT 4 ⟨some 85, .load 3 (.tmp 84), 3, "board.go:36", #[⟨3, .data⟩], none⟩ ?_
                try simp only [Act.put, List.setIfInBounds_toArray, List.set_cons_zero, List.set_cons_succ]
                refine tkT 5 ⟨some 86, .move (.tmp 6), 3, "board.go:36", #[], none⟩ ?_
                try simp only [Act.put, List.setIfInBounds_toArray, List.set_cons_zero, List.set_cons_succ]
                refine tkT 6 ⟨some 87, .binOp BinOp.sub 3 (.tmp 85) (.tmp 86) 3, 3, "board.go:36", #[⟨4, .data⟩, ⟨5, .data⟩], none⟩ ?_
                try simp only [Act.put, List.setIfInBounds_toArray, List.set_cons_zero, List.set_cons_succ]
                refine tkT 7 ⟨some 88, .indexAddr 23 (.tmp 83) (.tmp 87), 0, "board.go:36", #[⟨2, .data⟩, ⟨6, .data⟩], none⟩ ?_
                try simp only [Act.put, List.setIfInBounds_toArray, List.set_cons_zero, List.set_cons_succ]
                refine tkT 8 ⟨some 89, .load 3 (.tmp 88), 3, "board.go:36", #[⟨7, .data⟩], none⟩ ?_
                try simp only [Act.put, List.setIfInBounds_toArray, List.set_cons_zero, List.set_cons_succ]
                refine tkT 9 ⟨some 90, .move (.tmp 9), 23, "board.go:36", #[], none⟩ ?_
                try simp only [Act.put, List.setIfInBounds_toArray, List.set_cons_zero, List.set_cons_succ]
                refine tkT 10 ⟨some 91, .indexAddr 36 (.tmp 15) (.const (Value.int IntKind.i64 1)), 0, "board.go:36", #[], none⟩ ?_
                try simp only [Act.put, List.setIfInBounds_toArray, List.set_cons_zero, List.set_cons_succ]
                refine tkT 11 ⟨some 92, .load 3 (.tmp 91), 3, "board.go:36", #[⟨10, .data⟩], none⟩ ?_
                try simp only [Act.put, List.setIfInBounds_toArray, List.set_cons_zero, List.set_cons_succ]
                refine tkT 12 ⟨some 93, .move (.tmp 6), 3, "board.go:36", #[], none⟩ ?_
                try simp only [Act.put, List.setIfInBounds_toArray, List.set_cons_zero, List.set_cons_succ]
                refine tkT 13 ⟨some 94, .binOp BinOp.sub 3 (.tmp 92) (.tmp 93) 3, 3, "board.go:36", #[⟨11, .data⟩, ⟨12, .data⟩], none⟩ ?_
                try simp only [Act.put, List.setIfInBounds_toArray, List.set_cons_zero, List.set_cons_succ]
                refine tkT 14 ⟨some 95, .indexAddr 23 (.tmp 90) (.tmp 94), 0, "board.go:36", #[⟨9, .data⟩, ⟨13, .data⟩], none⟩ ?_
                try simp only [Act.put, List.setIfInBounds_toArray, List.set_cons_zero, List.set_cons_succ]
                refine tkT 15 ⟨some 96, .load 3 (.tmp 95), 3, "board.go:36", #[⟨14, .data⟩], none⟩ ?_
                try simp only [Act.put, List.setIfInBounds_toArray, List.set_cons_zero, List.set_cons_succ]
                refine tkT 16 ⟨some 97, .build 36 #[(0, .tmp 89), (1, .tmp 96)], 36, "board.go:36", #[⟨8, .data⟩, ⟨15, .data⟩], none⟩ ?_
                try simp only [Act.put, List.setIfInBounds_toArray, List.set_cons_zero, List.set_cons_succ]
                refine til_one (i := 17) (o := ⟨some 98, .buildSlice 22 1 #[(0, .tmp 97)], 22, "board.go:36", #[⟨16, .data⟩], none⟩) (by kernel_rfl) rfl (fun KK hK => ?_)
                go_simp
                refine hK.out _ _ ?_ (fun hHeld => ?_)
                · exact HS7.out
                clear hK KK
                try simp only [Act.put, List.setIfInBounds_toArray, List.set_cons_zero, List.set_cons_succ]
                refine til_one (i := 18) (o := ⟨some 99, .call { callee := Callee.builtin Builtin.append, args := #[.tmp 82, .tmp 98], argTypes := #[22, 22] }, 22, "board.go:36", #[⟨1, .data⟩, ⟨17, .data⟩], none⟩) (by kernel_rfl) rfl (fun KK hK => ?_)
                refine step_append_row rfl (.tmp 82) (.tmp 98) 22 22 rfl 2 36 (.agg #[.int .i64 0, .int .i64 0]) 16 Tryz.underlying22 infoPr rfl Z (.slice ea k ec) k (evs (toI (layE f lo hi (B.take j)))) (by simp [Act.eval]) HRA7.out (.slice (some ⟨wz.drew.heap.size, 0, none⟩) 1 1) (by simp [Act.eval]) 1 [.int .i64 (fx : Int), .int .i64 (fy : Int)] HSRC7.out hsz7 (by omega) (by decide) ?_
                intro v8 w8 hr8 ho8 hw8
                obtain ⟨a8, c8, hv8⟩ := hr8.form
                subst hv8
                have HR8 := Lib.hid hr8
                have HO8 := Lib.hid ho8
                have HS8 := Lib.hid (HSO.out w8 ho8)
                clear hr8 ho8 hw8
                refine hK.out _ _ ?_ (fun hHeld => ?_)
                · exact HS8.out
                clear hK KK
                try simp only [Act.put, List.setIfInBounds_toArray, List.set_cons_zero, List.set_cons_succ]
                refine til_one (i := 19) (o := ⟨some 100, .fieldAddr 59 (.tmp 8) 2, 0, "board.go:36", #[⟨0, .phase⟩, ⟨1, .phase⟩, ⟨2, .phase⟩, ⟨3, .phase⟩, ⟨4, .phase⟩, ⟨5, .phase⟩, ⟨6, .phase⟩, ⟨7, .phase⟩, ⟨8, .phase⟩, ⟨9, .phase⟩, ⟨10, .phase⟩, ⟨11, .phase⟩, ⟨12, .phase⟩, ⟨13, .phase⟩, ⟨14, .phase⟩, ⟨15, .phase⟩, ⟨16, .phase⟩, ⟨17, .phase⟩, ⟨18, .phase⟩], none⟩) (by kernel_rfl) rfl (fun KK hK => ?_)
                go_simp
                refine hK.out _ _ ?_ (fun hHeld => ?_)
                · exact HS8.out
                clear hK KK
                try simp only [Act.put, List.setIfInBounds_toArray, List.set_cons_zero, List.set_cons_succ]
                refine til_last (o := ⟨none, .store 22 (.tmp 100) (.tmp 99), 0, "board.go:36", #[⟨19, .data⟩, ⟨18, .data⟩, ⟨18, .chain⟩, ⟨0, .phase⟩, ⟨1, .phase⟩, ⟨2, .phase⟩, ⟨3, .phase⟩, ⟨4, .phase⟩, ⟨5, .phase⟩, ⟨6, .phase⟩, ⟨7, .phase⟩, ⟨8, .phase⟩, ⟨9, .phase⟩, ⟨10, .phase⟩, ⟨11, .phase⟩, ⟨12, .phase⟩, ⟨13, .phase⟩, ⟨14, .phase⟩, ⟨15, .phase⟩, ⟨16, .phase⟩, ⟨17, .phase⟩, ⟨18, .phase⟩], none⟩) (by kernel_rfl) rfl (by kernel_rfl) (fun KK hK => ?_)
                go_simp
                obtain ⟨_, _, q1, qf, _, _⟩ := hHeld
                go_simp
                refine hK.out _ _ ?_
                clear hK KK
                try simp only [Act.put, List.setIfInBounds_toArray, List.set_cons_zero, List.set_cons_succ]
                have hof8 : Off (fun i => (Value.slice ea k ec).ownBlock = some i) wz w8 := (((Off.refl _ wz).drew).alloc _).trans HO8.out
                have hrt := HR8.out.setOther (p := ⟨q, 2, none⟩) (fun e => by have := (HR8.out.lt q e).1; omega) (.slice a8 (k + 1) c8)
                have hofz : Off (fun i => i = q) w7 (w8.setCell ⟨q, 2, none⟩ (.slice a8 (k + 1) c8)) := (HOFz.out.trans' hof8 (fun i hi h => by have := (HOZ.out i h).1; have := HZ.out; omega)).setCell (p := ⟨q, 2, none⟩) (.inr rfl) _
                have hcp : (w8.setCell ⟨q, 2, none⟩ (.slice a8 (k + 1) c8)).cell? ⟨q, 2, none⟩ = some (.slice a8 (k + 1) c8) := World.cell?_setCell_same _ _ _ HS8.out.2.2.1
                have HRT := Lib.hid hrt
                have HOF9 := Lib.hid hofz
                have HCP := Lib.hid hcp
                have HBX9 := Lib.hid ((HBXL.out.off HQZ.out ((Off.of_below HBZZ.out).trans hof8) (fun e => by have := (HOZ.out q e).1; omega)).set (.slice a8 (k + 1) c8))
                clear hof8 hrt hofz hcp
                go_wp2_with fail
                refine ⟨⟨j + 1, k + 1, .slice a8 (k + 1) c8, by go_num, by omega, by omega, Lib.hid (by rw [HT9.out, List.length_append, ← HK.out]; rfl), Lib.hid (by
                  rw [HT9.out]
                  have e : evs (toI (layE f lo hi (B.take j) ++ [(fx, fy)])) = evs (toI (layE f lo hi (B.take j))) ++ [.int .i64 (fx : Int), .int .i64 (fy : Int)] := by
                    unfold toI
                    rw [List.map_append]
                    exact evs_snoc _ _
                  rw [e]
                  exact HRT.out), HCP.out, HBX9, HOF9⟩, by simp [intOf]; omega⟩
              · have hyb : decide ((y : Int) < (hi : Int)) = false := decide_eq_false (by omega)
                have HT9 := Lib.hid (show layE f lo hi (B.take (j + 1)) = layE f lo hi (B.take j) by rw [HTK.out, if_neg hyh, List.append_nil])
                have HC2 := Lib.hid c2
                have hqr : q < wr.heap.size := by omega
                have HQR := Lib.hid hqr
                go_wp2_with fail
                exact ⟨⟨j + 1, k, .slice ea k ec, by go_num, by omega, by omega, Lib.hid (by rw [HT9.out]; exact HK.out), Lib.hid (by rw [HT9.out]; exact HO.out.alloc _), ((Below.refl wr.heap.size wr).alloc (Nat.le_refl _) _).cell (p := ⟨q, 2, none⟩) HQR.out |>.trans HC2.out, Lib.hid (HBXL.out.off HQR.out ((Off.refl (fun _ => False) _).alloc _) (fun h => h)), Lib.hid (HOF.out.alloc _)⟩, by simp [intOf]; omega⟩
            · have hje : K = j := by omega
              have hb7r : Below (w1.heap.size) w1 wr := HB17.out.trans (HOF.out.below (fun i hi => by rw [hi]; exact HQ1.out) HB17.out.size)
              have hS1 : w.heap.size < w1.heap.size := by rw [HW1.out]; simp
              have s0 := fun jj => (hb7r.cell (p := ⟨w.heap.size, jj, none⟩) hS1)
              have sf := fun jj => (hb7r.frozen (p := ⟨w.heap.size, jj, none⟩) hS1)
              rw [HW1.out] at s0 sf
              simp only [World.cell?_alloc_at _ _ _ _ rfl, World.frozen?_alloc_at _ _ _ _ rfl] at s0 sf
              have s00 : wr.cell? ⟨w.heap.size, 0, none⟩ = some (.slice none 0 0) := s0 0
              have s01 : wr.cell? ⟨w.heap.size, 1, none⟩ = some (.int .i64 0) := s0 1
              have s02 : wr.cell? ⟨w.heap.size, 2, none⟩ = some (.slice none 0 0) := s0 2
              have f0 := sf 0
              have f1 := sf 1
              have ff2 := sf 2
              have b0 := (HBXL.out.1 0 (by decide)).trans HY.out.1
              have b1 := (HBXL.out.1 1 (by decide)).trans HY.out.2.1
              have hK := HK.out
              have hO := HO.out
              rw [List.take_of_length_le (by rw [← HKL.out]; omega)] at hK hO
              have HFIN := Lib.hid (show RI wr (.slice ta L tc) (nl A) from HR7.out.off HOF.out (fun b hb e => by have := HTB.out b hb; omega) (fun b o c k e1 e2 => by
                have := HTB.out b (by rw [e1]; rfl)
                omega))
              have HROW := Lib.hid hO
              have HBWR : Hid (Below w.heap.size w wr) := Lib.hid (HB7.out.trans (HOF.out.below (fun i hi => by rw [hi]; have := HQ1.out; have := HB1.out.size; omega) HB7.out.size))
              have HELEN : Hid ((layE f lo hi B).length ≤ 100000) := Lib.hid (by
                have := layE_len f lo hi B B.length
                rw [List.take_length] at this
                have := HKL.out
                omega)
              have HKK := Lib.hid hK
              have hSq : w.heap.size < q := by have := HQ1.out; omega
              have HSQ := Lib.hid hSq
              have HS1 := Lib.hid hS1
              subst hje
              clear s0 sf hK hO hb7r hS1 HO HK
              go_wp2_with fail
              have x0 := World.cell?_setCell_same wr ⟨w.heap.size, 0, none⟩ (.slice ta L tc) s00
              have x1 := World.cell?_setCell_same (wr.setCell ⟨w.heap.size, 0, none⟩ (.slice ta L tc)) ⟨w.heap.size, 1, none⟩ (.int .i64 (D : Int)) (by rw [World.cell?_setCell_other _ _ _ _ (fun e => by injection e with _ e _; cases e)]; exact s01)
              have x2 := World.cell?_setCell_same ((wr.setCell ⟨w.heap.size, 0, none⟩ (.slice ta L tc)).setCell ⟨w.heap.size, 1, none⟩ (.int .i64 (D : Int))) ⟨w.heap.size, 2, none⟩ (.slice ea k ec) (by rw [World.cell?_setCell_other _ _ _ _ (fun e => by injection e with _ e _; cases e), World.cell?_setCell_other _ _ _ _ (fun e => by injection e with _ e _; cases e)]; exact s02)
              refine bodyPost_ret (v := .agg #[.slice ta L tc, .int .i64 (D : Int), .slice ea k ec]) (by simp [results, Tryz.results35, go_sem, x0, x1, x2]) rfl ?_
              refine ⟨_, D, _, _, rfl, ⟨_, _, rfl, ?_, ?_⟩, HFF.out, hD4, HELEN.out, ((HBWR.out.setCell (p := ⟨w.heap.size, 0, none⟩) (Nat.le_refl _) _).setCell (p := ⟨w.heap.size, 1, none⟩) (Nat.le_refl _) _).setCell (p := ⟨w.heap.size, 2, none⟩) (Nat.le_refl _) _⟩
              · refine HFIN.out.off ((((Off.refl (fun i => i = w.heap.size) wr).setCell (p := ⟨w.heap.size, 0, none⟩) (.inr rfl) _).setCell (p := ⟨w.heap.size, 1, none⟩) (.inr rfl) _).setCell (p := ⟨w.heap.size, 2, none⟩) (.inr rfl) _) (fun b hb e => by have := HTB.out b hb; have := HS1.out; omega) (fun b o c k e1 e2 => by
                  have := HTB.out b (by rw [e1]; rfl)
                  have := HS1.out
                  omega)
              · have hne : (Value.slice ea k ec).ownBlock ≠ some w.heap.size := fun e => by have := (HROW.out.lt _ e).1; have := HSQ.out; omega
                have h9 := ((HROW.out.setOther (p := ⟨w.heap.size, 0, none⟩) hne (.slice ta L tc)).setOther (p := ⟨w.heap.size, 1, none⟩) hne (.int .i64 (D : Int))).setOther (p := ⟨w.heap.size, 2, none⟩) hne (.slice ea k ec)
                refine RE.ofRow (B := Z) ?_
                have e : (toI (layE f lo hi B)).length = (layE f lo hi B).length := by simp [toI]
                rw [e, ← HKK.out]
                exact h9
end
end Go.Proofs.YtfpepoebammeoaaGreat
