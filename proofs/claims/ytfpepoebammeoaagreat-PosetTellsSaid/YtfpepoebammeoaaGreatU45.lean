/- Of package poset: sides. -/
import Derived.Test.YtfpepoebammeoaaGreatU0
import Derived.Test.YtfpepoebammeoaaGreatU24
import Derived.Test.YtfpepoebammeoaaGreatU34
import Derived.Test.YtfpepoebammeoaaGreatU39
import Derived.Test.YtfpepoebammeoaaGreatU40
import Derived.Test.YtfpepoebammeoaaGreatU44
import Derived.Test.YtfpepoebammeoaaGreatU6
set_option linter.unusedVariables false
set_option linter.unusedSimpArgs false
namespace Go.Proofs.YtfpepoebammeoaaGreat
open Go.ChangeShapes Go.WideShapes Go.ChangeAt Go.RowKit Go.WideMaps Go.Maps

theorem zeroI9 (w : World) : (zeroValue 3).run Tryz.prog w = .ok (.int .i64 0) w := by kernel_rfl
theorem row_grown' {k B b n : Nat} {w w' : World} {v : Value} {cs : List Value} (h : Row k B w v n cs) (hg : w.grownBy w' (some b)) (hb : v.ownBlock ≠ some b) : Row k B w' v n cs :=
  h.carry hg.size fun i hi => hg.block i (h.lt i hi).2 (fun e => hb (by rw [← e]; exact hi))
theorem Gr.made (w : World) (n : Nat) (t : TypeId) (hn : n ≤ 1000000) : Gr w.heap.size (w.alloc (.cells (madeCells #[.slice none 0 0] n) t)) (.slice (some ⟨w.heap.size, 0, none⟩) n n) (List.replicate n (.slice none 0 0)) (List.replicate n []) := by
  have hu0 : ∀ (j : Nat) (u : Value), (List.replicate n (Value.slice none 0 0))[j]? = some u → u = .slice none 0 0 := fun j u h => by
    rw [List.getElem?_replicate] at h
    split at h
    · exact (Option.some.inj h).symm
    · cases h
  refine ⟨?_, by simp, fun j u g hu hg => ?_, fun j u b hu hb => ?_, fun i j u u' b _ hu _ hb => ?_⟩
  · rw [List.length_replicate]
    exact row_new (Nat.le_refl _) (by simp) (Nat.le_refl _) (by unfold maxLen; omega) (by simp [size_madeCells]) (.inl rfl) (fun j u hu => by
      have hj : j < n := by have := (List.getElem?_eq_some_iff.1 hu).1; simpa using this
      rw [hu0 j u hu]
      simp [madeCells, hj, Nat.mod_one])
  · rw [hu0 j u hu]
    have : g = [] := by
      rw [List.getElem?_replicate] at hg
      split at hg
      · exact (Option.some.inj hg).symm
      · cases hg
    rw [this]
    exact Row.nil _ _ _
  · rw [hu0 j u hu] at hb; cases hb
  · rw [hu0 i u hu] at hb; cases hb
theorem toI_len (E : EdN) : (toI E).length = E.length := by simp [toI]
section
variable {R : Nat → Nat → Prop} {D : Nat} {rk : Nat → Nat} {E : EdN} {A : List Nat}
set_option maxHeartbeats 8000000 in
set_option maxRecDepth 100000 in
theorem sides_any (bv : Value) (w : World) (hM : BoardM w bv A D E) (hB : BoardS R A.length D rk E) (hD : D ≤ 200000) (hA : A.length ≤ 100000) (hE : E.length ≤ 100000) :
    Calls Tryz.prog 38 #[bv] w fun e w' => ∃ ov L r, e = .returned ov ∧ ReachK (needE (pairA R A.length)) A.length L ∧ L.length = A.length ∧ SideI R D A.length E E r ∧ RG w' ov (sdG r D (hdL r D A.length) A L) ∧ Below w.heap.size w w' := by
  obtain ⟨tv, ev, rfl, hrt, hre⟩ := hM
  obtain ⟨ta, tc, rfl⟩ := hrt.form
  obtain ⟨ea, ec, rfl⟩ := hre.form
  rw [nl_len]
  rw [nl_len] at hrt
  rw [toI_len] at hre ⊢
  obtain ⟨m, hm⟩ : ∃ m, m = A.length := ⟨_, rfl⟩
  obtain ⟨EL, hEL⟩ : ∃ EL, EL = E.length := ⟨_, rfl⟩
  have hrt' := hrt
  rw [← hm] at hrt'
  have hlt := hB.lt
  rw [← hm] at hlt
  have HLINE := Lib.hid (fun W (hb : Below w.heap.size w W) => line_any (.agg #[.slice ta A.length tc, .int .i64 (D : Int), .slice ea E.length ec]) W ⟨_, _, rfl, hrt.below hb, hre.below hb⟩ hB hD hA hE)
  have HRC := Lib.hid (fun (L : List Int) (lv : Value) W (hb : Below w.heap.size w W) (hl : RI W lv (L.map fun x => (D : Int) + x)) (h1 : L.length = m) (h2 : ∀ x ∈ L, 0 ≤ x ∧ x < (m : Int)) (h3 : L.Nodup) =>
    reaches_any D m (D + m) ta tc (.slice ea E.length ec) lv E L W hl (hre.below hb) h1 h2 h3 rfl (by omega) hD hlt hE)
  have HTH := Lib.hid (fun (i x : Nat) (hx : A[i]? = some x) W (hb : Below w.heap.size w W) => thing_any ta tc D i A (.slice ea E.length ec) x W (hrt.below hb) hx (by omega) (by omega))
  have HSZ := Lib.hid (fun W => size_any ta m tc D (.slice ea E.length ec) W (by omega) (by omega))
  have HRE := Lib.hid hre
  have HBS := Lib.hid hB
  rw [← hm] at HLINE HTH hA HBS
  rw [← hm]
  rw [← hEL] at HLINE HTH HRC HSZ HRE hE ⊢
  have HM := Lib.hid hm
  have HEL := Lib.hid hEL
  obtain ⟨w1, hw1⟩ : ∃ w1, w1 = w.alloc (.cells #[.slice ta m tc, .int .i64 (D : Int), .slice ea EL ec] 59) := ⟨_, rfl⟩
  have hb1 : Below w.heap.size w w1 := by rw [hw1]; exact (Below.refl _ _).alloc (Nat.le_refl _) _
  obtain ⟨S, hS⟩ : ∃ S, S = w.heap.size := ⟨_, rfl⟩
  have hbx : w1.cell? ⟨S, 0, none⟩ = some (.slice ta m tc) ∧ w1.cell? ⟨S, 1, none⟩ = some (.int .i64 (D : Int)) ∧ w1.cell? ⟨S, 2, none⟩ = some (.slice ea EL ec) ∧ S < w1.heap.size := by
    rw [hw1, hS]
    exact ⟨World.cell?_alloc_at _ _ _ _ rfl, World.cell?_alloc_at _ _ _ _ rfl, World.cell?_alloc_at _ _ _ _ rfl, by simp⟩
  have HW1 := Lib.hid hw1
  have HB1 := Lib.hid hb1
  have HBX := Lib.hid hbx
  have HS := Lib.hid hS
  clear hB hrt hre hrt' hlt hm hEL hw1 hb1 hbx
  go_enter Tryz.func38, Tryz.ntmps38
  go_wp2_with fail
  rw [← HW1.out]
  refine (HLINE.out w1 HB1.out).mono ?_
  rintro e w2 ⟨lv, L, rfl, hrl, hK, hLm, hb2⟩
  obtain ⟨la, lc, hlf⟩ := hrl.form
  rw [List.length_map, hLm] at hlf
  subst hlf
  obtain ⟨hnd, hin⟩ := reach_tame hK
  have hin' : ∀ x ∈ L, 0 ≤ x ∧ x < (m : Int) := fun x hx => by
    obtain ⟨u, hu, e⟩ := hin x hx
    omega
  have HB2 := Lib.hid (HB1.out.trans (hb2.mono HB1.out.size))
  have HRC2 := Lib.hid (HRC.out L (.slice la m lc) w2 HB2.out hrl hLm hin' hnd)
  have HRL := Lib.hid hrl
  have HK := Lib.hid hK
  have HLM := Lib.hid hLm
  have HIN := Lib.hid hin'
  have HND := Lib.hid hnd
  have hS1w : S < w1.heap.size := HBX.out.2.2.2
  have HBW2 : Hid (w1.heap.size ≤ w2.heap.size) := Lib.hid hb2.size
  have HBXB : Hid (∀ W, Below w2.heap.size w2 W → W.cell? ⟨S, 0, none⟩ = some (.slice ta m tc) ∧ W.cell? ⟨S, 1, none⟩ = some (.int .i64 (D : Int)) ∧ W.cell? ⟨S, 2, none⟩ = some (.slice ea EL ec)) := Lib.hid (fun W hW => by
    have h := hb2.trans (hW.mono hb2.size)
    exact ⟨(h.cell (p := ⟨S, 0, none⟩) hS1w).trans HBX.out.1, (h.cell (p := ⟨S, 1, none⟩) hS1w).trans HBX.out.2.1, (h.cell (p := ⟨S, 2, none⟩) hS1w).trans HBX.out.2.2.1⟩)
  obtain ⟨x0, x1, x2⟩ := HBXB.out w2 (Below.refl _ _)
  clear hrl hK hLm hnd hin hin' hb2 hS1w
  rw [← hS]
  clear hS
  go_wp2_with fail
  refine HRC2.out.mono ?_
  rintro e w3 ⟨rv, rfl, hrow, hb3⟩
  obtain ⟨f, hf⟩ : ∃ f, f = bkA (ownB D L L.length) E := ⟨_, rfl⟩
  obtain ⟨g, hg⟩ : ∃ g, g = onA (ownO D L L.length) m E := ⟨_, rfl⟩
  rw [← hf, ← hg] at hrow
  obtain ⟨sz, hsz⟩ : ∃ sz, sz = D + m := ⟨_, rfl⟩
  rw [← hsz] at hrow HSZ
  obtain ⟨ra, rc, hrv⟩ := hrow.form
  subst hrv
  have HFW := Lib.hid (fun (u : Nat) (hu : u < D + m) => fwd_iff HND.out HIN.out HLM.out (f := f) (by rw [hf]; exact bk_all HBS.out.up HBS.out.sorted (fun y => (own_tame L.length y).1)) hu)
  have HBW := Lib.hid (fun (u : Nat) (hu : u < D + m) => bwd_iff HND.out HIN.out HLM.out (g := g) (by rw [hg]; exact on_all HBS.out.up HBS.out.sorted (fun y => by have := (own_tame (D := D) (L := L) L.length y).2.2.2; have := HLM.out; omega)) hu)
  have HROW := Lib.hid hrow
  have HB3 := Lib.hid hb3
  have HSZE := Lib.hid hsz
  have hsz9 : sz ≤ 300000 := by omega
  obtain ⟨y0, y1, y2⟩ := HBXB.out w3 hb3
  clear hrow hb3 hf hg x0 x1 x2 hsz
  go_wp2_with fail
  refine (HSZ.out w3).mono ?_
  rintro e w4 ⟨rfl, hw4⟩
  have HB4 : Hid (Below w2.heap.size w2 w4) := Lib.hid (by rw [hw4]; exact HB3.out.alloc HB3.out.size _)
  have HAL := Lib.hid (alone_any sz w4 (by omega))
  obtain ⟨z0, z1, z2⟩ := HBXB.out w4 HB4.out
  have HR4 : Hid (Below w3.heap.size w3 w4) := Lib.hid (by rw [hw4]; exact (Below.refl _ _).alloc (Nat.le_refl _) _)
  clear hw4 y0 y1 y2
  go_wp2_with fail
  refine HAL.out.mono ?_
  rintro e w5 ⟨pb, rfl, hgr, hb5⟩
  have HB5 : Hid (Below w4.heap.size w4 w5) := Lib.hid hb5
  have HGR := Lib.hid hgr
  have hpb : w4.heap.size ≤ pb := (hgr.lt pb rfl).1
  have HPB := Lib.hid hpb
  obtain ⟨y0, y1, y2⟩ := HBXB.out w5 (HB4.out.trans (hb5.mono HB4.out.size))
  have hlt := HBS.out.lt
  have HLT := Lib.hid hlt
  clear hgr hb5 z0 z1 z2 hpb hlt
  go_wp2_with fail
  go_loopw [30] (fun jv wr => ∃ (j : Nat) (gg r d : Nat → Nat), jv = .int .i64 (j : Nat) ∧ j ≤ EL ∧ Hid (UF sz gg r d) ∧ Hid (SideI R D m E (E.take j) r) ∧ Hid (Row 1 w4.heap.size wr (.slice (some ⟨pb, 0, none⟩) sz sz) sz (bkv gg sz)) ∧ Hid (Below w4.heap.size w4 wr)) (fun jv _ => EL - (intOf jv).toNat)
  case atStart => exact ⟨0, id, id, fun _ => 0, rfl, Nat.zero_le _, Lib.hid (UF.alone sz), Lib.hid (SideI.first R D m E), HGR, HB5⟩
  case round =>
    obtain ⟨j, gg, r, d, rfl, hj, HU, HSI, HG, HBJ⟩ := hrel
    by_cases hlj : j < EL
    · obtain ⟨⟨x, y⟩, he⟩ : ∃ e, E[j]? = some e := ⟨E[j]'(by rw [← HEL.out]; exact hlj), by simp⟩
      have heI : (toI E)[j]? = some ((x : Int), (y : Int)) := by simp [toI, he]
      have HBJ2 : Hid (Below w2.heap.size w2 wr) := Lib.hid (HB4.out.trans (HBJ.out.mono HB4.out.size))
      have HBJW : Hid (Below w.heap.size w wr) := Lib.hid (HB2.out.trans (HBJ2.out.mono HB2.out.size))
      obtain ⟨vb, vo, rfl, hvb, hvc1, hvc2, cx, cy⟩ := HRE.out.at heI
      have cx := (HBJW.out.cell (p := ⟨vb, _, none⟩) hvb).trans cx
      have cy := (HBJW.out.cell (p := ⟨vb, _, none⟩) hvb).trans cy
      obtain ⟨hx, hy⟩ := HLT.out (x, y) (List.mem_of_getElem? he)
      rw [← HSZE.out] at hx hy
      have hx : x < sz := hx
      have hy : y < sz := hy
      have HTK : Hid (E.take (j + 1) = E.take j ++ [(x, y)]) := Lib.hid (by rw [List.take_add_one, he]; rfl)
      have HIN9 : Hid ((x, y) ∈ E) := Lib.hid (List.mem_of_getElem? he)
      have HFX := Lib.hid (HFW.out x (by rw [← HSZE.out]; exact hx))
      have HBY := Lib.hid (HBW.out y (by rw [← HSZE.out]; exact hy))
      obtain ⟨W, hW⟩ : ∃ W, W = wr.alloc (.cells #[.int .i64 (x : Int), .int .i64 (y : Int)] 36) := ⟨_, rfl⟩
      have hbW : Below wr.heap.size wr W := by rw [hW]; exact (Below.refl _ _).alloc (Nat.le_refl _) _
      obtain ⟨b0, b1, b2⟩ := HBXB.out W (HBJ2.out.trans (hbW.mono HBJ2.out.size))
      have hrW : Row 2 w2.heap.size W (.slice ra sz rc) sz (rcv f g sz) := ((HROW.out.below HR4.out).below HBJ.out).below hbW
      obtain ⟨rb, cap, hrv, _, _, hrc1, hrc2, _, hcv⟩ := hrW.pos (by omega)
      injection hrv with e1 _ e3
      subst e1
      subst e3
      have rx := hcv _ _ (rcv_at f g hx).1
      have ry := hcv _ _ (rcv_at f g hy).2
      have HBW9 : Hid (Below w4.heap.size w4 W) := Lib.hid (by rw [hW]; exact HBJ.out.alloc HBJ.out.size _)
      have HG9 : Hid (Row 1 w4.heap.size W (.slice (some ⟨pb, 0, none⟩) sz sz) sz (bkv gg sz)) := Lib.hid (HG.out.below hbW)
      have HJ := Lib.hid (join_any x y W HU.out hx hy (by omega) HG9.out)
      have HWW := Lib.hid hW
      rw [hW] at b1 rx ry
      obtain ⟨fx, hfx⟩ : ∃ fx, fx = f x := ⟨_, rfl⟩
      obtain ⟨gy, hgy⟩ : ∃ gy, gy = g y := ⟨_, rfl⟩
      rw [← hfx] at rx HFX
      rw [← hgy] at ry HBY
      unfold maxLen at hvc2 hrc2
      clear he heI hvb hbW b0 b2 hrW hcv hW hfx hgy
      by_cases hD1 : D ≤ x
      · have hD1I : (D : Int) ≤ (x : Int) := by omega
        by_cases hD2 : D ≤ y
        · have hD2I : (D : Int) ≤ (y : Int) := by omega
          go_wp2_with fail
          rw [← HWW.out]
          refine HJ.out.mono ?_
          rintro e w9 ⟨g9, d9, rfl, hU9, hR9, ho9⟩
          go_wp2_with fail
          exact ⟨⟨j + 1, g9, _, d9, by go_num, by omega, Lib.hid hU9, Lib.hid (by rw [HTK.out]; exact HSI.out.join HBS.out ⟨HIN9.out, HFX.out.2 (.inl hD1), HBY.out.2 (.inl hD2)⟩), Lib.hid hR9, Lib.hid (HBW9.out.trans (ho9.below (B := w4.heap.size) (fun i hi => by rw [hi]; exact HPB.out) HBW9.out.size))⟩, by simp [intOf]; omega⟩
        · have hD2I : ¬ (D : Int) ≤ (y : Int) := by omega
          by_cases hg1 : gy < (m : Int)
          · go_wp2_with fail
            rw [← HWW.out]
            refine HJ.out.mono ?_
            rintro e w9 ⟨g9, d9, rfl, hU9, hR9, ho9⟩
            go_wp2_with fail
            exact ⟨⟨j + 1, g9, _, d9, by go_num, by omega, Lib.hid hU9, Lib.hid (by rw [HTK.out]; exact HSI.out.join HBS.out ⟨HIN9.out, HFX.out.2 (.inl hD1), HBY.out.2 (.inr hg1)⟩), Lib.hid hR9, Lib.hid (HBW9.out.trans (ho9.below (B := w4.heap.size) (fun i hi => by rw [hi]; exact HPB.out) HBW9.out.size))⟩, by simp [intOf]; omega⟩
          · go_wp2_with fail
            exact ⟨⟨j + 1, gg, r, d, by go_num, by omega, HU, Lib.hid (by rw [HTK.out]; exact HSI.out.skip (fun hj => by rcases HBY.out.1 hj.2.2 with h | h <;> omega)), by rw [← HWW.out]; exact HG9, by rw [← HWW.out]; exact HBW9⟩, by simp [intOf]; omega⟩
      · have hD1I : ¬ (D : Int) ≤ (x : Int) := by omega
        by_cases hf1 : 0 ≤ fx
        · by_cases hD2 : D ≤ y
          · have hD2I : (D : Int) ≤ (y : Int) := by omega
            go_wp2_with fail
            rw [← HWW.out]
            refine HJ.out.mono ?_
            rintro e w9 ⟨g9, d9, rfl, hU9, hR9, ho9⟩
            go_wp2_with fail
            exact ⟨⟨j + 1, g9, _, d9, by go_num, by omega, Lib.hid hU9, Lib.hid (by rw [HTK.out]; exact HSI.out.join HBS.out ⟨HIN9.out, HFX.out.2 (.inr hf1), HBY.out.2 (.inl hD2)⟩), Lib.hid hR9, Lib.hid (HBW9.out.trans (ho9.below (B := w4.heap.size) (fun i hi => by rw [hi]; exact HPB.out) HBW9.out.size))⟩, by simp [intOf]; omega⟩
          · have hD2I : ¬ (D : Int) ≤ (y : Int) := by omega
            by_cases hg1 : gy < (m : Int)
            · go_wp2_with fail
              rw [← HWW.out]
              refine HJ.out.mono ?_
              rintro e w9 ⟨g9, d9, rfl, hU9, hR9, ho9⟩
              go_wp2_with fail
              exact ⟨⟨j + 1, g9, _, d9, by go_num, by omega, Lib.hid hU9, Lib.hid (by rw [HTK.out]; exact HSI.out.join HBS.out ⟨HIN9.out, HFX.out.2 (.inr hf1), HBY.out.2 (.inr hg1)⟩), Lib.hid hR9, Lib.hid (HBW9.out.trans (ho9.below (B := w4.heap.size) (fun i hi => by rw [hi]; exact HPB.out) HBW9.out.size))⟩, by simp [intOf]; omega⟩
            · go_wp2_with fail
              exact ⟨⟨j + 1, gg, r, d, by go_num, by omega, HU, Lib.hid (by rw [HTK.out]; exact HSI.out.skip (fun hj => by rcases HBY.out.1 hj.2.2 with h | h <;> omega)), by rw [← HWW.out]; exact HG9, by rw [← HWW.out]; exact HBW9⟩, by simp [intOf]; omega⟩
        · by_cases hD2 : D ≤ y
          · have hD2I : (D : Int) ≤ (y : Int) := by omega
            go_wp2_with fail
            exact ⟨⟨j + 1, gg, r, d, by go_num, by omega, HU, Lib.hid (by rw [HTK.out]; exact HSI.out.skip (fun hj => by rcases HFX.out.1 hj.2.1 with h | h <;> omega)), by rw [← HWW.out]; exact HG9, by rw [← HWW.out]; exact HBW9⟩, by simp [intOf]; omega⟩
          · have hD2I : ¬ (D : Int) ≤ (y : Int) := by omega
            by_cases hg1 : gy < (m : Int)
            · go_wp2_with fail
              exact ⟨⟨j + 1, gg, r, d, by go_num, by omega, HU, Lib.hid (by rw [HTK.out]; exact HSI.out.skip (fun hj => by rcases HFX.out.1 hj.2.1 with h | h <;> omega)), by rw [← HWW.out]; exact HG9, by rw [← HWW.out]; exact HBW9⟩, by simp [intOf]; omega⟩
            · go_wp2_with fail
              exact ⟨⟨j + 1, gg, r, d, by go_num, by omega, HU, Lib.hid (by rw [HTK.out]; exact HSI.out.skip (fun hj => by rcases HFX.out.1 hj.2.1 with h | h <;> omega)), by rw [← HWW.out]; exact HG9, by rw [← HWW.out]; exact HBW9⟩, by simp [intOf]; omega⟩
    · have hje : EL = j := by omega
      subst hje
      have HSI9 : Hid (SideI R D m E E r) := Lib.hid (by have h := HSI.out; rw [HEL.out, List.take_length] at h; exact h)
      obtain ⟨wJ, rfl⟩ : ∃ wJ, wJ = wr := ⟨wr, rfl⟩
      have HBJ2 : Hid (Below w2.heap.size w2 wJ) := Lib.hid (HB4.out.trans (HBJ.out.mono HB4.out.size))
      obtain ⟨b0, b1, b2⟩ := HBXB.out (wJ.alloc (.map #[] 0)) (HBJ2.out.alloc HBJ2.out.size _)
      obtain ⟨MB, hMB⟩ : ∃ MB, MB = wJ.heap.size := ⟨_, rfl⟩
      have hpbM : pb < MB := by rw [hMB]; exact (HG.out.lt pb rfl).2
      have hMB4 : w4.heap.size ≤ MB := by rw [hMB]; exact HBJ.out.size
      have HM0 := Lib.hid (show MI (wJ.alloc (.map #[] 0)) MB (hdL r D 0) by rw [hMB]; exact MI.made wJ)
      have HB0 := Lib.hid (HBJ.out.alloc HBJ.out.size (.map #[] 0))
      have HG0 := Lib.hid (HG.out.alloc (.map #[] 0))
      have hmm := @run_makeMap Tryz.prog
      clear HSI
      have HMBE := Lib.hid hMB
      have HPM : Hid ((Value.slice (some ⟨pb, 0, none⟩) sz sz).ownBlock ≠ some MB) := Lib.hid (fun e => by
        have : pb = MB := by simpa [Value.ownBlock] using e
        omega)
      go_wp2_with fail
      rw [← HMBE.out]
      clear hmm hMB b0 b1 b2
      go_loopw [11] (fun nv wr => ∃ (i x : Nat) (g' d' : Nat → Nat), nv = .int .i64 (x : Int) ∧ x ≤ sz ∧ i ≤ m ∧ Hid (x = D + i) ∧ Hid (UF sz g' r d') ∧ Hid (Row 1 w4.heap.size wr (.slice (some ⟨pb, 0, none⟩) sz sz) sz (bkv g' sz)) ∧ Hid (MI wr MB (hdL r D i)) ∧ Hid (Below w4.heap.size w4 wr)) (fun nv _ => sz - (intOf nv).toNat)
      case atStart => exact ⟨0, D, gg, d, rfl, by have := HSZE.out; omega, Nat.zero_le _, Lib.hid rfl, HU, HG0, HM0, HB0⟩
      case round =>
        obtain ⟨i, x, g', d', rfl, hxs, hi, HX, HU', HG', HMI, HBI⟩ := hrel
        have HBI2 : Hid (Below w2.heap.size w2 wr) := Lib.hid (HB4.out.trans (HBI.out.mono HB4.out.size))
        obtain ⟨c0, c1, c2⟩ := HBXB.out wr HBI2.out
        by_cases hli : x < sz
        · go_wp2_with fail
          refine (HSZ.out wr).mono ?_
          rintro e w7 ⟨rfl, hw7⟩
          have HBE : Hid (Below wr.heap.size wr w7) := Lib.hid (by rw [hw7]; exact (Below.refl _ _).alloc (Nat.le_refl _) _)
          have HH := Lib.hid (head_any x w7 HU'.out hli (by omega) (HG'.out.below HBE.out))
          have HM7 := Lib.hid (HMI.out.below HBE.out)
          have HB7 := Lib.hid (HBI.out.trans (HBE.out.mono HBI.out.size))
          clear hw7 HBE
          go_wp2_with fail
          refine HH.out.mono ?_
          rintro e w8 ⟨g8, rfl, hU8, hR8, ho8⟩
          obtain ⟨h9, hh9⟩ : ∃ h9, h9 = r x := ⟨_, rfl⟩
          have hh9s : h9 < sz := by rw [hh9]; exact hU8.rlt x hli
          have HB8 : Hid (Below w4.heap.size w4 w8) := Lib.hid (HB7.out.trans (ho8.below (B := w4.heap.size) (fun k hk => by rw [hk]; exact HPB.out) HB7.out.size))
          obtain ⟨Dm, hown, hhas, hat, hsz⟩ := HM7.out.off ho8 (fun e => by omega)
          obtain ⟨k, hk⟩ : ∃ k, k = (hdL r D i).length := ⟨_, rfl⟩
          have hki : k ≤ i := by rw [hk]; exact hdL_len r D i
          rw [← hk] at hown hsz
          have HOWN := Lib.hid hown
          have HHAS := Lib.hid hhas
          have HAT := Lib.hid hat
          have HSZM := Lib.hid hsz
          have HKL := Lib.hid hk
          have HKEY := Lib.hid (show keyOf Tryz.prog 3 (.int .i64 (h9 : Int)) = some (li (h9 : Int)) from li_key (by omega) (by omega))
          have HU8 := Lib.hid hU8
          have HR8 := Lib.hid hR8
          have HH9 : Hid (h9 = r (D + i)) := Lib.hid (by rw [hh9, HX.out])
          rw [← hh9]
          clear hU8 hR8 ho8 hown hhas hat hsz hk hh9 HU' HG' HMI HBI HM7 HB7 c0 c1 c2
          cases hc : has Dm (li (h9 : Int)) with
          | true =>
            have HMD : Hid (MI w8 MB (hdL r D (i + 1))) := Lib.hid (by
              have hm : ((r (D + i) : Nat) : Int) ∈ hdL r D i := by
                have := HHAS.out (h9 : Int)
                rw [hc] at this
                rw [← HH9.out]
                simpa using this.symm
              rw [hdL_in hm]
              exact ⟨Dm, by rw [← HKL.out]; exact HOWN.out, HHAS.out, HAT.out, by rw [← HKL.out]; exact HSZM.out⟩)
            go_wp2_with (at_lookup; refine wpList_lookup_own_ok_int _ rfl _ _ 63 rfl 3 3 .i64 ilaw Tryz.underlying63 Tryz.underlying3 (zeroI9 _) MB k Dm rfl HOWN.out _ _ rfl HKEY.out ?_; intro c9 hc1 hc2; rw [hc])
            exact ⟨⟨i + 1, x + 1, g8, d', by go_num, by omega, by have := HX.out; have := HSZE.out; omega, Lib.hid (by rw [HX.out]; omega), HU8, HR8, HMD, HB8⟩, by simp [intOf]; omega⟩
          | false =>
            have HNI : Hid ((h9 : Int) ∉ hdL r D i) := Lib.hid (by
              have := HHAS.out (h9 : Int)
              rw [hc] at this
              simpa using this.symm)
            have HMF : Hid (∀ w9 : World, w9.ownsMap Tryz.prog 3 (plainElem Tryz.prog 3) MB (k + 1) (Dm.put (li (h9 : Int)) (.lit (.int .i64 (k : Int)))) → MI w9 MB (hdL r D (i + 1))) := Lib.hid (fun w9 hown9 => by
              rw [hdL_out (by rw [← HH9.out]; exact HNI.out), ← HH9.out]
              exact MI.step (W0 := w8) (D := Dm) (by rw [← HKL.out]; exact HOWN.out) HHAS.out HAT.out (by rw [← HKL.out]; exact HSZM.out) HNI.out (by rw [← HKL.out]; exact hown9))
            have HWF := Lib.hid (plainElem_int (H := Unit) (P := Tryz.prog) Tryz.underlying3 (li_wf (x := (k : Int)) (by omega) (by omega)))
            go_wp2_with (first | (at_lookup; refine wpList_lookup_own_ok_int _ rfl _ _ 63 rfl 3 3 .i64 ilaw Tryz.underlying63 Tryz.underlying3 (zeroI9 _) MB k Dm rfl HOWN.out _ _ rfl HKEY.out ?_; intro c9 hc1 hc2; rw [hc]) | (at_len; refine wpList_len_own _ rfl _ 63 rfl 3 3 Tryz.underlying63 _ MB k Dm rfl HOWN.out ?_; rw [HSZM.out]) | (at_mapUpdate; refine wpList_mapUpdate_own _ rfl _ _ _ 63 rfl 3 3 ilaw Tryz.underlying63 _ MB k Dm rfl HOWN.out (by unfold maxLen; omega) _ _ _ rfl rfl HKEY.out _ [] HWF.out ?_; intro w9 hown9 hg9; have HM9 := Lib.hid (HMF.out w9 hown9); have HR9 := Lib.hid (row_grown' HR8.out hg9 HPM.out); have HB9 := Lib.hid (HB8.out.grown hg9 HB8.out.size (fun k hk => by cases hk; exact hMB4)); clear hown9 hg9))
            exact ⟨⟨i + 1, x + 1, g8, d', by go_num, by omega, by have := HX.out; have := HSZE.out; omega, Lib.hid (by rw [HX.out]; omega), HU8, HR9, HM9, HB9⟩, by simp [intOf]; omega⟩
        · have hxe : sz = x := by omega
          have HIM : Hid (i = m) := Lib.hid (by have := HX.out; have := HSZE.out; omega)
          have HX2 := HX
          subst hxe
          go_wp2_with fail
          refine (HSZ.out wr).mono ?_
          rintro e w7 ⟨rfl, hw7⟩
          have HBE : Hid (Below wr.heap.size wr w7) := Lib.hid (by rw [hw7]; exact (Below.refl _ _).alloc (Nat.le_refl _) _)
          obtain ⟨hs, hhs⟩ : ∃ hs, hs = hdL r D m := ⟨_, rfl⟩
          have HM7 : Hid (MI w7 MB hs) := Lib.hid (by rw [hhs, ← HIM.out]; exact HMI.out.below HBE.out)
          have HG7 := Lib.hid (HG'.out.below HBE.out)
          have HB7 := Lib.hid (HBI.out.trans (HBE.out.mono HBI.out.size))
          obtain ⟨Dm, hown, hhas, hat, hsz⟩ := HM7.out
          obtain ⟨n, hn⟩ : ∃ n, n = hs.length := ⟨_, rfl⟩
          have hnm : n ≤ m := by rw [hn, hhs]; exact hdL_len r D m
          rw [← hn] at hown hsz
          have HOWN := Lib.hid hown
          have HSZM := Lib.hid hsz
          have HHS := Lib.hid hhs
          have HN := Lib.hid hn
          obtain ⟨Z, hZ⟩ : ∃ Z, Z = w7.heap.size := ⟨_, rfl⟩
          have hMZ : MB < Z := by rw [hZ]; exact HM7.out.lt
          have hSZ : S < Z := by
            have h1 := HBX.out.2.2.2
            have h2 := HB4.out.size
            have h3 := HB7.out.size
            have h4 := HBW2.out
            omega
          have mk := run_make_row' (P := Tryz.prog) 31 23 (.slice none 0 0) 24 Tryz.underlying31 infoSI rfl .i64 .i64 n (by omega) (by omega)
          have HGR0 := Lib.hid (show Gr Z (w7.alloc (.cells (madeCells #[.slice none 0 0] n) 23)) (.slice (some ⟨Z, 0, none⟩) n n) (List.replicate n (.slice none 0 0)) (sdG r D hs A (L.take 0)) by
            rw [List.take_zero, sdG_nil, ← hn, hZ]
            exact Gr.made w7 n _ (by omega))
          have HG8 := Lib.hid (HG7.out.alloc (.cells (madeCells #[.slice none 0 0] n) 23))
          have HM8 := Lib.hid (HM7.out.below ((Below.refl _ _).alloc (Nat.le_refl _) (.cells (madeCells #[.slice none 0 0] n) 23)))
          have HB8 := Lib.hid (HB7.out.alloc HB7.out.size (.cells (madeCells #[.slice none 0 0] n) 23))
          have HZ := Lib.hid hZ
          clear hw7 HBE HMI HBI HG' HM7 HG7 hown hhas hat hsz hhs hn c0 c1 c2
          go_wp2_with (at_len; refine wpList_len_own _ rfl _ 63 rfl 3 3 Tryz.underlying63 _ MB n Dm rfl HOWN.out ?_; rw [HSZM.out])
          clear mk
          rw [← HZ.out]
          obtain ⟨oa, hoa⟩ : ∃ oa, oa = some (⟨Z, 0, none⟩ : Addr) := ⟨_, rfl⟩
          rw [← hoa] at HGR0 ⊢
          obtain ⟨oc, hoc⟩ : ∃ oc, oc = n := ⟨_, rfl⟩
          have HOC := Lib.hid hoc
          have HOA := Lib.hid hoa
          have HGR0' : Hid (Gr Z (w7.alloc (.cells (madeCells #[.slice none 0 0] n) 23)) (.slice oa n n) (List.replicate n (.slice none 0 0)) (sdG r D hs A (L.take 0))) := HGR0
          clear hoa hZ HGR0 hoc
          go_loopw [104] (fun jv wr => ∃ (j : Nat) (V : List Value) (g' d' : Nat → Nat), jv = .int .i64 (j : Nat) ∧ j ≤ m ∧ Hid (UF sz g' r d') ∧ Hid (Row 1 w4.heap.size wr (.slice (some ⟨pb, 0, none⟩) sz sz) sz (bkv g' sz)) ∧ Hid (MI wr MB hs) ∧ Hid (Gr Z wr (.slice oa n n) V (sdG r D hs A (L.take j))) ∧ Hid (Below w4.heap.size w4 wr)) (fun jv _ => m - (intOf jv).toNat)
          case atStart => exact ⟨0, _, g', d', rfl, Nat.zero_le _, HU', HG8, HM8, HGR0', HB8⟩
          case round =>
            clear HU' HG8 HM8 HGR0' HB8 HOWN HSZM
            obtain ⟨j, V, g1, d1, rfl, hj, HU1, HG1, HM1, HO1, HB1'⟩ := hrel
            have HBI2 : Hid (Below w2.heap.size w2 wr) := Lib.hid (HB4.out.trans (HB1'.out.mono HB4.out.size))
            by_cases hlj : j < m
            · obtain ⟨i1, hi1⟩ : ∃ i1, L[j]? = some i1 := ⟨L[j]'(by rw [HLM.out]; exact hlj), by simp⟩
              have hin := HIN.out i1 (List.mem_of_getElem? hi1)
              obtain ⟨i0, rfl⟩ : ∃ i0 : Nat, i1 = (i0 : Int) := ⟨i1.toNat, by omega⟩
              have hLj : (L.map fun x => (D : Int) + x)[j]? = some ((D + i0 : Nat) : Int) := by rw [List.getElem?_map, hi1]; simp
              obtain ⟨y, hy⟩ : ∃ y, A[i0]? = some y := ⟨A[i0]'(by rw [← HM.out]; omega), by simp⟩
              have HTK : Hid (L.take (j + 1) = L.take j ++ [(i0 : Int)]) := Lib.hid (by rw [List.take_add_one, hi1]; rfl)
              have HTG : Hid (thgI A (i0 : Int) = (y : Int)) := Lib.hid (by simp [thgI, List.getD_eq_getElem?_getD, hy])
              have HT := Lib.hid (HTH.out i0 y hy)
              obtain ⟨q, hq⟩ : ∃ q, q = D + i0 := ⟨_, rfl⟩
              have hqs : q < sz := by have := HSZE.out; omega
              rw [← hq] at hLj HT
              obtain ⟨vb, vo, rfl, hvb, hvc1, hvc2, cl⟩ := HRL.out.at hLj
              have cl := (HBI2.out.cell (p := ⟨vb, _, none⟩) hvb).trans cl
              have HQ := Lib.hid hq
              have HH := Lib.hid (head_any q wr HU1.out hqs (by omega) HG1.out)
              have HRM : Hid ((r q : Int) ∈ hs) := Lib.hid (by rw [HHS.out]; exact hdL_mem.2 ⟨i0, by omega, by rw [hq]⟩)
              unfold maxLen at hvc2
              clear hi1 hin hLj hy hq hvb
              go_wp2_with fail
              refine HH.out.mono ?_
              rintro e w8 ⟨g8, rfl, hU8, hR8, ho8⟩
              obtain ⟨h9, hh9⟩ : ∃ h9, h9 = r q := ⟨_, rfl⟩
              have hh9s : h9 < sz := by rw [hh9]; exact hU8.rlt q hqs
              have HPZ : Hid (∀ b, Z ≤ b → ¬ b = pb) := Lib.hid (fun b hb e => by omega)
              have HB8 : Hid (Below w4.heap.size w4 w8) := Lib.hid (HB1'.out.trans (ho8.below (B := w4.heap.size) (fun k hk => by rw [hk]; exact HPB.out) HB1'.out.size))
              have HGR : Hid (Gr Z w8 (.slice oa n n) V (sdG r D hs A (L.take j))) := Lib.hid (HO1.out.off ho8 (fun b hb _ => HPZ.out b hb))
              have HM8 := Lib.hid (HM1.out.off ho8 (fun e => by omega))
              have HHE := Lib.hid hh9
              obtain ⟨Dm, hown, hhas, hat, hsz⟩ := HM8.out
              rw [← HN.out] at hown
              have HOWN := Lib.hid hown
              obtain ⟨l, hl⟩ : ∃ l, l = hs.idxOf (h9 : Int) := ⟨_, rfl⟩
              have hmem : (h9 : Int) ∈ hs := by rw [hh9]; exact HRM.out
              have hlN : l < n := by rw [hl, HN.out]; exact List.idxOf_lt_length_of_mem hmem
              have HAT := Lib.hid (show Dm.atKey (li (h9 : Int)) (.lit (.int .i64 0)) = .lit (.int .i64 (l : Int)) by rw [hl]; exact hat _ hmem)
              have HLI : Hid (hs[l]? = some ((r (D + (i0 : Int).toNat) : Nat) : Int)) := Lib.hid (by
                rw [hl, List.getElem?_eq_getElem (List.idxOf_lt_length_of_mem hmem), List.getElem_idxOf, hh9, HQ.out]
                simp)
              have HKEY := Lib.hid (show keyOf Tryz.prog 3 (.int .i64 (h9 : Int)) = some (li (h9 : Int)) from li_key (by omega) (by omega))
              have HU8 := Lib.hid hU8
              have HR8 := Lib.hid hR8
              rw [← hh9]
              have hsz8 : wr.heap.size ≤ w8.heap.size := ho8.size
              clear hU8 hR8 ho8 hown hhas hat hsz hl hh9 hmem HU1 HG1 HM1 HO1 HB1' cl
              have HLIT : Hid (∀ c : Int, Dm.atKey (li (h9 : Int)) (.lit (.int .i64 0)) = .lit (.int .i64 c) → c = (l : Int)) := Lib.hid (fun c hc => lit_i (hc.symm.trans HAT.out))
              go_wp2_with (at_lookup; refine wpList_lookup_own_int _ rfl _ _ 63 rfl 3 3 .i64 ilaw Tryz.underlying63 Tryz.underlying3 (zeroI9 _) MB n Dm rfl HOWN.out _ _ rfl HKEY.out ?_; intro c9 hc1 hc2; obtain rfl := HLIT.out c9 hc1; clear hc1 hc2)
              have HBV : Hid (Below w.heap.size w w8) := Lib.hid (HB2.out.trans ((HB4.out.trans (HB8.out.mono HB4.out.size)).mono HB2.out.size))
              have HBXV := Lib.hid (HBXB.out w8 (HB4.out.trans (HB8.out.mono HB4.out.size)))
              obtain ⟨gb, gc', hgf, hgb1, hgb2, hncap, hcapm, hcells, hcv⟩ := HGR.out.row.pos (by have h1 := HGR.out.len; rw [sdG_len, ← HN.out] at h1; omega)
              have hgl9 := HGR.out.len
              have hnn : n = V.length := by rw [hgl9, sdG_len]; exact HN.out
              rw [← hnn] at hgf
              injection hgf with e1 _ e3
              subst e1
              subst e3
              obtain ⟨u, hu⟩ : ∃ u, V[l]? = some u := ⟨V[l]'(by omega), by simp⟩
              obtain ⟨g, hg⟩ : ∃ g, (sdG r D hs A (L.take j))[l]? = some g := ⟨(sdG r D hs A (L.take j))[l]'(by omega), by simp⟩
              have hur := HGR.out.each l u g hu hg
              obtain ⟨ua, uc, huf⟩ := hur.form
              obtain ⟨gl, hgl⟩ : ∃ gl, gl = g.length := ⟨_, rfl⟩
              rw [← hgl] at huf hur
              subst huf
              have hub : ∀ i, (Value.slice ua gl uc).ownBlock = some i → i ≠ gb ∧ Z ≤ i ∧ i < w8.heap.size := fun i hi => ⟨fun e => HGR.out.out l _ i hu hi (by rw [e]; rfl), (hur.lt i hi).1, (hur.lt i hi).2⟩
              have cgl := hcv l _ hu
              have fgl := (hcells l (by omega)).2
              have HST : Hid (w8.drew.cell? ⟨gb, l, none⟩ = some (.slice ua gl uc) ∧ w8.drew.frozen? ⟨gb, l, none⟩ = false ∧ (w8.drew.cell? ⟨S, 0, none⟩ = some (.slice ta m tc) ∧ w8.drew.cell? ⟨S, 1, none⟩ = some (.int .i64 (D : Int)) ∧ w8.drew.cell? ⟨S, 2, none⟩ = some (.slice ea EL ec)) ∧ Below w.heap.size w w8.drew) := Lib.hid ⟨cgl, fgl, HBXV.out, HBV.out.drew⟩
              have hglb : gl ≤ 100000 := by
                have h1 := sdG_short r D hs A (L.take j) g (List.mem_of_getElem? hg)
                have h2 := List.length_take_le j L
                omega
              have HFN : Hid (∀ w3, Below w8.drew.heap.size w8.drew w3 → RnS gb l S Z ua gl uc ta m tc D (.slice ea EL ec) g y w w8 (sdG r D hs A (L.take j)) V n n w3) := Lib.hid (fun w3 hb3 => rn_fact HGR.out hu hg hgl hub hgb2 hgb1 HST.out ⟨hSZ, by rw [HS.out]; exact Nat.le_refl _⟩ hb3)
              have HEQ : Hid ((sdG r D hs A (L.take j)).set l (g ++ [(y : Int)]) = sdG r D hs A (L.take (j + 1))) := Lib.hid (by
                rw [HTK.out, ← HTG.out]
                exact sdG_step (by rw [HHS.out]; exact hdL_nodup m) HLI.out hg)
              have HGZ := Lib.hid hgb1
              clear hgl9 hu hg hur hgl hub hgb1 hgb2 hcells hcv cgl fgl hnn hncap hcapm
              refine wp_region_til (S := (fun W => W.cell? ⟨gb, l, none⟩ = some (.slice ua gl uc) ∧ W.frozen? ⟨gb, l, none⟩ = false ∧ (W.cell? ⟨S, 0, none⟩ = some (.slice ta m tc) ∧ W.cell? ⟨S, 1, none⟩ = some (.int .i64 (D : Int)) ∧ W.cell? ⟨S, 2, none⟩ = some (.slice ea EL ec)) ∧ Below w.heap.size w W)) 12 (by kernel_rfl) ?_ (fun hHeld => ?_)
              · exact HST.out
              refine tkT 0 ⟨some 113, .move (.tmp 15), 31, "board.go:169", #[], none⟩ ?_
              try simp only [Act.put, List.setIfInBounds_toArray, List.set_cons_zero, List.set_cons_succ]
              refine tkT 1 ⟨some 114, .move (.tmp 18), 3, "board.go:169", #[], none⟩ ?_
              try simp only [Act.put, List.setIfInBounds_toArray, List.set_cons_zero, List.set_cons_succ]
              refine tkT 2 ⟨some 115, .move (.tmp 15), 31, "board.go:169", #[], none⟩ ?_
              try simp only [Act.put, List.setIfInBounds_toArray, List.set_cons_zero, List.set_cons_succ]
              refine tkT 3 ⟨some 116, .move (.tmp 18), 3, "board.go:169", #[], none⟩ ?_
              try simp only [Act.put, List.setIfInBounds_toArray, List.set_cons_zero, List.set_cons_succ]
              refine tkT 4 ⟨some 117, .indexAddr 31 (.tmp 115) (.tmp 116), 0, "board.go:169", #[⟨2, .data⟩, ⟨3, .data⟩], none⟩ ?_
              try simp only [Act.put, List.setIfInBounds_toArray, List.set_cons_zero, List.set_cons_succ]
              refine tkT 5 ⟨some 118, .load 23 (.tmp 117), 23, "board.go:169", #[⟨4, .data⟩], none⟩ ?_
              try simp only [Act.put, List.setIfInBounds_toArray, List.set_cons_zero, List.set_cons_succ]
              refine tkT 6 ⟨some 119, .load 59 (.tmp 1), 59, "board.go:169", #[], none⟩ ?_
              try simp only [Act.put, List.setIfInBounds_toArray, List.set_cons_zero, List.set_cons_succ]
              refine tkT 7 ⟨some 120, .move (.tmp 17), 3, "board.go:169", #[], none⟩ ?_
              try simp only [Act.put, List.setIfInBounds_toArray, List.set_cons_zero, List.set_cons_succ]
              refine til_one (i := 8) (o := ⟨some 121, .call { callee := Callee.value (Operand.func 63), args := #[.tmp 119, .tmp 120], argTypes := #[59, 3] }, 3, "board.go:169", #[⟨6, .data⟩, ⟨7, .data⟩], none⟩) (by kernel_rfl) rfl (fun KK hK => ?_)
              go_simp
              go_at_call 63
              refine (HT.out _ hHeld.2.2.2).mono ?_
              rintro e w9 ⟨rfl, hb3⟩
              have HF3 := Lib.hid (HFN.out w9 hb3)
              clear hb3
              refine hK.out _ _ ?_ (fun hHeld => ?_)
              · exact HF3.out.1
              clear hK KK
              try simp only [Act.put, List.setIfInBounds_toArray, List.set_cons_zero, List.set_cons_succ]
              refine til_one (i := 9) (o := ⟨some 122, .buildSlice 23 1 #[(0, .tmp 121)], 23, "board.go:169", #[⟨8, .data⟩], none⟩) (by kernel_rfl) rfl (fun KK hK => ?_)
              go_simp
              refine hK.out _ _ ?_ (fun hHeld => ?_)
              · exact HF3.out.2.1
              clear hK KK
              try simp only [Act.put, List.setIfInBounds_toArray, List.set_cons_zero, List.set_cons_succ]
              refine til_one (i := 10) (o := ⟨some 123, .call { callee := Callee.builtin Builtin.append, args := #[.tmp 118, .tmp 122], argTypes := #[23, 23] }, 23, "board.go:169", #[⟨5, .data⟩, ⟨9, .data⟩, ⟨8, .chain⟩], none⟩) (by kernel_rfl) rfl (fun KK hK => ?_)
              refine step_append_row rfl (.tmp 118) (.tmp 122) 23 23 rfl 1 3 (.int .i64 0) 8 Tryz.underlying23 infoIk rfl Z (.slice ua gl uc) gl (iv g) (by simp [Act.eval]) HF3.out.2.2.1 (.slice (some ⟨w9.heap.size, 0, none⟩) 1 1) (by simp [Act.eval]) 1 [.int .i64 (y : Int)] HF3.out.2.2.2.1 HF3.out.2.2.2.2.1 (by omega) (by decide) ?_
              intro v8 w8 hr8 ho8 hw8
              obtain ⟨a8, c8, hv8⟩ := hr8.form
              subst hv8
              have HF8 := Lib.hid (HF3.out.2.2.2.2.2 _ w8 hr8 ho8 hw8)
              have HS8 := Lib.hid HF8.out.1
              clear hr8 ho8 hw8
              refine hK.out _ _ ?_ (fun hHeld => ?_)
              · exact HS8.out
              clear hK KK
              try simp only [Act.put, List.setIfInBounds_toArray, List.set_cons_zero, List.set_cons_succ]
              refine til_one (i := 11) (o := ⟨some 124, .indexAddr 31 (.tmp 113) (.tmp 114), 0, "board.go:169", #[⟨0, .data⟩, ⟨1, .data⟩, ⟨0, .phase⟩, ⟨1, .phase⟩, ⟨2, .phase⟩, ⟨3, .phase⟩, ⟨4, .phase⟩, ⟨5, .phase⟩, ⟨6, .phase⟩, ⟨7, .phase⟩, ⟨8, .phase⟩, ⟨9, .phase⟩, ⟨10, .phase⟩], none⟩) (by kernel_rfl) rfl (fun KK hK => ?_)
              go_simp
              refine hK.out _ _ ?_ (fun hHeld => ?_)
              · exact HS8.out
              clear hK KK
              try simp only [Act.put, List.setIfInBounds_toArray, List.set_cons_zero, List.set_cons_succ]
              refine til_last (o := ⟨none, .store 23 (.tmp 124) (.tmp 123), 0, "board.go:169", #[⟨11, .data⟩, ⟨10, .data⟩, ⟨10, .chain⟩, ⟨0, .phase⟩, ⟨1, .phase⟩, ⟨2, .phase⟩, ⟨3, .phase⟩, ⟨4, .phase⟩, ⟨5, .phase⟩, ⟨6, .phase⟩, ⟨7, .phase⟩, ⟨8, .phase⟩, ⟨9, .phase⟩, ⟨10, .phase⟩], none⟩) (by kernel_rfl) rfl (by kernel_rfl) (fun KK hK => ?_)
              go_simp
              obtain ⟨q1, qf, _, _⟩ := hHeld
              go_simp
              refine hK.out _ _ ?_
              clear hK KK
              try simp only [Act.put, List.setIfInBounds_toArray, List.set_cons_zero, List.set_cons_succ]
              unfold Exit.inBlock
              dsimp only
              go_simp
              go_wp2_with fail
              have hend := HF8.out.2.1
              rw [HEQ.out] at hend
              exact ⟨⟨j + 1, _, g8, d1, by go_num, by omega, HU8, Lib.hid (HR8.out.off HF8.out.2.2 (fun b hb e => by have : pb = b := by simpa [Value.ownBlock] using hb
                                                                                                                     omega)), Lib.hid (HM8.out.off HF8.out.2.2 (fun e => by omega)), Lib.hid hend, Lib.hid (HB8.out.trans (HF8.out.2.2.below (B := w4.heap.size) (fun b hb => by omega) HB8.out.size))⟩, by simp [intOf]; omega⟩
            · have hje : m = j := by omega
              have HGE := Lib.hid (show RG wr (.slice oa n n) (sdG r D (hdL r D m) A L) by
                have h := HO1.out.reads
                rw [← hje, List.take_of_length_le (by rw [HLM.out]; exact Nat.le_refl _), HHS.out] at h
                exact h)
              have HBE : Hid (Below w.heap.size w wr) := Lib.hid (HB2.out.trans (HBI2.out.mono HB2.out.size))
              subst hje
              clear HO1
              go_wp2_with fail
              go_ret
              exact ⟨_, L, r, rfl, HK.out, HLM.out, HSI9.out, HGE.out, HBE.out⟩
end
end Go.Proofs.YtfpepoebammeoaaGreat
