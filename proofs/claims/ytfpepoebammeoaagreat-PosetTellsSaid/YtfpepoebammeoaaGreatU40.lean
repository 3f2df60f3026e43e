/- Of package poset: runs. -/
import Derived.Test.YtfpepoebammeoaaGreatU39
import Derived.Test.YtfpepoebammeoaaGreatU6
set_option linter.unusedVariables false
set_option linter.unusedSimpArgs false
namespace Go.Proofs.YtfpepoebammeoaaGreat
open Go.ChangeShapes Go.WideShapes Go.ChangeAt Go.RowKit

theorem infoSI : (Tryz.prog.info? 23).map (fun i => (i.zero, i.size, i.bytes)) = some (some (.slice none 0 0), 1, 24) := by kernel_rfl
theorem oneSI : ∀ u ∈ [Value.slice none 0 0], u.oneCell' = true := by intro u hu; rw [List.mem_singleton.1 hu]; rfl
def RnS (gb l S Z : Nat) (ua : Option Addr) (gl uc : Nat) (ta : Option Addr) (m tc D : Nat) (ev : Value) (g : List Int) (y : Nat) (w W : World) (G : List (List Int)) (V : List Value) (gc n : Nat) (w3 : World) : Prop :=
  let S0 : World → Prop := fun W => W.cell? ⟨gb, l, none⟩ = some (.slice ua gl uc) ∧ W.frozen? ⟨gb, l, none⟩ = false ∧ (W.cell? ⟨S, 0, none⟩ = some (.slice ta m tc) ∧ W.cell? ⟨S, 1, none⟩ = some (.int .i64 (D : Int)) ∧ W.cell? ⟨S, 2, none⟩ = some ev) ∧ Below w.heap.size w W
  S0 w3 ∧ S0 (w3.alloc (.cells #[.int .i64 (y : Int)] 3)) ∧ Row 1 Z (w3.alloc (.cells #[.int .i64 (y : Int)] 3)) (.slice ua gl uc) gl (iv g) ∧ Src Tryz.prog 1 23 (.slice (some ⟨w3.heap.size, 0, none⟩) 1 1) 1 [.int .i64 (y : Int)] (w3.alloc (.cells #[.int .i64 (y : Int)] 3)) ∧ Z ≤ (w3.alloc (.cells #[.int .i64 (y : Int)] 3)).heap.size ∧
  ∀ v8 w8, Row 1 Z w8 v8 (gl + 1) (iv g ++ [.int .i64 (y : Int)]) → Off (fun i => (Value.slice ua gl uc).ownBlock = some i) (w3.alloc (.cells #[.int .i64 (y : Int)] 3)) w8 → (v8.ownBlock = (Value.slice ua gl uc).ownBlock ∨ v8.ownBlock = some (w3.alloc (.cells #[.int .i64 (y : Int)] 3)).heap.size) →
    S0 w8 ∧ Gr Z (w8.setCell ⟨gb, l, none⟩ v8) (.slice (some ⟨gb, 0, none⟩) n gc) (V.set l v8) (G.set l (g ++ [(y : Int)])) ∧ Off (fun i => Z ≤ i) W (w8.setCell ⟨gb, l, none⟩ v8)
theorem rn_fact {gb l S Z gl uc m tc D y gc n : Nat} {ua ta : Option Addr} {ev : Value} {g : List Int} {w W w3 : World} {G : List (List Int)} {V : List Value} (hG : Gr Z W (.slice (some ⟨gb, 0, none⟩) n gc) V G) (hu : V[l]? = some (.slice ua gl uc)) (hg : G[l]? = some g) (hgl : gl = g.length)
    (hub : ∀ i, (Value.slice ua gl uc).ownBlock = some i → i ≠ gb ∧ Z ≤ i ∧ i < W.heap.size) (hgb2 : gb < W.heap.size) (hgb1 : Z ≤ gb)
    (hS : W.drew.cell? ⟨gb, l, none⟩ = some (.slice ua gl uc) ∧ W.drew.frozen? ⟨gb, l, none⟩ = false ∧ (W.drew.cell? ⟨S, 0, none⟩ = some (.slice ta m tc) ∧ W.drew.cell? ⟨S, 1, none⟩ = some (.int .i64 (D : Int)) ∧ W.drew.cell? ⟨S, 2, none⟩ = some ev) ∧ Below w.heap.size w W.drew) (hSZ : S < Z ∧ w.heap.size ≤ S) (hb3 : Below W.drew.heap.size W.drew w3) : RnS gb l S Z ua gl uc ta m tc D ev g y w W G V gc n w3 := by
  have hb3' : Below W.heap.size W w3 := ⟨hb3.os, hb3.tape, hb3.output, hb3.size, hb3.block⟩
  have hs3 : W.heap.size ≤ w3.heap.size := hb3.size
  have hal : Below w3.heap.size w3 (w3.alloc (.cells #[.int .i64 (y : Int)] 3)) := (Below.refl _ _).alloc (Nat.le_refl _) _
  have hSW : S < W.heap.size := by omega
  obtain ⟨s0, s1, ⟨s2, s3, s4⟩, s5⟩ := hS
  have key : ∀ X, Off (fun i => (Value.slice ua gl uc).ownBlock = some i) W X → X.cell? ⟨gb, l, none⟩ = some (.slice ua gl uc) ∧ X.frozen? ⟨gb, l, none⟩ = false ∧ (X.cell? ⟨S, 0, none⟩ = some (.slice ta m tc) ∧ X.cell? ⟨S, 1, none⟩ = some (.int .i64 (D : Int)) ∧ X.cell? ⟨S, 2, none⟩ = some ev) ∧ Below w.heap.size w X := fun X ho => by
    have n1 : ¬ (Value.slice ua gl uc).ownBlock = some gb := fun e => (hub gb e).1 rfl
    have n2 : ¬ (Value.slice ua gl uc).ownBlock = some S := fun e => by have := (hub S e).2.1; omega
    exact ⟨(ho.cell (p := ⟨gb, l, none⟩) hgb2 n1).trans s0, (ho.frozen (p := ⟨gb, l, none⟩) hgb2 n1).trans s1, ⟨(ho.cell (p := ⟨S, 0, none⟩) hSW n2).trans s2, (ho.cell (p := ⟨S, 1, none⟩) hSW n2).trans s3, (ho.cell (p := ⟨S, 2, none⟩) hSW n2).trans s4⟩, (show Below w.heap.size w W from ⟨s5.os, s5.tape, s5.output, s5.size, s5.block⟩).trans (ho.below (fun i hi => by have := (hub i hi).2.1; omega) s5.size)⟩
  have hur := hG.each l _ g hu hg
  rw [← hgl] at hur
  have hoa : Off (fun i => (Value.slice ua gl uc).ownBlock = some i) W (w3.alloc (.cells #[.int .i64 (y : Int)] 3)) := (Off.of_below hb3').alloc _
  refine ⟨key w3 (Off.of_below hb3'), key _ hoa, (hur.below hb3').alloc _, src_new Tryz.underlying23 [.int .i64 (y : Int)] 1 3 1 rfl oneIk, by have := hal.size; omega, fun v8 w8 hr8 ho8 hw8 => ?_⟩
  have ho9 := hoa.trans ho8
  refine ⟨key w8 ho9, ?_, ?_⟩
  · rw [hgl] at hr8
    exact (hG.below (hb3'.trans (hal.mono hs3))).push hu hg ho8 hr8 (hw8.imp id fun h => ⟨_, h, Nat.le_refl _⟩)
  · exact (ho9.mono (fun i hi => (hub i hi).2.1)).setCell (p := ⟨gb, l, none⟩) (.inr hgb1) _
def xOf (A : List Nat) (L : List Int) (k : Nat) : Int := ((A.getD (L.getD k 0).toNat 0 : Nat) : Int)
theorem runL_grow {α : Type} (s : Nat → Bool) (x : Nat → α) {k : Nat} (h : newR s k = true) : (runL s x k ++ [[]]).set (runL s x k).length ([] ++ [x k]) = runL s x (k + 1) := by
  show _ = if newR s k then runL s x k ++ [[x k]] else _
  rw [if_pos h, List.set_append_right _ _ (Nat.le_refl _), Nat.sub_self]
  rfl
theorem runL_more {α : Type} (s : Nat → Bool) (x : Nat → α) {k : Nat} {g : List α} (h : newR s k = false) (hg : (runL s x k)[(runL s x k).length - 1]? = some g) : (runL s x k).set ((runL s x k).length - 1) (g ++ [x k]) = runL s x (k + 1) := by
  show _ = if newR s k then _ else putL (runL s x k) (x k)
  rw [if_neg (by rw [h]; simp), putL_set _ hg]
theorem runL_flat {α : Type} (s : Nat → Bool) (x : Nat → α) : ∀ k, ((runL s x k).map List.length).sum = k
  | 0 => rfl
  | k + 1 => by
    have ih := runL_flat s x k
    have h := congrArg List.length (runI_all s (k + 1)).flat
    rw [List.length_flatten, List.length_range] at h
    have e : runL s x (k + 1) = (runL s id (k + 1)).map (List.map x) := by rw [runL_map]; rfl
    rw [e, List.map_map]
    have : (List.length ∘ List.map x) = (List.length : List Nat → Nat) := by funext l; simp
    rw [this]
    exact h
theorem sum_ge : ∀ {l : List Nat} {x : Nat}, x ∈ l → x ≤ l.sum
  | a :: l, x, h => by
    rcases List.mem_cons.1 h with e | h
    · subst e; simp
    · have := sum_ge h; simp; omega
theorem runL_short {α : Type} (s : Nat → Bool) (x : Nat → α) (k : Nat) : ∀ g ∈ runL s x k, g.length ≤ k := fun g hg => by
  have := sum_ge (List.mem_map.2 ⟨g, hg, rfl⟩ : g.length ∈ (runL s x k).map List.length)
  rw [runL_flat] at this
  exact this
section
variable {R : Nat → Nat → Prop} {D : Nat} {rk : Nat → Nat} {E : EdN} {A : List Nat}
set_option maxHeartbeats 8000000 in
set_option maxRecDepth 100000 in
theorem runs_any (bv : Value) (w : World) (hM : BoardM w bv A D E) (hB : BoardS R A.length D rk E) (hD : D ≤ 200000) (hA : A.length ≤ 100000) (hE : E.length ≤ 100000) :
    Calls Tryz.prog 36 #[bv] w fun e w' => ∃ ov L, e = .returned ov ∧ ReachK (needE (pairA R A.length)) A.length L ∧ L.length = A.length ∧ RG w' ov (runL (sglB (bkA (ownB D L L.length) E) (onA (ownO D L L.length) A.length E) D L) (xOf A L) A.length) ∧ Below w.heap.size w w' := by
  obtain ⟨tv, ev, rfl, hrt, hre⟩ := hM
  obtain ⟨ta, tc, rfl⟩ := hrt.form
  rw [nl_len]
  rw [nl_len] at hrt
  obtain ⟨m, hm⟩ : ∃ m, m = A.length := ⟨_, rfl⟩
  have hrt' := hrt
  rw [← hm] at hrt'
  have hlt := hB.lt
  rw [← hm] at hlt
  have HLINE := Lib.hid (fun W (hb : Below w.heap.size w W) => line_any (.agg #[.slice ta A.length tc, .int .i64 (D : Int), ev]) W ⟨_, _, rfl, hrt.below hb, hre.below hb⟩ hB hD hA hE)
  have HRC := Lib.hid (fun (L : List Int) (lv : Value) W (hb : Below w.heap.size w W) (hl : RI W lv (L.map fun x => (D : Int) + x)) (h1 : L.length = m) (h2 : ∀ x ∈ L, 0 ≤ x ∧ x < (m : Int)) (h3 : L.Nodup) =>
    single_any D m (D + m) (.slice ta m tc) ev lv L (fun f g => f = bkA (ownB D L L.length) E ∧ g = onA (ownO D L L.length) m E) W hl h1 h2 rfl (by omega) hD (fun W2 hb2 => (reaches_any D m (D + m) ta tc ev lv E L W2 (hl.below hb2) (hre.below (hb.trans (hb2.mono hb.size))) h1 h2 h3 rfl (by omega) hD hlt hE).mono (fun e w' ⟨rv, e1, e2, e3⟩ => ⟨rv, _, _, e1, e2, ⟨rfl, rfl⟩, e3⟩)))
  have HTH := Lib.hid (fun (i x : Nat) (hx : A[i]? = some x) W (hb : Below w.heap.size w W) => thing_any ta tc D i A ev x W (hrt.below hb) hx (by omega) (by omega))
  rw [← hm] at HLINE HTH hA ⊢
  have HM := Lib.hid hm
  obtain ⟨w1, hw1⟩ : ∃ w1, w1 = w.alloc (.cells #[.slice ta m tc, .int .i64 (D : Int), ev] 59) := ⟨_, rfl⟩
  have hb1 : Below w.heap.size w w1 := by rw [hw1]; exact (Below.refl _ _).alloc (Nat.le_refl _) _
  obtain ⟨S, hS⟩ : ∃ S, S = w.heap.size := ⟨_, rfl⟩
  have hbx : w1.cell? ⟨S, 0, none⟩ = some (.slice ta m tc) ∧ w1.cell? ⟨S, 1, none⟩ = some (.int .i64 (D : Int)) ∧ w1.cell? ⟨S, 2, none⟩ = some ev ∧ S < w1.heap.size := by
    rw [hw1, hS]
    exact ⟨World.cell?_alloc_at _ _ _ _ rfl, World.cell?_alloc_at _ _ _ _ rfl, World.cell?_alloc_at _ _ _ _ rfl, by simp⟩
  have HW1 := Lib.hid hw1
  have HB1 := Lib.hid hb1
  have HBX := Lib.hid hbx
  have HS := Lib.hid hS
  clear hB hrt hre hrt' hlt hm hw1 hb1 hbx
  go_enter Tryz.func36, Tryz.ntmps36
  go_wp2_with fail
  rw [← HW1.out]
  refine (HLINE.out w1 HB1.out).mono ?_
  rintro e w2 ⟨lv, L, rfl, hrl, hK, hLm, hb2⟩
  obtain ⟨la, lc, hlf⟩ := hrl.form
  rw [List.length_map, hLm] at hlf
  subst hlf
  obtain ⟨hnd, hin⟩ := reach_tame hK
  have hin' : ∀ x ∈ L, 0 ≤ x ∧ x < (m : Int) := fun x hx => by
    obtain ⟨u, hu, e⟩ := hin x hx
    omega
  have HB2 := Lib.hid (HB1.out.trans (hb2.mono HB1.out.size))
  have HSG := Lib.hid (HRC.out L (.slice la m lc) w2 HB2.out hrl hLm hin' hnd)
  have HRL := Lib.hid hrl
  have HK := Lib.hid hK
  have HLM := Lib.hid hLm
  have HIN := Lib.hid hin'
  have hS1w : S < w1.heap.size := HBX.out.2.2.2
  have x0 := (hb2.cell (p := ⟨S, 0, none⟩) hS1w).trans HBX.out.1
  have x1 := (hb2.cell (p := ⟨S, 1, none⟩) hS1w).trans HBX.out.2.1
  have x2 := (hb2.cell (p := ⟨S, 2, none⟩) hS1w).trans HBX.out.2.2.1
  have hSw2 : S < w2.heap.size := Nat.lt_of_lt_of_le hS1w hb2.size
  have HX2 := Lib.hid (And.intro x0 (And.intro x1 (And.intro x2 hSw2)))
  clear hrl hK hLm hnd hin hin' hb2 hS1w
  rw [← hS]
  clear hS
  go_wp2_with fail
  refine HSG.out.mono ?_
  rintro e w3 ⟨sv, f, g, rfl, hrs, ⟨rfl, rfl⟩, hb3⟩
  obtain ⟨s, hs⟩ : ∃ s, s = sglB (bkA (ownB D L L.length) E) (onA (ownO D L L.length) m E) D L := ⟨_, rfl⟩
  rw [← hs] at hrs
  obtain ⟨X, hX⟩ : ∃ X, X = xOf A L := ⟨_, rfl⟩
  obtain ⟨Z, hZ⟩ : ∃ Z, Z = w3.heap.size := ⟨_, rfl⟩
  have HB3 := Lib.hid (HB2.out.trans (hb3.mono HB2.out.size))
  have HRL3 := Lib.hid (HRL.out.below hb3)
  have y0 := (hb3.cell (p := ⟨S, 0, none⟩) HX2.out.2.2.2).trans HX2.out.1
  have y1 := (hb3.cell (p := ⟨S, 1, none⟩) HX2.out.2.2.2).trans HX2.out.2.1
  have y2 := (hb3.cell (p := ⟨S, 2, none⟩) HX2.out.2.2.2).trans HX2.out.2.2.1
  have HY := Lib.hid (And.intro y0 (And.intro y1 y2))
  have HSZ9 : Hid (S < Z ∧ w.heap.size ≤ S) := Lib.hid ⟨by have := hb3.size; have := HX2.out.2.2.2; omega, by rw [HS.out]; exact Nat.le_refl _⟩
  have HRS := Lib.hid hrs
  have HZ := Lib.hid hZ
  have HSS := Lib.hid hs
  have HXX := Lib.hid hX
  obtain ⟨sa, sc, hsf⟩ := hrs.form
  subst hsf
  clear hrs hb3 hs hX hZ x0 x1 x2 y0 y1 y2 hSw2
  go_wp2_with fail
  go_loopw [5, 16] (fun ov jv wr => ∃ (j : Nat) (V : List Value), jv = .int .i64 (j : Nat) ∧ j ≤ m ∧ Hid (Gr Z wr ov V (runL s X j)) ∧ Hid (Below w3.heap.size w3 wr)) (fun _ jv _ => m - (intOf jv).toNat)
  case atStart => exact ⟨0, [], rfl, Nat.zero_le _, Lib.hid (Gr.nil _ _), Lib.hid (Below.refl _ _)⟩
  case round =>
    obtain ⟨j, V, rfl, hj, HG, HBR⟩ := hrel
    obtain ⟨oa, oc, hof⟩ := HG.out.row.form
    obtain ⟨n, hn⟩ : ∃ n, n = V.length := ⟨_, rfl⟩
    rw [← hn] at hof
    subst hof
    have HNV := Lib.hid hn
    have hnj : n ≤ j := by rw [hn, HG.out.len]; exact runL_len s X j
    have HBW := Lib.hid (HB3.out.trans (HBR.out.mono HB3.out.size))
    have hsz3 := HBR.out.size
    clear hn
    by_cases hlj : j < m
    · obtain ⟨i, hi⟩ : ∃ i, L[j]? = some i := ⟨L[j]'(by rw [HLM.out]; exact hlj), by simp⟩
      have hin := HIN.out i (List.mem_of_getElem? hi)
      obtain ⟨i0, rfl⟩ : ∃ i0 : Nat, i = (i0 : Int) := ⟨i.toNat, by omega⟩
      have hLj : (L.map fun x => (D : Int) + x)[j]? = some ((D + i0 : Nat) : Int) := by rw [List.getElem?_map, hi]; simp
      obtain ⟨y, hy⟩ : ∃ y, A[i0]? = some y := ⟨A[i0]'(by rw [← HM.out]; omega), by simp⟩
      have hXj : X j = (y : Int) := by
        rw [HXX.out]
        simp [xOf, List.getD_eq_getElem?_getD, hi, hy]
      have HTH := Lib.hid (HTH.out i0 y hy)
      obtain ⟨d, hd⟩ : ∃ d, d = D + i0 := ⟨_, rfl⟩
      rw [← hd] at hLj HTH
      obtain ⟨vb, vo, rfl, hvb, hvc1, hvc2, cl⟩ := HRL3.out.at hLj
      have cl := (HBR.out.cell (p := ⟨vb, _, none⟩) hvb).trans cl
      have HRSr := Lib.hid (HRS.out.below HBR.out)
      obtain ⟨sb, sc', hsf, _, _, hsc1, hsc2, _, hsv⟩ := HRSr.out.pos (by omega)
      injection hsf with e1 _ e3
      subst e1
      subst e3
      have cs : wr.cell? ⟨sb, j, none⟩ = some (.bool (s j)) := hsv j _ (tbv_at s hlj)
      have cs1 : 0 < j → wr.cell? ⟨sb, j - 1, none⟩ = some (.bool (s (j - 1))) := fun h => hsv (j - 1) _ (tbv_at s (by omega))
      have hSr : S < w3.heap.size := by have := HSZ9.out; have := HZ.out; omega
      have b0 := (HBR.out.cell (p := ⟨S, 0, none⟩) hSr).trans HY.out.1
      have b1 := (HBR.out.cell (p := ⟨S, 1, none⟩) hSr).trans HY.out.2.1
      have b2 := (HBR.out.cell (p := ⟨S, 2, none⟩) hSr).trans HY.out.2.2
      have HBXR := Lib.hid (And.intro b0 (And.intro b1 b2))
      have HXJ := Lib.hid hXj
      unfold maxLen at hvc2 hsc2
      have HSR := Lib.hid hSr
      have hZr : Z ≤ wr.heap.size := by have := HZ.out; omega
      have hmI : (j : Int) < (m : Int) := by omega
      clear hi hin hLj hy hXj hd hsv hSr b0 b1 b2
      by_cases hnw : newR s j = true
      · have HG6 : Hid (∀ v6 w6, Row 1 Z w6 v6 (n + 1) (V ++ [.slice none 0 0]) → Off (fun i => (Value.slice oa n oc).ownBlock = some i) (wr.alloc (.cells #[.slice none 0 0] 23)) w6 → (v6.ownBlock = (Value.slice oa n oc).ownBlock ∨ v6.ownBlock = some (wr.alloc (.cells #[.slice none 0 0] 23)).heap.size) → Gr Z w6 v6 (V ++ [.slice none 0 0]) (runL s X j ++ [[]]) ∧ Below w3.heap.size w3 w6) := Lib.hid (fun v6 w6 hr6 ho6 hw6 => by
          have hg := HG.out.below ((Below.refl wr.heap.size wr).alloc (Nat.le_refl _) (.cells #[.slice none 0 0] 23))
          refine ⟨hg.more (g0 := []) (Row.nil _ _ _) (fun b hb => by cases hb) (by rw [← HNV.out]; exact hr6) ho6 (hw6.imp id fun h => ⟨_, h, Nat.le_refl _⟩), ?_⟩
          exact (HBR.out.alloc HBR.out.size _).trans ((ho6.below (fun i hi => by exact (hg.row.lt i hi).1) (by have := hZr; simp; omega)).mono (by rw [HZ.out]; exact Nat.le_refl _))
          )
        have HSRC0 := Lib.hid (show Src Tryz.prog 1 31 (.slice (some ⟨wr.heap.size, 0, none⟩) 1 1) 1 [.slice none 0 0] (wr.alloc (.cells #[.slice none 0 0] 23)) from src_new Tryz.underlying31 [.slice none 0 0] 1 23 1 rfl oneSI)
        have HRA0 := Lib.hid (show Row 1 Z (wr.alloc (.cells #[.slice none 0 0] 23)) (.slice oa n oc) n V by
          have h := HG.out.row.alloc (.cells #[.slice none 0 0] 23)
          rw [← HNV.out] at h
          exact h)
        have hsz0 : Z ≤ (wr.alloc (.cells #[.slice none 0 0] 23)).heap.size := by simp; omega
        have HNW := Lib.hid hnw
        by_cases hj0 : j = 0
        · subst hj0
          simp only [Nat.add_zero] at cl
          clear cs cs1
          obtain ⟨n1, hn1⟩ : ∃ n1, n1 = n + 1 := ⟨_, rfl⟩
          have HN1 := Lib.hid hn1
          have hn1u : n1 ≤ 100001 := by omega
          have hn1p : 0 < n1 := by omega
          clear hn1
          go_wp2_with (at_builtin; refine wpList_append_row rfl (.tmp 36) (.tmp 37) 31 31 rfl 1 23 (.slice none 0 0) 24 Tryz.underlying31 infoSI rfl Z (.slice oa n oc) n V (by simp [Act.eval]) HRA0.out (.slice (some ⟨wr.heap.size, 0, none⟩) 1 1) (by simp [Act.eval]) 1 [.slice none 0 0] HSRC0.out hsz0 (by omega) (by decide) ?_; intro v6 w6 hr6 ho6 hw6; have HR6 := Lib.hid (HG6.out _ w6 hr6 ho6 hw6); rw [← HN1.out] at hr6; obtain ⟨a6, c6, hv6⟩ := hr6.form; subst hv6; have HO6 := Lib.hid ho6; clear hr6 ho6 hw6)
          have HGR := Lib.hid HR6.out.1
          have HNV1 : Hid (n1 = (V ++ [Value.slice none 0 0]).length) := Lib.hid (by rw [HN1.out, List.length_append, ← HNV.out]; rfl)
          have HBV : Hid (Below w.heap.size w w6) := Lib.hid (HB3.out.trans (HR6.out.2.mono HB3.out.size))
          have HBXV : Hid (w6.cell? ⟨S, 0, none⟩ = some (.slice ta m tc) ∧ w6.cell? ⟨S, 1, none⟩ = some (.int .i64 (D : Int)) ∧ w6.cell? ⟨S, 2, none⟩ = some ev) := Lib.hid ⟨(HR6.out.2.cell (p := ⟨S, 0, none⟩) HSR.out).trans HY.out.1, (HR6.out.2.cell (p := ⟨S, 1, none⟩) HSR.out).trans HY.out.2.1, (HR6.out.2.cell (p := ⟨S, 2, none⟩) HSR.out).trans HY.out.2.2⟩
          have HGLB : Hid (∀ g ∈ runL s X 0 ++ [[]], g.length ≤ 100000) := Lib.hid (fun g hg => by
            rcases List.mem_append.1 hg with h | h
            · have := runL_short s X 0 g h
              omega
            · rw [List.mem_singleton.1 h]; simp)
          obtain ⟨gb, gc', hgf, hgb1, hgb2, hncap, hcapm, hcells, hcv⟩ := HGR.out.row.pos (by have := HNV1.out; omega)
          have hnn := HNV1.out
          rw [← hnn] at hgf
          injection hgf with e1 _ e3
          subst e1
          subst e3
          obtain ⟨l, hl⟩ : ∃ l, n1 = l + 1 := ⟨n1 - 1, by omega⟩
          have hnI : (n1 : Int) - 1 = (l : Int) := by omega
          have hgl9 := HGR.out.len
          obtain ⟨u, hu⟩ : ∃ u, (V ++ [Value.slice none 0 0])[l]? = some u := ⟨(V ++ [Value.slice none 0 0])[l]'(by omega), by simp⟩
          obtain ⟨g, hg⟩ : ∃ g, (runL s X 0 ++ [[]])[l]? = some g := ⟨(runL s X 0 ++ [[]])[l]'(by omega), by simp⟩
          have hur := HGR.out.each l u g hu hg
          obtain ⟨ua, uc, huf⟩ := hur.form
          obtain ⟨gl, hgl⟩ : ∃ gl, gl = g.length := ⟨_, rfl⟩
          rw [← hgl] at huf hur
          subst huf
          have hub : ∀ i, (Value.slice ua gl uc).ownBlock = some i → i ≠ gb ∧ Z ≤ i ∧ i < (w6).heap.size := fun i hi => ⟨fun e => HGR.out.out l _ i hu hi (by rw [e]; rfl), (hur.lt i hi).1, (hur.lt i hi).2⟩
          have cgl := hcv l _ hu
          have fgl := (hcells l (by omega)).2
          have HST : Hid ((w6).drew.cell? ⟨gb, l, none⟩ = some (.slice ua gl uc) ∧ (w6).drew.frozen? ⟨gb, l, none⟩ = false ∧ ((w6).drew.cell? ⟨S, 0, none⟩ = some (.slice ta m tc) ∧ (w6).drew.cell? ⟨S, 1, none⟩ = some (.int .i64 (D : Int)) ∧ (w6).drew.cell? ⟨S, 2, none⟩ = some ev) ∧ Below w.heap.size w (w6).drew) := Lib.hid ⟨cgl, fgl, HBXV.out, HBV.out.drew⟩
          have hglb : gl ≤ 100000 := by rw [hgl]; exact HGLB.out g (List.mem_of_getElem? hg)
          have HFN : Hid (∀ w3, Below (w6).drew.heap.size (w6).drew w3 → RnS gb l S Z ua gl uc ta m tc D ev g y w (w6) (runL s X 0 ++ [[]]) (V ++ [Value.slice none 0 0]) c6 (n1) w3) := Lib.hid (fun w3 hb3 => rn_fact HGR.out hu hg hgl hub hgb2 hgb1 HST.out HSZ9.out hb3)
          have HGL := Lib.hid hgl
          have HU := Lib.hid (And.intro hu hg)
          have hncap9 : n1 ≤ c6 := by rw [hnn]; exact hncap
          have hlN : l < n1 := by omega
          have HL9 := Lib.hid hl
          unfold maxLen at hcapm
          clear hl hgl9 hu hg hur hgl hub hgb1 hgb2 hcells hcv cgl fgl hnn hncap
          refine wp_region_til (S := (fun W => W.cell? ⟨gb, l, none⟩ = some (.slice ua gl uc) ∧ W.frozen? ⟨gb, l, none⟩ = false ∧ (W.cell? ⟨S, 0, none⟩ = some (.slice ta m tc) ∧ W.cell? ⟨S, 1, none⟩ = some (.int .i64 (D : Int)) ∧ W.cell? ⟨S, 2, none⟩ = some ev) ∧ Below w.heap.size w W)) 12 (by kernel_rfl) ?_ (fun hHeld => ?_)
          · exact HST.out
          refine tkT 0 ⟨some 42, .move (.tmp 5), 31, "board.go:141", #[], none⟩ ?_
          try simp only [Act.put, List.setIfInBounds_toArray, List.set_cons_zero, List.set_cons_succ]
          refine tkT 1 ⟨some 43, .move (.tmp 8), 3, "board.go:141", #[], none⟩ ?_
          try simp only [Act.put, List.setIfInBounds_toArray, List.set_cons_zero, List.set_cons_succ]
          refine tkT 2 ⟨some 44, .move (.tmp 5), 31, "board.go:141", #[], none⟩ ?_
          try simp only [Act.put, List.setIfInBounds_toArray, List.set_cons_zero, List.set_cons_succ]
          refine tkT 3 ⟨some 45, .move (.tmp 8), 3, "board.go:141", #[], none⟩ ?_
          try simp only [Act.put, List.setIfInBounds_toArray, List.set_cons_zero, List.set_cons_succ]
          refine tkT 4 ⟨some 46, .indexAddr 31 (.tmp 44) (.tmp 45), 0, "board.go:141", #[⟨2, .data⟩, ⟨3, .data⟩], none⟩ ?_
          try simp only [Act.put, List.setIfInBounds_toArray, List.set_cons_zero, List.set_cons_succ]
          refine tkT 5 ⟨some 47, .load 23 (.tmp 46), 23, "board.go:141", #[⟨4, .data⟩], none⟩ ?_
          try simp only [Act.put, List.setIfInBounds_toArray, List.set_cons_zero, List.set_cons_succ]
          refine tkT 6 ⟨some 48, .load 59 (.tmp 1), 59, "board.go:141", #[], none⟩ ?_
          try simp only [Act.put, List.setIfInBounds_toArray, List.set_cons_zero, List.set_cons_succ]
          refine tkT 7 ⟨some 49, .move (.tmp 7), 3, "board.go:141", #[], none⟩ ?_
          try simp only [Act.put, List.setIfInBounds_toArray, List.set_cons_zero, List.set_cons_succ]
          refine til_one (i := 8) (o := ⟨some 50, .call { callee := Callee.value (Operand.func 63), args := #[.tmp 48, .tmp 49], argTypes := #[59, 3] }, 3, "board.go:141", #[⟨6, .data⟩, ⟨7, .data⟩], none⟩) (by kernel_rfl) rfl (fun KK hK => ?_)
          go_simp
          go_at_call 63
          refine (HTH.out _ hHeld.2.2.2).mono ?_
          rintro e w9 ⟨rfl, hb3⟩
          have HF3 := Lib.hid (HFN.out w9 hb3)
          clear hb3
          refine hK.out _ _ ?_ (fun hHeld => ?_)
          · exact HF3.out.1
          clear hK KK
          try simp only [Act.put, List.setIfInBounds_toArray, List.set_cons_zero, List.set_cons_succ]
          refine til_one (i := 9) (o := ⟨some 51, .buildSlice 23 1 #[(0, .tmp 50)], 23, "board.go:141", #[⟨8, .data⟩], none⟩) (by kernel_rfl) rfl (fun KK hK => ?_)
          go_simp
          refine hK.out _ _ ?_ (fun hHeld => ?_)
          · exact HF3.out.2.1
          clear hK KK
          try simp only [Act.put, List.setIfInBounds_toArray, List.set_cons_zero, List.set_cons_succ]
          refine til_one (i := 10) (o := ⟨some 52, .call { callee := Callee.builtin Builtin.append, args := #[.tmp 47, .tmp 51], argTypes := #[23, 23] }, 23, "board.go:141", #[⟨5, .data⟩, ⟨9, .data⟩, ⟨8, .chain⟩], none⟩) (by kernel_rfl) rfl (fun KK hK => ?_)
          refine step_append_row rfl (.tmp 47) (.tmp 51) 23 23 rfl 1 3 (.int .i64 0) 8 Tryz.underlying23 infoIk rfl Z (.slice ua gl uc) gl (iv g) (by simp [Act.eval]) HF3.out.2.2.1 (.slice (some ⟨w9.heap.size, 0, none⟩) 1 1) (by simp [Act.eval]) 1 [.int .i64 (y : Int)] HF3.out.2.2.2.1 HF3.out.2.2.2.2.1 (by omega) (by decide) ?_
          intro v8 w8 hr8 ho8 hw8
          obtain ⟨a8, c8, hv8⟩ := hr8.form
          subst hv8
          have HF8 := Lib.hid (HF3.out.2.2.2.2.2 _ w8 hr8 ho8 hw8)
          have HS8 := Lib.hid HF8.out.1
          clear hr8 ho8 hw8
          refine hK.out _ _ ?_ (fun hHeld => ?_)
          · exact HS8.out
          clear hK KK
          try simp only [Act.put, List.setIfInBounds_toArray, List.set_cons_zero, List.set_cons_succ]
          refine til_one (i := 11) (o := ⟨some 53, .indexAddr 31 (.tmp 42) (.tmp 43), 0, "board.go:141", #[⟨0, .data⟩, ⟨1, .data⟩, ⟨0, .phase⟩, ⟨1, .phase⟩, ⟨2, .phase⟩, ⟨3, .phase⟩, ⟨4, .phase⟩, ⟨5, .phase⟩, ⟨6, .phase⟩, ⟨7, .phase⟩, ⟨8, .phase⟩, ⟨9, .phase⟩, ⟨10, .phase⟩], none⟩) (by kernel_rfl) rfl (fun KK hK => ?_)
          go_simp
          refine hK.out _ _ ?_ (fun hHeld => ?_)
          · exact HS8.out
          clear hK KK
          try simp only [Act.put, List.setIfInBounds_toArray, List.set_cons_zero, List.set_cons_succ]
          refine til_last (o := ⟨none, .store 23 (.tmp 53) (.tmp 52), 0, "board.go:141", #[⟨11, .data⟩, ⟨10, .data⟩, ⟨10, .chain⟩, ⟨0, .phase⟩, ⟨1, .phase⟩, ⟨2, .phase⟩, ⟨3, .phase⟩, ⟨4, .phase⟩, ⟨5, .phase⟩, ⟨6, .phase⟩, ⟨7, .phase⟩, ⟨8, .phase⟩, ⟨9, .phase⟩, ⟨10, .phase⟩], none⟩) (by kernel_rfl) rfl (by kernel_rfl) (fun KK hK => ?_)
          go_simp
          obtain ⟨q1, qf, _, _⟩ := hHeld
          go_simp
          refine hK.out _ _ ?_
          clear hK KK
          try simp only [Act.put, List.setIfInBounds_toArray, List.set_cons_zero, List.set_cons_succ]
          unfold Exit.inBlock
          dsimp only
          go_simp
          go_wp2_with fail
          have hl9 : l = (runL s X 0).length := by
            have := HL9.out
            have := HN1.out
            have := HNV.out
            have := HG.out.len
            omega
          have hg9 : g = [] := by
            have h := HU.out.2
            rw [hl9, List.getElem?_append_right (Nat.le_refl _), Nat.sub_self] at h
            exact (Option.some.inj h).symm
          have hend := HF8.out.2.1
          have heq9 : (runL s X 0 ++ [[]]).set l (g ++ [(y : Int)]) = runL s X (0 + 1) := by
            rw [hg9, hl9, ← HXJ.out]
            exact runL_grow s X HNW.out
          rw [heq9] at hend
          exact ⟨⟨0 + 1, _, by go_num, by omega, Lib.hid hend, Lib.hid (HR6.out.2.trans (HF8.out.2.2.below (B := w3.heap.size) (fun i hi => by have := HZ.out; omega) HR6.out.2.size))⟩, by simp [intOf]; omega⟩
        · have hz0 : decide ((j : Int) = 0) = false := by simp [hj0]
          have hjm : (j : Int) - 1 = ((j - 1 : Nat) : Int) := by omega
          have hj1 : j - 1 < m := by omega
          have cs1 := cs1 (by omega)
          cases hsj : s j with
          | true =>
            rw [hsj] at cs
            clear cs1
            obtain ⟨n1, hn1⟩ : ∃ n1, n1 = n + 1 := ⟨_, rfl⟩
            have HN1 := Lib.hid hn1
            have hn1u : n1 ≤ 100001 := by omega
            have hn1p : 0 < n1 := by omega
            clear hn1
            go_wp2_with (at_builtin; refine wpList_append_row rfl (.tmp 36) (.tmp 37) 31 31 rfl 1 23 (.slice none 0 0) 24 Tryz.underlying31 infoSI rfl Z (.slice oa n oc) n V (by simp [Act.eval]) HRA0.out (.slice (some ⟨wr.heap.size, 0, none⟩) 1 1) (by simp [Act.eval]) 1 [.slice none 0 0] HSRC0.out hsz0 (by omega) (by decide) ?_; intro v6 w6 hr6 ho6 hw6; have HR6 := Lib.hid (HG6.out _ w6 hr6 ho6 hw6); rw [← HN1.out] at hr6; obtain ⟨a6, c6, hv6⟩ := hr6.form; subst hv6; have HO6 := Lib.hid ho6; clear hr6 ho6 hw6)
            have HGR := Lib.hid HR6.out.1
            have HNV1 : Hid (n1 = (V ++ [Value.slice none 0 0]).length) := Lib.hid (by rw [HN1.out, List.length_append, ← HNV.out]; rfl)
            have HBV : Hid (Below w.heap.size w w6) := Lib.hid (HB3.out.trans (HR6.out.2.mono HB3.out.size))
            have HBXV : Hid (w6.cell? ⟨S, 0, none⟩ = some (.slice ta m tc) ∧ w6.cell? ⟨S, 1, none⟩ = some (.int .i64 (D : Int)) ∧ w6.cell? ⟨S, 2, none⟩ = some ev) := Lib.hid ⟨(HR6.out.2.cell (p := ⟨S, 0, none⟩) HSR.out).trans HY.out.1, (HR6.out.2.cell (p := ⟨S, 1, none⟩) HSR.out).trans HY.out.2.1, (HR6.out.2.cell (p := ⟨S, 2, none⟩) HSR.out).trans HY.out.2.2⟩
            have HGLB : Hid (∀ g ∈ runL s X j ++ [[]], g.length ≤ 100000) := Lib.hid (fun g hg => by
              rcases List.mem_append.1 hg with h | h
              · have := runL_short s X j g h
                omega
              · rw [List.mem_singleton.1 h]; simp)
            obtain ⟨gb, gc', hgf, hgb1, hgb2, hncap, hcapm, hcells, hcv⟩ := HGR.out.row.pos (by have := HNV1.out; omega)
            have hnn := HNV1.out
            rw [← hnn] at hgf
            injection hgf with e1 _ e3
            subst e1
            subst e3
            obtain ⟨l, hl⟩ : ∃ l, n1 = l + 1 := ⟨n1 - 1, by omega⟩
            have hnI : (n1 : Int) - 1 = (l : Int) := by omega
            have hgl9 := HGR.out.len
            obtain ⟨u, hu⟩ : ∃ u, (V ++ [Value.slice none 0 0])[l]? = some u := ⟨(V ++ [Value.slice none 0 0])[l]'(by omega), by simp⟩
            obtain ⟨g, hg⟩ : ∃ g, (runL s X j ++ [[]])[l]? = some g := ⟨(runL s X j ++ [[]])[l]'(by omega), by simp⟩
            have hur := HGR.out.each l u g hu hg
            obtain ⟨ua, uc, huf⟩ := hur.form
            obtain ⟨gl, hgl⟩ : ∃ gl, gl = g.length := ⟨_, rfl⟩
            rw [← hgl] at huf hur
            subst huf
            have hub : ∀ i, (Value.slice ua gl uc).ownBlock = some i → i ≠ gb ∧ Z ≤ i ∧ i < (w6).heap.size := fun i hi => ⟨fun e => HGR.out.out l _ i hu hi (by rw [e]; rfl), (hur.lt i hi).1, (hur.lt i hi).2⟩
            have cgl := hcv l _ hu
            have fgl := (hcells l (by omega)).2
            have HST : Hid ((w6).drew.cell? ⟨gb, l, none⟩ = some (.slice ua gl uc) ∧ (w6).drew.frozen? ⟨gb, l, none⟩ = false ∧ ((w6).drew.cell? ⟨S, 0, none⟩ = some (.slice ta m tc) ∧ (w6).drew.cell? ⟨S, 1, none⟩ = some (.int .i64 (D : Int)) ∧ (w6).drew.cell? ⟨S, 2, none⟩ = some ev) ∧ Below w.heap.size w (w6).drew) := Lib.hid ⟨cgl, fgl, HBXV.out, HBV.out.drew⟩
            have hglb : gl ≤ 100000 := by rw [hgl]; exact HGLB.out g (List.mem_of_getElem? hg)
            have HFN : Hid (∀ w3, Below (w6).drew.heap.size (w6).drew w3 → RnS gb l S Z ua gl uc ta m tc D ev g y w (w6) (runL s X j ++ [[]]) (V ++ [Value.slice none 0 0]) c6 (n1) w3) := Lib.hid (fun w3 hb3 => rn_fact HGR.out hu hg hgl hub hgb2 hgb1 HST.out HSZ9.out hb3)
            have HGL := Lib.hid hgl
            have HU := Lib.hid (And.intro hu hg)
            have hncap9 : n1 ≤ c6 := by rw [hnn]; exact hncap
            have hlN : l < n1 := by omega
            have HL9 := Lib.hid hl
            unfold maxLen at hcapm
            clear hl hgl9 hu hg hur hgl hub hgb1 hgb2 hcells hcv cgl fgl hnn hncap
            refine wp_region_til (S := (fun W => W.cell? ⟨gb, l, none⟩ = some (.slice ua gl uc) ∧ W.frozen? ⟨gb, l, none⟩ = false ∧ (W.cell? ⟨S, 0, none⟩ = some (.slice ta m tc) ∧ W.cell? ⟨S, 1, none⟩ = some (.int .i64 (D : Int)) ∧ W.cell? ⟨S, 2, none⟩ = some ev) ∧ Below w.heap.size w W)) 12 (by kernel_rfl) ?_ (fun hHeld => ?_)
            · exact HST.out
            refine tkT 0 ⟨some 42, .move (.tmp 5), 31, "board.go:141", #[], none⟩ ?_
            try simp only [Act.put, List.setIfInBounds_toArray, List.set_cons_zero, List.set_cons_succ]
            refine tkT 1 ⟨some 43, .move (.tmp 8), 3, "board.go:141", #[], none⟩ ?_
            try simp only [Act.put, List.setIfInBounds_toArray, List.set_cons_zero, List.set_cons_succ]
            refine tkT 2 ⟨some 44, .move (.tmp 5), 31, "board.go:141", #[], none⟩ ?_
            try simp only [Act.put, List.setIfInBounds_toArray, List.set_cons_zero, List.set_cons_succ]
            refine tkT 3 ⟨some 45, .move (.tmp 8), 3, "board.go:141", #[], none⟩ ?_
            try simp only [Act.put, List.setIfInBounds_toArray, List.set_cons_zero, List.set_cons_succ]
            refine tkT 4 ⟨some 46, .indexAddr 31 (.tmp 44) (.tmp 45), 0, "board.go:141", #[⟨2, .data⟩, ⟨3, .data⟩], none⟩ ?_
            try simp only [Act.put, List.setIfInBounds_toArray, List.set_cons_zero, List.set_cons_succ]
            refine tkT 5 ⟨some 47, .load 23 (.tmp 46), 23, "board.go:141", #[⟨4, .data⟩], none⟩ ?_
            try simp only [Act.put, List.setIfInBounds_toArray, List.set_cons_zero, List.set_cons_succ]
            refine tkT 6 ⟨some 48, .load 59 (.tmp 1), 59, "board.go:141", #[], none⟩ ?_
            try simp only [Act.put, List.setIfInBounds_toArray, List.set_cons_zero, List.set_cons_succ]
            refine tkT 7 ⟨some 49, .move (.tmp 7), 3, "board.go:141", #[], none⟩ ?_
            try simp only [Act.put, List.setIfInBounds_toArray, List.set_cons_zero, List.set_cons_succ]
            refine til_one (i := 8) (o := ⟨some 50, .call { callee := Callee.value (Operand.func 63), args := #[.tmp 48, .tmp 49], argTypes := #[59, 3] }, 3, "board.go:141", #[⟨6, .data⟩, ⟨7, .data⟩], none⟩) (by kernel_rfl) rfl (fun KK hK => ?_)
            go_simp
            go_at_call 63
            refine (HTH.out _ hHeld.2.2.2).mono ?_
            rintro e w9 ⟨rfl, hb3⟩
            have HF3 := Lib.hid (HFN.out w9 hb3)
            clear hb3
            refine hK.out _ _ ?_ (fun hHeld => ?_)
            · exact HF3.out.1
            clear hK KK
            try simp only [Act.put, List.setIfInBounds_toArray, List.set_cons_zero, List.set_cons_succ]
            refine til_one (i := 9) (o := ⟨some 51, .buildSlice 23 1 #[(0, .tmp 50)], 23, "board.go:141", #[⟨8, .data⟩], none⟩) (by kernel_rfl) rfl (fun KK hK => ?_)
            go_simp
            refine hK.out _ _ ?_ (fun hHeld => ?_)
            · exact HF3.out.2.1
            clear hK KK
            try simp only [Act.put, List.setIfInBounds_toArray, List.set_cons_zero, List.set_cons_succ]
            refine til_one (i := 10) (o := ⟨some 52, .call { callee := Callee.builtin Builtin.append, args := #[.tmp 47, .tmp 51], argTypes := #[23, 23] }, 23, "board.go:141", #[⟨5, .data⟩, ⟨9, .data⟩, ⟨8, .chain⟩], none⟩) (by kernel_rfl) rfl (fun KK hK => ?_)
            refine step_append_row rfl (.tmp 47) (.tmp 51) 23 23 rfl 1 3 (.int .i64 0) 8 Tryz.underlying23 infoIk rfl Z (.slice ua gl uc) gl (iv g) (by simp [Act.eval]) HF3.out.2.2.1 (.slice (some ⟨w9.heap.size, 0, none⟩) 1 1) (by simp [Act.eval]) 1 [.int .i64 (y : Int)] HF3.out.2.2.2.1 HF3.out.2.2.2.2.1 (by omega) (by decide) ?_
            intro v8 w8 hr8 ho8 hw8
            obtain ⟨a8, c8, hv8⟩ := hr8.form
            subst hv8
            have HF8 := Lib.hid (HF3.out.2.2.2.2.2 _ w8 hr8 ho8 hw8)
            have HS8 := Lib.hid HF8.out.1
            clear hr8 ho8 hw8
            refine hK.out _ _ ?_ (fun hHeld => ?_)
            · exact HS8.out
            clear hK KK
            try simp only [Act.put, List.setIfInBounds_toArray, List.set_cons_zero, List.set_cons_succ]
            refine til_one (i := 11) (o := ⟨some 53, .indexAddr 31 (.tmp 42) (.tmp 43), 0, "board.go:141", #[⟨0, .data⟩, ⟨1, .data⟩, ⟨0, .phase⟩, ⟨1, .phase⟩, ⟨2, .phase⟩, ⟨3, .phase⟩, ⟨4, .phase⟩, ⟨5, .phase⟩, ⟨6, .phase⟩, ⟨7, .phase⟩, ⟨8, .phase⟩, ⟨9, .phase⟩, ⟨10, .phase⟩], none⟩) (by kernel_rfl) rfl (fun KK hK => ?_)
            go_simp
            refine hK.out _ _ ?_ (fun hHeld => ?_)
            · exact HS8.out
            clear hK KK
            try simp only [Act.put, List.setIfInBounds_toArray, List.set_cons_zero, List.set_cons_succ]
            refine til_last (o := ⟨none, .store 23 (.tmp 53) (.tmp 52), 0, "board.go:141", #[⟨11, .data⟩, ⟨10, .data⟩, ⟨10, .chain⟩, ⟨0, .phase⟩, ⟨1, .phase⟩, ⟨2, .phase⟩, ⟨3, .phase⟩, ⟨4, .phase⟩, ⟨5, .phase⟩, ⟨6, .phase⟩, ⟨7, .phase⟩, ⟨8, .phase⟩, ⟨9, .phase⟩, ⟨10, .phase⟩], none⟩) (by kernel_rfl) rfl (by kernel_rfl) (fun KK hK => ?_)
            go_simp
            obtain ⟨q1, qf, _, _⟩ := hHeld
            go_simp
            refine hK.out _ _ ?_
            clear hK KK
            try simp only [Act.put, List.setIfInBounds_toArray, List.set_cons_zero, List.set_cons_succ]
            unfold Exit.inBlock
            dsimp only
            go_simp
            go_wp2_with fail
            have hl9 : l = (runL s X j).length := by
              have := HL9.out
              have := HN1.out
              have := HNV.out
              have := HG.out.len
              omega
            have hg9 : g = [] := by
              have h := HU.out.2
              rw [hl9, List.getElem?_append_right (Nat.le_refl _), Nat.sub_self] at h
              exact (Option.some.inj h).symm
            have hend := HF8.out.2.1
            have heq9 : (runL s X j ++ [[]]).set l (g ++ [(y : Int)]) = runL s X (j + 1) := by
              rw [hg9, hl9, ← HXJ.out]
              exact runL_grow s X HNW.out
            rw [heq9] at hend
            exact ⟨⟨j + 1, _, by go_num, by omega, Lib.hid hend, Lib.hid (HR6.out.2.trans (HF8.out.2.2.below (B := w3.heap.size) (fun i hi => by have := HZ.out; omega) HR6.out.2.size))⟩, by simp [intOf]; omega⟩
          | false =>
            have hsj1 : s (j - 1) = true := by
              have := HNW.out
              simp [newR, hj0, hsj] at this
              exact this
            rw [hsj] at cs
            rw [hsj1] at cs1
            
            obtain ⟨n1, hn1⟩ : ∃ n1, n1 = n + 1 := ⟨_, rfl⟩
            have HN1 := Lib.hid hn1
            have hn1u : n1 ≤ 100001 := by omega
            have hn1p : 0 < n1 := by omega
            clear hn1
            go_wp2_with (at_builtin; refine wpList_append_row rfl (.tmp 36) (.tmp 37) 31 31 rfl 1 23 (.slice none 0 0) 24 Tryz.underlying31 infoSI rfl Z (.slice oa n oc) n V (by simp [Act.eval]) HRA0.out (.slice (some ⟨wr.heap.size, 0, none⟩) 1 1) (by simp [Act.eval]) 1 [.slice none 0 0] HSRC0.out hsz0 (by omega) (by decide) ?_; intro v6 w6 hr6 ho6 hw6; have HR6 := Lib.hid (HG6.out _ w6 hr6 ho6 hw6); rw [← HN1.out] at hr6; obtain ⟨a6, c6, hv6⟩ := hr6.form; subst hv6; have HO6 := Lib.hid ho6; clear hr6 ho6 hw6)
            have HGR := Lib.hid HR6.out.1
            have HNV1 : Hid (n1 = (V ++ [Value.slice none 0 0]).length) := Lib.hid (by rw [HN1.out, List.length_append, ← HNV.out]; rfl)
            have HBV : Hid (Below w.heap.size w w6) := Lib.hid (HB3.out.trans (HR6.out.2.mono HB3.out.size))
            have HBXV : Hid (w6.cell? ⟨S, 0, none⟩ = some (.slice ta m tc) ∧ w6.cell? ⟨S, 1, none⟩ = some (.int .i64 (D : Int)) ∧ w6.cell? ⟨S, 2, none⟩ = some ev) := Lib.hid ⟨(HR6.out.2.cell (p := ⟨S, 0, none⟩) HSR.out).trans HY.out.1, (HR6.out.2.cell (p := ⟨S, 1, none⟩) HSR.out).trans HY.out.2.1, (HR6.out.2.cell (p := ⟨S, 2, none⟩) HSR.out).trans HY.out.2.2⟩
            have HGLB : Hid (∀ g ∈ runL s X j ++ [[]], g.length ≤ 100000) := Lib.hid (fun g hg => by
              rcases List.mem_append.1 hg with h | h
              · have := runL_short s X j g h
                omega
              · rw [List.mem_singleton.1 h]; simp)
            obtain ⟨gb, gc', hgf, hgb1, hgb2, hncap, hcapm, hcells, hcv⟩ := HGR.out.row.pos (by have := HNV1.out; omega)
            have hnn := HNV1.out
            rw [← hnn] at hgf
            injection hgf with e1 _ e3
            subst e1
            subst e3
            obtain ⟨l, hl⟩ : ∃ l, n1 = l + 1 := ⟨n1 - 1, by omega⟩
            have hnI : (n1 : Int) - 1 = (l : Int) := by omega
            have hgl9 := HGR.out.len
            obtain ⟨u, hu⟩ : ∃ u, (V ++ [Value.slice none 0 0])[l]? = some u := ⟨(V ++ [Value.slice none 0 0])[l]'(by omega), by simp⟩
            obtain ⟨g, hg⟩ : ∃ g, (runL s X j ++ [[]])[l]? = some g := ⟨(runL s X j ++ [[]])[l]'(by omega), by simp⟩
            have hur := HGR.out.each l u g hu hg
            obtain ⟨ua, uc, huf⟩ := hur.form
            obtain ⟨gl, hgl⟩ : ∃ gl, gl = g.length := ⟨_, rfl⟩
            rw [← hgl] at huf hur
            subst huf
            have hub : ∀ i, (Value.slice ua gl uc).ownBlock = some i → i ≠ gb ∧ Z ≤ i ∧ i < (w6).heap.size := fun i hi => ⟨fun e => HGR.out.out l _ i hu hi (by rw [e]; rfl), (hur.lt i hi).1, (hur.lt i hi).2⟩
            have cgl := hcv l _ hu
            have fgl := (hcells l (by omega)).2
            have HST : Hid ((w6).drew.cell? ⟨gb, l, none⟩ = some (.slice ua gl uc) ∧ (w6).drew.frozen? ⟨gb, l, none⟩ = false ∧ ((w6).drew.cell? ⟨S, 0, none⟩ = some (.slice ta m tc) ∧ (w6).drew.cell? ⟨S, 1, none⟩ = some (.int .i64 (D : Int)) ∧ (w6).drew.cell? ⟨S, 2, none⟩ = some ev) ∧ Below w.heap.size w (w6).drew) := Lib.hid ⟨cgl, fgl, HBXV.out, HBV.out.drew⟩
            have hglb : gl ≤ 100000 := by rw [hgl]; exact HGLB.out g (List.mem_of_getElem? hg)
            have HFN : Hid (∀ w3, Below (w6).drew.heap.size (w6).drew w3 → RnS gb l S Z ua gl uc ta m tc D ev g y w (w6) (runL s X j ++ [[]]) (V ++ [Value.slice none 0 0]) c6 (n1) w3) := Lib.hid (fun w3 hb3 => rn_fact HGR.out hu hg hgl hub hgb2 hgb1 HST.out HSZ9.out hb3)
            have HGL := Lib.hid hgl
            have HU := Lib.hid (And.intro hu hg)
            have hncap9 : n1 ≤ c6 := by rw [hnn]; exact hncap
            have hlN : l < n1 := by omega
            have HL9 := Lib.hid hl
            unfold maxLen at hcapm
            clear hl hgl9 hu hg hur hgl hub hgb1 hgb2 hcells hcv cgl fgl hnn hncap
            refine wp_region_til (S := (fun W => W.cell? ⟨gb, l, none⟩ = some (.slice ua gl uc) ∧ W.frozen? ⟨gb, l, none⟩ = false ∧ (W.cell? ⟨S, 0, none⟩ = some (.slice ta m tc) ∧ W.cell? ⟨S, 1, none⟩ = some (.int .i64 (D : Int)) ∧ W.cell? ⟨S, 2, none⟩ = some ev) ∧ Below w.heap.size w W)) 12 (by kernel_rfl) ?_ (fun hHeld => ?_)
            · exact HST.out
            refine tkT 0 ⟨some 42, .move (.tmp 5), 31, "board.go:141", #[], none⟩ ?_
            try simp only [Act.put, List.setIfInBounds_toArray, List.set_cons_zero, List.set_cons_succ]
            refine tkT 1 ⟨some 43, .move (.tmp 8), 3, "board.go:141", #[], none⟩ ?_
            try simp only [Act.put, List.setIfInBounds_toArray, List.set_cons_zero, List.set_cons_succ]
            refine tkT 2 ⟨some 44, .move (.tmp 5), 31, "board.go:141", #[], none⟩ ?_
            try simp only [Act.put, List.setIfInBounds_toArray, List.set_cons_zero, List.set_cons_succ]
            refine tkT 3 ⟨some 45, .move (.tmp 8), 3, "board.go:141", #[], none⟩ ?_
            try simp only [Act.put, List.setIfInBounds_toArray, List.set_cons_zero, List.set_cons_succ]
            refine tkT 4 ⟨some 46, .indexAddr 31 (.tmp 44) (.tmp 45), 0, "board.go:141", #[⟨2, .data⟩, ⟨3, .data⟩], none⟩ ?_
            try simp only [Act.put, List.setIfInBounds_toArray, List.set_cons_zero, List.set_cons_succ]
            refine tkT 5 ⟨some 47, .load 23 (.tmp 46), 23, "board.go:141", #[⟨4, .data⟩], none⟩ ?_
            try simp only [Act.put, List.setIfInBounds_toArray, List.set_cons_zero, List.set_cons_succ]
            refine tkT 6 ⟨some 48, .load 59 (.tmp 1), 59, "board.go:141", #[], none⟩ ?_
            try simp only [Act.put, List.setIfInBounds_toArray, List.set_cons_zero, List.set_cons_succ]
            refine tkT 7 ⟨some 49, .move (.tmp 7), 3, "board.go:141", #[], none⟩ ?_
            try simp only [Act.put, List.setIfInBounds_toArray, List.set_cons_zero, List.set_cons_succ]
            refine til_one (i := 8) (o := ⟨some 50, .call { callee := Callee.value (Operand.func 63), args := #[.tmp 48, .tmp 49], argTypes := #[59, 3] }, 3, "board.go:141", #[⟨6, .data⟩, ⟨7, .data⟩], none⟩) (by kernel_rfl) rfl (fun KK hK => ?_)
            go_simp
            go_at_call 63
            refine (HTH.out _ hHeld.2.2.2).mono ?_
            rintro e w9 ⟨rfl, hb3⟩
            have HF3 := Lib.hid (HFN.out w9 hb3)
            clear hb3
            refine hK.out _ _ ?_ (fun hHeld => ?_)
            · exact HF3.out.1
            clear hK KK
            try simp only [Act.put, List.setIfInBounds_toArray, List.set_cons_zero, List.set_cons_succ]
            refine til_one (i := 9) (o := ⟨some 51, .buildSlice 23 1 #[(0, .tmp 50)], 23, "board.go:141", #[⟨8, .data⟩], none⟩) (by kernel_rfl) rfl (fun KK hK => ?_)
            go_simp
            refine hK.out _ _ ?_ (fun hHeld => ?_)
            · exact HF3.out.2.1
            clear hK KK
            try simp only [Act.put, List.setIfInBounds_toArray, List.set_cons_zero, List.set_cons_succ]
            refine til_one (i := 10) (o := ⟨some 52, .call { callee := Callee.builtin Builtin.append, args := #[.tmp 47, .tmp 51], argTypes := #[23, 23] }, 23, "board.go:141", #[⟨5, .data⟩, ⟨9, .data⟩, ⟨8, .chain⟩], none⟩) (by kernel_rfl) rfl (fun KK hK => ?_)
            refine step_append_row rfl (.tmp 47) (.tmp 51) 23 23 rfl 1 3 (.int .i64 0) 8 Tryz.underlying23 infoIk rfl Z (.slice ua gl uc) gl (iv g) (by simp [Act.eval]) HF3.out.2.2.1 (.slice (some ⟨w9.heap.size, 0, none⟩) 1 1) (by simp [Act.eval]) 1 [.int .i64 (y : Int)] HF3.out.2.2.2.1 HF3.out.2.2.2.2.1 (by omega) (by decide) ?_
            intro v8 w8 hr8 ho8 hw8
            obtain ⟨a8, c8, hv8⟩ := hr8.form
            subst hv8
            have HF8 := Lib.hid (HF3.out.2.2.2.2.2 _ w8 hr8 ho8 hw8)
            have HS8 := Lib.hid HF8.out.1
            clear hr8 ho8 hw8
            refine hK.out _ _ ?_ (fun hHeld => ?_)
            · exact HS8.out
            clear hK KK
            try simp only [Act.put, List.setIfInBounds_toArray, List.set_cons_zero, List.set_cons_succ]
            refine til_one (i := 11) (o := ⟨some 53, .indexAddr 31 (.tmp 42) (.tmp 43), 0, "board.go:141", #[⟨0, .data⟩, ⟨1, .data⟩, ⟨0, .phase⟩, ⟨1, .phase⟩, ⟨2, .phase⟩, ⟨3, .phase⟩, ⟨4, .phase⟩, ⟨5, .phase⟩, ⟨6, .phase⟩, ⟨7, .phase⟩, ⟨8, .phase⟩, ⟨9, .phase⟩, ⟨10, .phase⟩], none⟩) (by kernel_rfl) rfl (fun KK hK => ?_)
            go_simp
            refine hK.out _ _ ?_ (fun hHeld => ?_)
            · exact HS8.out
            clear hK KK
            try simp only [Act.put, List.setIfInBounds_toArray, List.set_cons_zero, List.set_cons_succ]
            refine til_last (o := ⟨none, .store 23 (.tmp 53) (.tmp 52), 0, "board.go:141", #[⟨11, .data⟩, ⟨10, .data⟩, ⟨10, .chain⟩, ⟨0, .phase⟩, ⟨1, .phase⟩, ⟨2, .phase⟩, ⟨3, .phase⟩, ⟨4, .phase⟩, ⟨5, .phase⟩, ⟨6, .phase⟩, ⟨7, .phase⟩, ⟨8, .phase⟩, ⟨9, .phase⟩, ⟨10, .phase⟩], none⟩) (by kernel_rfl) rfl (by kernel_rfl) (fun KK hK => ?_)
            go_simp
            obtain ⟨q1, qf, _, _⟩ := hHeld
            go_simp
            refine hK.out _ _ ?_
            clear hK KK
            try simp only [Act.put, List.setIfInBounds_toArray, List.set_cons_zero, List.set_cons_succ]
            unfold Exit.inBlock
            dsimp only
            go_simp
            go_wp2_with fail
            have hl9 : l = (runL s X j).length := by
              have := HL9.out
              have := HN1.out
              have := HNV.out
              have := HG.out.len
              omega
            have hg9 : g = [] := by
              have h := HU.out.2
              rw [hl9, List.getElem?_append_right (Nat.le_refl _), Nat.sub_self] at h
              exact (Option.some.inj h).symm
            have hend := HF8.out.2.1
            have heq9 : (runL s X j ++ [[]]).set l (g ++ [(y : Int)]) = runL s X (j + 1) := by
              rw [hg9, hl9, ← HXJ.out]
              exact runL_grow s X HNW.out
            rw [heq9] at hend
            exact ⟨⟨j + 1, _, by go_num, by omega, Lib.hid hend, Lib.hid (HR6.out.2.trans (HF8.out.2.2.below (B := w3.heap.size) (fun i hi => by have := HZ.out; omega) HR6.out.2.size))⟩, by simp [intOf]; omega⟩
      · have hj0 : ¬ j = 0 := fun h => hnw (by simp [newR, h])
        have hz0 : decide ((j : Int) = 0) = false := by simp [hj0]
        have hjm : (j : Int) - 1 = ((j - 1 : Nat) : Int) := by omega
        have hj1 : j - 1 < m := by omega
        have hsj : s j = false := by
          cases h : s j with
          | false => rfl
          | true => exact absurd (by simp [newR, h]) hnw
        have hsj1 : s (j - 1) = false := by
          cases h : s (j - 1) with
          | false => rfl
          | true => exact absurd (by simp [newR, h]) hnw
        have cs1 := cs1 (by omega)
        rw [hsj] at cs
        rw [hsj1] at cs1
        have HNW : Hid (newR s j = false) := Lib.hid (by simpa using hnw)
        have hjp : 0 < j := by omega
        clear hj0 hnw
        have HGR := HG
        have hn1 : 1 ≤ n := by
          have h1 := HNV.out
          have h2 := HG.out.len
          rcases Nat.eq_zero_or_pos n with h | h
          · exfalso
            have h3 : (runL s X j).length = 0 := by omega
            have h4 := runL_flat s X j
            rw [List.eq_nil_of_length_eq_zero h3] at h4
            simp at h4
            omega
          · exact h
        have HBV := HBW
        have HBXV := HBXR
        have HGLB : Hid (∀ g ∈ runL s X j, g.length ≤ 100000) := Lib.hid (fun g hg => by
          have := runL_short s X j g hg
          omega)
        go_wp2_with fail
        obtain ⟨gb, gc', hgf, hgb1, hgb2, hncap, hcapm, hcells, hcv⟩ := HGR.out.row.pos (by have := HNV.out; omega)
        have hnn := HNV.out
        rw [← hnn] at hgf
        injection hgf with e1 _ e3
        subst e1
        subst e3
        obtain ⟨l, hl⟩ : ∃ l, n = l + 1 := ⟨n - 1, by omega⟩
        have hnI : (n : Int) - 1 = (l : Int) := by omega
        have hgl9 := HGR.out.len
        obtain ⟨u, hu⟩ : ∃ u, (V)[l]? = some u := ⟨(V)[l]'(by omega), by simp⟩
        obtain ⟨g, hg⟩ : ∃ g, (runL s X j)[l]? = some g := ⟨(runL s X j)[l]'(by omega), by simp⟩
        have hur := HGR.out.each l u g hu hg
        obtain ⟨ua, uc, huf⟩ := hur.form
        obtain ⟨gl, hgl⟩ : ∃ gl, gl = g.length := ⟨_, rfl⟩
        rw [← hgl] at huf hur
        subst huf
        have hub : ∀ i, (Value.slice ua gl uc).ownBlock = some i → i ≠ gb ∧ Z ≤ i ∧ i < (wr).heap.size := fun i hi => ⟨fun e => HGR.out.out l _ i hu hi (by rw [e]; rfl), (hur.lt i hi).1, (hur.lt i hi).2⟩
        have cgl := hcv l _ hu
        have fgl := (hcells l (by omega)).2
        have HST : Hid ((wr).drew.cell? ⟨gb, l, none⟩ = some (.slice ua gl uc) ∧ (wr).drew.frozen? ⟨gb, l, none⟩ = false ∧ ((wr).drew.cell? ⟨S, 0, none⟩ = some (.slice ta m tc) ∧ (wr).drew.cell? ⟨S, 1, none⟩ = some (.int .i64 (D : Int)) ∧ (wr).drew.cell? ⟨S, 2, none⟩ = some ev) ∧ Below w.heap.size w (wr).drew) := Lib.hid ⟨cgl, fgl, HBXV.out, HBV.out.drew⟩
        have hglb : gl ≤ 100000 := by rw [hgl]; exact HGLB.out g (List.mem_of_getElem? hg)
        have HFN : Hid (∀ w3, Below (wr).drew.heap.size (wr).drew w3 → RnS gb l S Z ua gl uc ta m tc D ev g y w (wr) (runL s X j) (V) oc (n) w3) := Lib.hid (fun w3 hb3 => rn_fact HGR.out hu hg hgl hub hgb2 hgb1 HST.out HSZ9.out hb3)
        have HGL := Lib.hid hgl
        have HU := Lib.hid (And.intro hu hg)
        have hncap9 : n ≤ oc := by rw [hnn]; exact hncap
        have hlN : l < n := by omega
        have HL9 := Lib.hid hl
        unfold maxLen at hcapm
        clear hl hgl9 hu hg hur hgl hub hgb1 hgb2 hcells hcv cgl fgl hnn hncap
        refine wp_region_til (S := (fun W => W.cell? ⟨gb, l, none⟩ = some (.slice ua gl uc) ∧ W.frozen? ⟨gb, l, none⟩ = false ∧ (W.cell? ⟨S, 0, none⟩ = some (.slice ta m tc) ∧ W.cell? ⟨S, 1, none⟩ = some (.int .i64 (D : Int)) ∧ W.cell? ⟨S, 2, none⟩ = some ev) ∧ Below w.heap.size w W)) 12 (by kernel_rfl) ?_ (fun hHeld => ?_)
        · exact HST.out
        refine tkT 0 ⟨some 42, .move (.tmp 5), 31, "board.go:141", #[], none⟩ ?_
        try simp only [Act.put, List.setIfInBounds_toArray, List.set_cons_zero, List.set_cons_succ]
        refine tkT 1 ⟨some 43, .move (.tmp 8), 3, "board.go:141", #[], none⟩ ?_
        try simp only [Act.put, List.setIfInBounds_toArray, List.set_cons_zero, List.set_cons_succ]
        refine tkT 2 ⟨some 44, .move (.tmp 5), 31, "board.go:141", #[], none⟩ ?_
        try simp only [Act.put, List.setIfInBounds_toArray, List.set_cons_zero, List.set_cons_succ]
        refine tkT 3 ⟨some 45, .move (.tmp 8), 3, "board.go:141", #[], none⟩ ?_
        try simp only [Act.put, List.setIfInBounds_toArray, List.set_cons_zero, List.set_cons_succ]
        refine tkT 4 ⟨some 46, .indexAddr 31 (.tmp 44) (.tmp 45), 0, "board.go:141", #[⟨2, .data⟩, ⟨3, .data⟩], none⟩ ?_
        try simp only [Act.put, List.setIfInBounds_toArray, List.set_cons_zero, List.set_cons_succ]
        refine tkT 5 ⟨some 47, .load 23 (.tmp 46), 23, "board.go:141", #[⟨4, .data⟩], none⟩ ?_
        try simp only [Act.put, List.setIfInBounds_toArray, List.set_cons_zero, List.set_cons_succ]
        refine tkT 6 ⟨some 48, .load 59 (.tmp 1), 59, "board.go:141", #[], none⟩ ?_
        try simp only [Act.put, List.setIfInBounds_toArray, List.set_cons_zero, List.set_cons_succ]
        refine tkT 7 ⟨some 49, .move (.tmp 7), 3, "board.go:141", #[], none⟩ ?_
        try simp only [Act.put, List.setIfInBounds_toArray, List.set_cons_zero, List.set_cons_succ]
        refine til_one (i := 8) (o := ⟨some 50, .call { callee := Callee.value (Operand.func 63), args := #[.tmp 48, .tmp 49], argTypes := #[59, 3] }, 3, "board.go:141", #[⟨6, .data⟩, ⟨7, .data⟩], none⟩) (by kernel_rfl) rfl (fun KK hK => ?_)
        go_simp
        go_at_call 63
        refine (HTH.out _ hHeld.2.2.2).mono ?_
        rintro e w9 ⟨rfl, hb3⟩
        have HF3 := Lib.hid (HFN.out w9 hb3)
        clear hb3
        refine hK.out _ _ ?_ (fun hHeld => ?_)
        · exact HF3.out.1
        clear hK KK
        try simp only [Act.put, List.setIfInBounds_toArray, List.set_cons_zero, List.set_cons_succ]
        refine til_one (i := 9) (o := ⟨some 51, .buildSlice 23 1 #[(0, .tmp 50)], 23, "board.go:141", #[⟨8, .data⟩], none⟩) (by kernel_rfl) rfl (fun KK hK => ?_)
        go_simp
        refine hK.out _ _ ?_ (fun hHeld => ?_)
        · exact HF3.out.2.1
        clear hK KK
        try simp only [Act.put, List.setIfInBounds_toArray, List.set_cons_zero, List.set_cons_succ]
        refine til_one (i := 10) (o := ⟨some 52, .call { callee := Callee.builtin Builtin.append, args := #[.tmp 47, .tmp 51], argTypes := #[23, 23] }, 23, "board.go:141", #[⟨5, .data⟩, ⟨9, .data⟩, ⟨8, .chain⟩], none⟩) (by kernel_rfl) rfl (fun KK hK => ?_)
        refine step_append_row rfl (.tmp 47) (.tmp 51) 23 23 rfl 1 3 (.int .i64 0) 8 Tryz.underlying23 infoIk rfl Z (.slice ua gl uc) gl (iv g) (by simp [Act.eval]) HF3.out.2.2.1 (.slice (some ⟨w9.heap.size, 0, none⟩) 1 1) (by simp [Act.eval]) 1 [.int .i64 (y : Int)] HF3.out.2.2.2.1 HF3.out.2.2.2.2.1 (by omega) (by decide) ?_
        intro v8 w8 hr8 ho8 hw8
        obtain ⟨a8, c8, hv8⟩ := hr8.form
        subst hv8
        have HF8 := Lib.hid (HF3.out.2.2.2.2.2 _ w8 hr8 ho8 hw8)
        have HS8 := Lib.hid HF8.out.1
        clear hr8 ho8 hw8
        refine hK.out _ _ ?_ (fun hHeld => ?_)
        · exact HS8.out
        clear hK KK
        try simp only [Act.put, List.setIfInBounds_toArray, List.set_cons_zero, List.set_cons_succ]
        refine til_one (i := 11) (o := ⟨some 53, .indexAddr 31 (.tmp 42) (.tmp 43), 0, "board.go:141", #[⟨0, .data⟩, ⟨1, .data⟩, ⟨0, .phase⟩, ⟨1, .phase⟩, ⟨2, .phase⟩, ⟨3, .phase⟩, ⟨4, .phase⟩, ⟨5, .phase⟩, ⟨6, .phase⟩, ⟨7, .phase⟩, ⟨8, .phase⟩, ⟨9, .phase⟩, ⟨10, .phase⟩], none⟩) (by kernel_rfl) rfl (fun KK hK => ?_)
        go_simp
        refine hK.out _ _ ?_ (fun hHeld => ?_)
        · exact HS8.out
        clear hK KK
        try simp only [Act.put, List.setIfInBounds_toArray, List.set_cons_zero, List.set_cons_succ]
        refine til_last (o := ⟨none, .store 23 (.tmp 53) (.tmp 52), 0, "board.go:141", #[⟨11, .data⟩, ⟨10, .data⟩, ⟨10, .chain⟩, ⟨0, .phase⟩, ⟨1, .phase⟩, ⟨2, .phase⟩, ⟨3, .phase⟩, ⟨4, .phase⟩, ⟨5, .phase⟩, ⟨6, .phase⟩, ⟨7, .phase⟩, ⟨8, .phase⟩, ⟨9, .phase⟩, ⟨10, .phase⟩], none⟩) (by kernel_rfl) rfl (by kernel_rfl) (fun KK hK => ?_)
        go_simp
        obtain ⟨q1, qf, _, _⟩ := hHeld
        go_simp
        refine hK.out _ _ ?_
        clear hK KK
        try simp only [Act.put, List.setIfInBounds_toArray, List.set_cons_zero, List.set_cons_succ]
        unfold Exit.inBlock
        dsimp only
        go_simp
        go_wp2_with fail
        have hl9 : l = (runL s X j).length - 1 := by
          have := HL9.out
          have := HNV.out
          have := HG.out.len
          omega
        have hend := HF8.out.2.1
        have hu9 := HU.out.2
        rw [hl9] at hu9
        have heq9 : (runL s X j).set l (g ++ [(y : Int)]) = runL s X (j + 1) := by
          rw [hl9, ← HXJ.out]
          exact runL_more s X HNW.out hu9
        rw [heq9] at hend
        exact ⟨⟨j + 1, _, by go_num, by omega, Lib.hid hend, Lib.hid (HBR.out.trans (HF8.out.2.2.below (B := w3.heap.size) (fun i hi => by have := HZ.out; omega) HBR.out.size))⟩, by simp [intOf]; omega⟩
    · have hje : m = j := by omega
      have HGE := Lib.hid (show RG wr (.slice oa n oc) (runL s X m) by
        have h := HG.out.reads
        rw [← hje] at h
        exact h)
      subst hje
      clear HG
      go_wp2_with fail
      go_ret
      refine ⟨_, L, rfl, HK.out, HLM.out, ?_, HBW.out⟩
      rw [← HSS.out, ← HXX.out]
      exact HGE.out
end
end Go.Proofs.YtfpepoebammeoaaGreat
