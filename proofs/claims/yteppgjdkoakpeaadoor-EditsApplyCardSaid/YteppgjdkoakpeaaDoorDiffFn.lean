/- The contract of Diff. -/
import Derived.Test.YteppgjdkoakpeaaDoorHReads
set_option linter.unusedVariables false
namespace Go.Proofs.YteppgjdkoakpeaaDoor
open Go.ChangeShapes Go.WideShapes Go.ChangeAt Go.RowKit

theorem sl_dropEq {w : World} {aa : Option Addr} {al X : Nat} {A : Ls} (h : Sl w (.slice aa al X) A) (hX : X ≤ al) : Sl w (.slice aa (al - X) 0) (A.drop X) := by
  rcases h with ⟨e, rfl⟩ | ⟨a, c, e, h1, h2, h3⟩
  · simp only [Value.slice.injEq] at e
    obtain ⟨rfl, rfl, rfl⟩ := e
    exact .inl ⟨rfl, rfl⟩
  · simp only [Value.slice.injEq] at e
    obtain ⟨rfl, rfl, rfl⟩ := e
    have e1 : A.drop X = [] := List.drop_eq_nil_of_le (by omega)
    rw [e1]
    exact .inr ⟨a, 0, by rw [show A.length - X = 0 by omega]; rfl, by simp, by omega, fun h => absurd rfl h⟩

theorem sl_dropNe {w : World} {aa : Option Addr} {al ca X : Nat} {A : Ls} (h : Sl w (.slice aa al ca) A) (hX : X ≤ al) (hne : ¬ ca = X) : Sl w (.slice (Option.map (fun x => x.add X) aa) (al - X) (ca - X)) (A.drop X) := by
  rcases h with ⟨e, rfl⟩ | ⟨a, c, e, h1, h2, h3⟩
  · simp only [Value.slice.injEq] at e
    obtain ⟨rfl, rfl, rfl⟩ := e
    omega
  · simp only [Value.slice.injEq] at e
    obtain ⟨rfl, rfl, rfl⟩ := e
    refine .inr ⟨a.add X, ca - X, by rw [List.length_drop]; rfl, by rw [List.length_drop]; omega, by omega, fun hn => ?_⟩
    obtain ⟨b, o, rfl, hc⟩ := h3 (by rintro rfl; simp at hn)
    refine ⟨b, o + X, by rw [Addr.add_lit], hc.1, fun j x hx => ?_⟩
    rw [List.getElem?_drop] at hx
    rw [Nat.add_assoc]
    exact hc.2 (X + j) x hx

theorem Off.then {Z : Nat → Prop} {a b c : World} (h : Off Z a b) (k : Below b.heap.size b c) : Off Z a c :=
  h.trans ⟨k.os, k.tape, k.output, k.size, fun i hi _ => k.block i hi⟩

theorem steps_off {Z : Nat → Prop} {w w' : World} {v : Value} {ss : List Stp} {g : Nat} (h : Steps w v ss) (hg : v.ownBlock = some g) (hz : ¬ Z g) (ho : Off Z w w') : Steps w' v ss := by
  obtain ⟨g', rfl, h1, h2⟩ := h
  have e : g' = g := by simpa [Value.ownBlock] using hg
  subst e
  have hb := ho.block g' h1 hz
  refine ⟨g', rfl, Nat.lt_of_lt_of_le h1 ho.size, fun j s hj => ?_⟩
  obtain ⟨c1, c2, c3⟩ := h2 j s hj
  exact ⟨(World.cell?_of_block (a := ⟨g', j * 3, none⟩) hb).trans c1, (World.cell?_of_block (a := ⟨g', j * 3 + 1, none⟩) hb).trans c2, (World.cell?_of_block (a := ⟨g', j * 3 + 2, none⟩) hb).trans c3⟩

theorem ints_off {Z : Nat → Prop} {w w' : World} {v : Value} {f : List Int} (h : Ints w v f) (hz : ∀ g, v.ownBlock = some g → g < w.heap.size → ¬ Z g) (ho : Off Z w w') : Ints w' v f := by
  obtain ⟨b, c, rfl, h1, h2, h3, h4⟩ := h
  have hb := ho.block b h3 (hz b rfl h3)
  exact ⟨b, c, rfl, h1, h2, Nat.lt_of_lt_of_le h3 ho.size, fun j x hx => (World.cell?_of_block (a := ⟨b, j, none⟩) hb).trans (h4 j x hx)⟩

theorem ints_cell {w : World} {b n c i : Nat} {f : List Int} {x : Int} (h : Ints w (.slice (some ⟨b, 0, none⟩) n c) f) (hx : f[i]? = some x) : w.cell? ⟨b, i, none⟩ = some (.int .i64 x) := by
  obtain ⟨b', c', e, _, _, _, h4⟩ := h
  simp only [Value.slice.injEq, Option.some.injEq, Addr.mk.injEq] at e
  obtain ⟨⟨rfl, _⟩, _⟩ := e
  exact h4 i x hx

theorem tame_ps {ps : List (Hk × Value)} (h : TameH (ps.map (·.1))) : Tame ps :=
  ⟨by have := h.1; rwa [List.length_map] at this, fun p hp => h.2 p.1 (List.mem_map_of_mem hp)⟩

set_option maxRecDepth 100000 in
set_option maxHeartbeats 8000000 in
theorem diff_any (a b : Ls) (va vb : Value) (w : World) (ha : Sl w va a) (hb : Sl w vb b) (h3 : a.length ≤ 1000) (h4 : b.length ≤ 1000) :
    Calls Tryd.prog 14 #[va, vb] w fun r w' => ∃ hv, r = .returned hv ∧ HReads w' hv (diffL a b) ∧ Below w.heap.size w w' := by
  have htl := tail_any a b va vb w ha hb (by omega) (by omega)
  obtain ⟨t, ta, tb⟩ := trim_ok a.length a b rfl
  have hA3 : (trim a b).1.length ≤ 1000 := by have : a.length = ((trim a b).1 ++ t).length := congrArg _ ta; rw [List.length_append] at this; omega
  have hB4 : (trim a b).2.length ≤ 1000 := by have : b.length = ((trim a b).2 ++ t).length := congrArg _ tb; rw [List.length_append] at this; omega
  have hd : diffL a b = diffM (trim a b).1 (trim a b).2 := rfl
  rw [hd]
  generalize (trim a b).1 = A at *
  generalize (trim a b).2 = B at *
  have HTL := Lib.hid htl
  clear htl hd ta tb ha hb h3 h4
  go_enter Tryd.func14, Tryd.ntmps14
  go_wp2_with fail
  refine HTL.out.mono ?_
  rintro e w1 ⟨v1, v2, rfl, hA, hB, d0, rfl⟩
  obtain ⟨aa, ca, rfl⟩ := hA.form
  obtain ⟨ab, cb, rfl⟩ := hB.form
  obtain ⟨al, hal⟩ : ∃ n, n = A.length := ⟨_, rfl⟩
  obtain ⟨bl, hbl⟩ : ∃ n, n = B.length := ⟨_, rfl⟩
  rw [← hal] at hA hA3 ⊢
  rw [← hbl] at hB hB4 ⊢
  have HA := Lib.hid hA
  have HB := Lib.hid hB
  have HAL := Lib.hid hal
  have HBL := Lib.hid hbl
  clear hA hB hal hbl HTL
  go_wp2
  go_loopw [5, 6, 7] (fun hv xv yv wr => ∃ (k : Nat) (ps : List (Hk × Value)) (X Y : Nat), xv = .int .i64 X ∧ yv = .int .i64 Y ∧ X ≤ al ∧ Y ≤ bl ∧ k ≤ X + Y ∧ itD A B k = ⟨X, Y, ps.map (·.1)⟩ ∧ OwnP (fun i => w.heap.size ≤ i) w.heap.size wr hv ps ∧ Below w.heap.size w wr)
    (fun _ xv yv _ => al + bl - ((intOf xv).toNat + (intOf yv).toNat))
  case atStart => exact ⟨0, [], 0, 0, rfl, rfl, by omega, by omega, by omega, rfl, OwnP.nil _ _ _, Below.drewN (Below.refl _ _)⟩
  case round =>
    obtain ⟨k, ps, X, Y, rfl, rfl, hX, hY, hkk, hit, hown, hbel⟩ := hrel
    have HIT := Lib.hid hit
    have HOWN := Lib.hid hown
    have HBEL := Lib.hid hbel
    have hsz := hbel.size
    clear hit hown hbel
    by_cases hgo : X < al ∨ Y < bl
    · obtain ⟨c0, dx, dy, hR⟩ := round_of HIT.out (by rw [← HAL.out, ← HBL.out]; exact hgo) (by rw [← HAL.out]; exact hA3) (by rw [← HBL.out]; exact hB4)
      have HR := Lib.hid hR
      clear hR
      have x0 : (0 : Int) ≤ X := by omega
      have x1 : (X : Int) ≤ al := by omega
      have y0 : (0 : Int) ≤ Y := by omega
      have y1 : (Y : Int) ≤ bl := by omega
      by_cases hx : X < al
      · clear hgo
        go_wp2
        go_cut [8, 9] from 21 to 91 (fun ra rb wx => Sl wr ra (A.drop X) ∧ Sl wr rb (B.drop Y) ∧ ∃ d, wx = wr.drewN d)
        case first =>
          by_cases hcx : ca = X
          · subst hcx
            by_cases hcy : cb = Y
            · subst hcy
              go_quiet (fail)
              go_wp2
              go_meet
              case rel => exact ⟨sl_dropEq (HA.out.below HBEL.out) (by omega), sl_dropEq (HB.out.below HBEL.out) (by omega), _, rfl⟩
            · skip
              go_quiet (fail)
              go_wp2
              go_meet
              case rel => exact ⟨sl_dropEq (HA.out.below HBEL.out) (by omega), sl_dropNe (HB.out.below HBEL.out) (by omega) (by assumption), _, rfl⟩
          · by_cases hcy : cb = Y
            · subst hcy
              go_quiet (fail)
              go_wp2
              go_meet
              case rel => exact ⟨sl_dropNe (HA.out.below HBEL.out) (by omega) (by assumption), sl_dropEq (HB.out.below HBEL.out) (by omega), _, rfl⟩
            · skip
              go_quiet (fail)
              go_wp2
              go_meet
              case rel => exact ⟨sl_dropNe (HA.out.below HBEL.out) (by omega) (by assumption), sl_dropNe (HB.out.below HBEL.out) (by omega) (by assumption), _, rfl⟩
        case rest =>
          obtain ⟨hra, hrb, dd, rfl⟩ := hcut
          obtain ⟨K, hK⟩ : ∃ K, K = stop (A.drop X) (B.drop Y) := ⟨_, rfl⟩
          have hKs := stop_facts (A.drop X) (B.drop Y)
          have hK1 : K ≤ 100 := by rw [hK]; exact hKs.2.1
          have hRc := HR.out.rc
          have hRb := HR.out.rbest
          have hRg := HR.out.rgi
          have hRa := HR.out.racr
          have hRn := HR.out.rnext
          have hRt := HR.out.rtame
          have hRs := HR.out.rsteps
          have hRp := HR.out.pos
          have hRx := HR.out.lx
          have hRy := HR.out.ly
          have hsr := search_any (A.drop X) (B.drop Y) u8 u9 (wr.drewN dd) hra.drewN.reads hrb.drewN.reads (by rw [List.length_drop, ← HAL.out]; omega) (by rw [List.length_drop, ← HBL.out]; omega)
          rw [← hK] at hRc hRb hRg hRa hRn hRt hRs hsr
          have hb12 : Below wr.heap.size wr (wr.drewN dd) := Below.drewN (Below.refl _ _)
          have hra := hra.drewN (n := dd)
          have hrb := hrb.drewN (n := dd)
          have hlA : (A.drop X).length ≤ 1000 := by rw [List.length_drop, ← HAL.out]; omega
          have hlB : (B.drop Y).length ≤ 1000 := by rw [List.length_drop, ← HBL.out]; omega
          have hrl := rt_length (A.drop X) (B.drop Y) K c0
          rw [← HAL.out] at hRx
          rw [← HBL.out] at hRy
          generalize wr.drewN dd = w2 at *
          generalize A.drop X = RA at *
          generalize B.drop Y = RB at *
          obtain ⟨ra, cra, rfl⟩ := hra.form
          obtain ⟨rb, crb, rfl⟩ := hrb.form
          obtain ⟨ral, hral⟩ : ∃ n, n = RA.length := ⟨_, rfl⟩
          obtain ⟨rbl, hrbl⟩ : ∃ n, n = RB.length := ⟨_, rfl⟩
          rw [← hral] at hra hlA hsr ⊢
          rw [← hrbl] at hrb hlB hsr ⊢
          have HKE := Lib.hid hK
          have HRA := Lib.hid hra
          have HRB := Lib.hid hrb
          have HSR := Lib.hid hsr
          have HRAL := Lib.hid hral
          have HRBL := Lib.hid hrbl
          have HRC := Lib.hid hRc
          have HRBE := Lib.hid hRb
          have HRG := Lib.hid hRg
          have HRAC := Lib.hid hRa
          have HRN := Lib.hid hRn
          have HRT := Lib.hid hRt
          have HRS := Lib.hid hRs
          have HRL := Lib.hid hrl
          have HB12 := Lib.hid hb12
          have hsz12 := hb12.size
          clear hK hKs hra hrb hsr hral hrbl hRb hRg hRa hRn hRt hRs hrl hb12 HR
          go_wp2_with fail
          refine HSR.out.mono ?_
          rintro e w3 ⟨fv, rfl, hfr, hb23⟩
          have HFR := Lib.hid hfr
          obtain ⟨gF, capF, rfl, f1, f2, f3, f4⟩ := hfr
          obtain ⟨vl, hvl, hil, hlow⟩ := f4 K (Nat.le_refl _)
          have HIL := Lib.hid hil
          have HLOW := Lib.hid hlow
          have hsz23 := hb23.size
          have hsmall := fr_small (a := RA) (b := RB) (k := K) (by omega) (by rw [← HRAL.out]; omega)
          have hfl := fr_length RA RB K
          have hbest := best_any (fr RA RB K) RA RB vl ral rbl ra rb cra crb w3 hil hsmall HRAL.out HRBL.out (by omega) (by omega)
          rw [HRBE.out] at hbest
          have hret := retrace_any RA RB K c0 _ _ _ w3 (HRA.out.below hb23).reads (HRB.out.below hb23).reads HFR.out hK1 hRc (by rw [HRG.out]; omega) (by rw [← HRAL.out]; omega) (by rw [← HRBL.out]; omega)
          obtain ⟨bL, capL, rfl, l1, l2, l3, l4⟩ := hil
          rw [hfl] at hvl hbest l1 HIL HLOW
          have HBEST := Lib.hid hbest
          have HRET := Lib.hid hret
          have HB23 := Lib.hid hb23
          have hgc : (fr RA RB K)[c0]? = some (dx : Int) := by
            rw [← HRG.out, List.getElem?_eq_getElem (by omega)]
            exact congrArg some (gi_of (by simp)).symm
          have HGC := Lib.hid hgc
          clear f4 hlow hbest hret hb23 l4 hgc hsmall hfl
          have k0 : (0 : Int) ≤ K := by omega
          have k1 : (K : Int) < (K : Int) + 1 := by omega
          go_wp2_with fail
          refine HBEST.out.mono ?_
          rintro e w3' ⟨rfl, rfl⟩
          go_wp2_with fail
          refine HRET.out.mono ?_
          rintro e w4 ⟨sv, rfl, hst, hsb, hb34⟩
          have HST := Lib.hid hst
          have hsz34 := hb34.size
          have HB34 := Lib.hid hb34
          obtain ⟨gS, rfl, s1, s2⟩ := hst
          rw [HRL.out] at hsb HST ⊢
          have HSB := Lib.hid hsb
          clear s2 hsb hb34
          have egS : gS = w3'.heap.size := by have := HSB.out; simpa [Value.ownBlock] using this
          have HEG := Lib.hid egS
          clear egS
          obtain ⟨Z, hZ⟩ : ∃ Z : Nat → Prop, Z = fun i => w.heap.size ≤ i ∧ (i < wr.heap.size ∨ w4.heap.size ≤ i) := ⟨_, rfl⟩
          have HZ := Lib.hid hZ
          clear hZ
          have hb14 : Below wr.heap.size wr w4 := (HB12.out.trans (HB23.out.mono hsz12)).trans (HB34.out.mono (by omega))
          have hown4 : OwnP Z w.heap.size w4 u5 ps := (HOWN.out.mono (Z' := Z) (fun i h1 h2 _ => by rw [HZ.out]; exact ⟨h1, .inl h2⟩)).below (B := 0) hb14
          have hzb : ∀ i, Z i → w.heap.size ≤ i := fun i hi => by rw [HZ.out] at hi; exact hi.1
          have HZB := Lib.hid hzb
          have HB14 := Lib.hid hb14
          have HO4 := Lib.hid hown4
          clear hb14 hown4 hzb
          go_wp2
          go_loopw [5, 56] (fun hv iv wq => ∃ (j : Nat) (ps' : List (Hk × Value)), iv = .int .i64 j ∧ j ≤ K ∧ ps'.map (·.1) = (((rt RA RB K c0).map (shift X Y)).take j).foldl (joinS B) (ps.map (·.1)) ∧ OwnP Z w.heap.size wq hv ps' ∧ Off Z w4 wq) (fun _ iv _ => K - (intOf iv).toNat)
          case atStart => exact ⟨0, ps, rfl, by omega, rfl, HO4.out, Off.refl _ _⟩
          case round =>
            obtain ⟨j, ps', rfl, hj, hps, hown, hoff⟩ := hrel
            have HPS := Lib.hid hps
            have HOW := Lib.hid hown
            have HOF := Lib.hid hoff
            have hszq := hoff.size
            clear hps hown hoff
            by_cases hjK : j < K
            · have j0 : (0 : Int) ≤ j := by omega
              have j1 : (j : Int) < K := by omega
              obtain ⟨st, hst⟩ : ∃ st, (rt RA RB K c0)[j]? = some st := ⟨(rt RA RB K c0)[j]'(by rw [HRL.out]; exact hjK), by simp⟩
              obtain ⟨su, sv', hsu, hsv, hsx, hsy, hsc⟩ := HRS.out st (List.mem_of_getElem? hst)
              have hsteps := steps_off HST.out HSB.out (by rw [HZ.out]; rintro ⟨_, h⟩; have := HEG.out; omega) HOF.out
              obtain ⟨gS', eS, t1, t2⟩ := hsteps
              have eg : gS' = gS := by have := eS; simp only [Value.slice.injEq, Option.some.injEq, Addr.mk.injEq] at this; omega
              subst eg
              obtain ⟨q0, q1, q2⟩ := t2 j st hst
              rw [hsu] at q0
              rw [hsv] at q1
              obtain ⟨sc, hscc⟩ : ∃ sc, sc = st.cut := ⟨_, rfl⟩
              rw [← hscc] at q2 hsc
              have HSTJ := Lib.hid hst
              have HSU := Lib.hid hsu
              have HSV := Lib.hid hsv
              have HSC := Lib.hid hsc
              have HSCC := Lib.hid hscc
              rw [← HAL.out] at hsx
              rw [← HBL.out] at hsy
              clear t2 hst hsu hsv hsc hscc eS
              have hBq : Below w.heap.size w wr := (HBEL.out.trans (HB14.out.mono hsz)).trans (HOF.out.below HZB.out (by omega))
              have HBQ := Lib.hid hBq
              clear hBq
              go_wp2_with fail
              refine (join_any Z w.heap.size _ _ _ ps' ⟨(X : Int) + su, (Y : Int) + sv', sc⟩ B (HOW.out.alloc _) (fun i hi => by rw [HZ.out]; rw [World.size_alloc] at hi; exact ⟨by omega, .inr (by omega)⟩) (by rw [World.size_alloc]; omega)
                (fun w' h => (HB.out.below (HBQ.out.trans (Off.below (((Off.refl Z wr).alloc _).trans h) HZB.out (by omega)))).reads) (tame_ps (by rw [HPS.out]; exact HRT.out j)) (HSC.out.imp id fun h => ⟨Y + sv', by simp, h⟩) ⟨by simp only; omega, by simp only; omega⟩).mono ?_
              rintro e w6 ⟨hv6, rfl, ps6, e1, e2, e3⟩
              have E1 := Lib.hid e1
              have E2 := Lib.hid e2
              have E3 := Lib.hid e3
              clear e1 e2 e3
              go_wp2
              refine ⟨⟨j + 1, ps6, by go_num, by omega, ?_, E2.out, HOF.out.trans (((Off.refl Z wr).alloc _).trans E3.out)⟩, by simp [intOf]; omega⟩
              rw [E1.out, HPS.out, List.take_add_one, List.getElem?_map, HSTJ.out]
              simp only [Option.map_some, Option.toList_some, List.foldl_append, List.foldl_cons, List.foldl_nil]
              congr 1
              unfold shift
              rw [HSU.out, HSV.out, HSCC.out]
            · have ej : j = K := by omega
              have hps := HPS.out
              rw [ej, List.take_of_length_le (by rw [List.length_map, HRL.out]; omega)] at hps
              have HPS2 := Lib.hid hps
              clear hps
              have hil := ints_off (HIL.out.below HB34.out) (fun g h1 h2 => by rw [HZ.out]; rintro ⟨_, h⟩; have := HLOW.out g h1; omega) HOF.out
              have hcell := ints_cell hil HGC.out
              have hac : ∀ wz, Calls Tryd.prog 22 #[.int .i64 dx, .int .i64 c0, .int .i64 K] wz fun e w' => e = .returned (.int .i64 dy) ∧ ∃ n, w' = wz.drewN n := fun wz => by
                rw [← HRAC.out]
                exact (across_any dx c0 K wz (by omega) (by omega) (by omega)).mono fun e w' ⟨h1, h2⟩ => ⟨h1, 0, h2⟩
              have HAC := Lib.hid hac
              have g0 : (0 : Int) ≤ c0 := by omega
              have g1 : (c0 : Int) < (K : Int) + 1 := by omega
              have hBq : Below w.heap.size w wr := (HBEL.out.trans (HB14.out.mono hsz)).trans (HOF.out.below HZB.out (by omega))
              have HBQ := Lib.hid hBq
              clear hil hac hBq
              go_wp2
              go_quiet (first | (go_at_call 22; with_reducible exact Calls.quiet_of (HAC.out _)))
              go_wp2
              refine ⟨⟨k + 1, ps', X + dx, Y + dy, by go_num, by go_num, by omega, by omega, by omega, ?_, ?_, Below.drewN HBQ.out⟩, by simp [intOf]; omega⟩
              · rw [HRN.out, HPS2.out]
              · exact (HOW.out.mono (fun i h1 h2 h3 => HZB.out i h3)).drewN
      · have hy : Y < bl := by omega
        clear hgo
        go_wp2
        go_cut [8, 9] from 21 to 91 (fun ra rb wx => Sl wr ra (A.drop X) ∧ Sl wr rb (B.drop Y) ∧ ∃ d, wx = wr.drewN d)
        case first =>
          by_cases hcx : ca = X
          · subst hcx
            by_cases hcy : cb = Y
            · subst hcy
              go_quiet (fail)
              go_wp2
              go_meet
              case rel => exact ⟨sl_dropEq (HA.out.below HBEL.out) (by omega), sl_dropEq (HB.out.below HBEL.out) (by omega), _, rfl⟩
            · skip
              go_quiet (fail)
              go_wp2
              go_meet
              case rel => exact ⟨sl_dropEq (HA.out.below HBEL.out) (by omega), sl_dropNe (HB.out.below HBEL.out) (by omega) (by assumption), _, rfl⟩
          · by_cases hcy : cb = Y
            · subst hcy
              go_quiet (fail)
              go_wp2
              go_meet
              case rel => exact ⟨sl_dropNe (HA.out.below HBEL.out) (by omega) (by assumption), sl_dropEq (HB.out.below HBEL.out) (by omega), _, rfl⟩
            · skip
              go_quiet (fail)
              go_wp2
              go_meet
              case rel => exact ⟨sl_dropNe (HA.out.below HBEL.out) (by omega) (by assumption), sl_dropNe (HB.out.below HBEL.out) (by omega) (by assumption), _, rfl⟩
        case rest =>
          obtain ⟨hra, hrb, dd, rfl⟩ := hcut
          obtain ⟨K, hK⟩ : ∃ K, K = stop (A.drop X) (B.drop Y) := ⟨_, rfl⟩
          have hKs := stop_facts (A.drop X) (B.drop Y)
          have hK1 : K ≤ 100 := by rw [hK]; exact hKs.2.1
          have hRc := HR.out.rc
          have hRb := HR.out.rbest
          have hRg := HR.out.rgi
          have hRa := HR.out.racr
          have hRn := HR.out.rnext
          have hRt := HR.out.rtame
          have hRs := HR.out.rsteps
          have hRp := HR.out.pos
          have hRx := HR.out.lx
          have hRy := HR.out.ly
          have hsr := search_any (A.drop X) (B.drop Y) u8 u9 (wr.drewN dd) hra.drewN.reads hrb.drewN.reads (by rw [List.length_drop, ← HAL.out]; omega) (by rw [List.length_drop, ← HBL.out]; omega)
          rw [← hK] at hRc hRb hRg hRa hRn hRt hRs hsr
          have hb12 : Below wr.heap.size wr (wr.drewN dd) := Below.drewN (Below.refl _ _)
          have hra := hra.drewN (n := dd)
          have hrb := hrb.drewN (n := dd)
          have hlA : (A.drop X).length ≤ 1000 := by rw [List.length_drop, ← HAL.out]; omega
          have hlB : (B.drop Y).length ≤ 1000 := by rw [List.length_drop, ← HBL.out]; omega
          have hrl := rt_length (A.drop X) (B.drop Y) K c0
          rw [← HAL.out] at hRx
          rw [← HBL.out] at hRy
          generalize wr.drewN dd = w2 at *
          generalize A.drop X = RA at *
          generalize B.drop Y = RB at *
          obtain ⟨ra, cra, rfl⟩ := hra.form
          obtain ⟨rb, crb, rfl⟩ := hrb.form
          obtain ⟨ral, hral⟩ : ∃ n, n = RA.length := ⟨_, rfl⟩
          obtain ⟨rbl, hrbl⟩ : ∃ n, n = RB.length := ⟨_, rfl⟩
          rw [← hral] at hra hlA hsr ⊢
          rw [← hrbl] at hrb hlB hsr ⊢
          have HKE := Lib.hid hK
          have HRA := Lib.hid hra
          have HRB := Lib.hid hrb
          have HSR := Lib.hid hsr
          have HRAL := Lib.hid hral
          have HRBL := Lib.hid hrbl
          have HRC := Lib.hid hRc
          have HRBE := Lib.hid hRb
          have HRG := Lib.hid hRg
          have HRAC := Lib.hid hRa
          have HRN := Lib.hid hRn
          have HRT := Lib.hid hRt
          have HRS := Lib.hid hRs
          have HRL := Lib.hid hrl
          have HB12 := Lib.hid hb12
          have hsz12 := hb12.size
          clear hK hKs hra hrb hsr hral hrbl hRb hRg hRa hRn hRt hRs hrl hb12 HR
          go_wp2_with fail
          refine HSR.out.mono ?_
          rintro e w3 ⟨fv, rfl, hfr, hb23⟩
          have HFR := Lib.hid hfr
          obtain ⟨gF, capF, rfl, f1, f2, f3, f4⟩ := hfr
          obtain ⟨vl, hvl, hil, hlow⟩ := f4 K (Nat.le_refl _)
          have HIL := Lib.hid hil
          have HLOW := Lib.hid hlow
          have hsz23 := hb23.size
          have hsmall := fr_small (a := RA) (b := RB) (k := K) (by omega) (by rw [← HRAL.out]; omega)
          have hfl := fr_length RA RB K
          have hbest := best_any (fr RA RB K) RA RB vl ral rbl ra rb cra crb w3 hil hsmall HRAL.out HRBL.out (by omega) (by omega)
          rw [HRBE.out] at hbest
          have hret := retrace_any RA RB K c0 _ _ _ w3 (HRA.out.below hb23).reads (HRB.out.below hb23).reads HFR.out hK1 hRc (by rw [HRG.out]; omega) (by rw [← HRAL.out]; omega) (by rw [← HRBL.out]; omega)
          obtain ⟨bL, capL, rfl, l1, l2, l3, l4⟩ := hil
          rw [hfl] at hvl hbest l1 HIL HLOW
          have HBEST := Lib.hid hbest
          have HRET := Lib.hid hret
          have HB23 := Lib.hid hb23
          have hgc : (fr RA RB K)[c0]? = some (dx : Int) := by
            rw [← HRG.out, List.getElem?_eq_getElem (by omega)]
            exact congrArg some (gi_of (by simp)).symm
          have HGC := Lib.hid hgc
          clear f4 hlow hbest hret hb23 l4 hgc hsmall hfl
          have k0 : (0 : Int) ≤ K := by omega
          have k1 : (K : Int) < (K : Int) + 1 := by omega
          go_wp2_with fail
          refine HBEST.out.mono ?_
          rintro e w3' ⟨rfl, rfl⟩
          go_wp2_with fail
          refine HRET.out.mono ?_
          rintro e w4 ⟨sv, rfl, hst, hsb, hb34⟩
          have HST := Lib.hid hst
          have hsz34 := hb34.size
          have HB34 := Lib.hid hb34
          obtain ⟨gS, rfl, s1, s2⟩ := hst
          rw [HRL.out] at hsb HST ⊢
          have HSB := Lib.hid hsb
          clear s2 hsb hb34
          have egS : gS = w3'.heap.size := by have := HSB.out; simpa [Value.ownBlock] using this
          have HEG := Lib.hid egS
          clear egS
          obtain ⟨Z, hZ⟩ : ∃ Z : Nat → Prop, Z = fun i => w.heap.size ≤ i ∧ (i < wr.heap.size ∨ w4.heap.size ≤ i) := ⟨_, rfl⟩
          have HZ := Lib.hid hZ
          clear hZ
          have hb14 : Below wr.heap.size wr w4 := (HB12.out.trans (HB23.out.mono hsz12)).trans (HB34.out.mono (by omega))
          have hown4 : OwnP Z w.heap.size w4 u5 ps := (HOWN.out.mono (Z' := Z) (fun i h1 h2 _ => by rw [HZ.out]; exact ⟨h1, .inl h2⟩)).below (B := 0) hb14
          have hzb : ∀ i, Z i → w.heap.size ≤ i := fun i hi => by rw [HZ.out] at hi; exact hi.1
          have HZB := Lib.hid hzb
          have HB14 := Lib.hid hb14
          have HO4 := Lib.hid hown4
          clear hb14 hown4 hzb
          go_wp2
          go_loopw [5, 56] (fun hv iv wq => ∃ (j : Nat) (ps' : List (Hk × Value)), iv = .int .i64 j ∧ j ≤ K ∧ ps'.map (·.1) = (((rt RA RB K c0).map (shift X Y)).take j).foldl (joinS B) (ps.map (·.1)) ∧ OwnP Z w.heap.size wq hv ps' ∧ Off Z w4 wq) (fun _ iv _ => K - (intOf iv).toNat)
          case atStart => exact ⟨0, ps, rfl, by omega, rfl, HO4.out, Off.refl _ _⟩
          case round =>
            obtain ⟨j, ps', rfl, hj, hps, hown, hoff⟩ := hrel
            have HPS := Lib.hid hps
            have HOW := Lib.hid hown
            have HOF := Lib.hid hoff
            have hszq := hoff.size
            clear hps hown hoff
            by_cases hjK : j < K
            · have j0 : (0 : Int) ≤ j := by omega
              have j1 : (j : Int) < K := by omega
              obtain ⟨st, hst⟩ : ∃ st, (rt RA RB K c0)[j]? = some st := ⟨(rt RA RB K c0)[j]'(by rw [HRL.out]; exact hjK), by simp⟩
              obtain ⟨su, sv', hsu, hsv, hsx, hsy, hsc⟩ := HRS.out st (List.mem_of_getElem? hst)
              have hsteps := steps_off HST.out HSB.out (by rw [HZ.out]; rintro ⟨_, h⟩; have := HEG.out; omega) HOF.out
              obtain ⟨gS', eS, t1, t2⟩ := hsteps
              have eg : gS' = gS := by have := eS; simp only [Value.slice.injEq, Option.some.injEq, Addr.mk.injEq] at this; omega
              subst eg
              obtain ⟨q0, q1, q2⟩ := t2 j st hst
              rw [hsu] at q0
              rw [hsv] at q1
              obtain ⟨sc, hscc⟩ : ∃ sc, sc = st.cut := ⟨_, rfl⟩
              rw [← hscc] at q2 hsc
              have HSTJ := Lib.hid hst
              have HSU := Lib.hid hsu
              have HSV := Lib.hid hsv
              have HSC := Lib.hid hsc
              have HSCC := Lib.hid hscc
              rw [← HAL.out] at hsx
              rw [← HBL.out] at hsy
              clear t2 hst hsu hsv hsc hscc eS
              have hBq : Below w.heap.size w wr := (HBEL.out.trans (HB14.out.mono hsz)).trans (HOF.out.below HZB.out (by omega))
              have HBQ := Lib.hid hBq
              clear hBq
              go_wp2_with fail
              refine (join_any Z w.heap.size _ _ _ ps' ⟨(X : Int) + su, (Y : Int) + sv', sc⟩ B (HOW.out.alloc _) (fun i hi => by rw [HZ.out]; rw [World.size_alloc] at hi; exact ⟨by omega, .inr (by omega)⟩) (by rw [World.size_alloc]; omega)
                (fun w' h => (HB.out.below (HBQ.out.trans (Off.below (((Off.refl Z wr).alloc _).trans h) HZB.out (by omega)))).reads) (tame_ps (by rw [HPS.out]; exact HRT.out j)) (HSC.out.imp id fun h => ⟨Y + sv', by simp, h⟩) ⟨by simp only; omega, by simp only; omega⟩).mono ?_
              rintro e w6 ⟨hv6, rfl, ps6, e1, e2, e3⟩
              have E1 := Lib.hid e1
              have E2 := Lib.hid e2
              have E3 := Lib.hid e3
              clear e1 e2 e3
              go_wp2
              refine ⟨⟨j + 1, ps6, by go_num, by omega, ?_, E2.out, HOF.out.trans (((Off.refl Z wr).alloc _).trans E3.out)⟩, by simp [intOf]; omega⟩
              rw [E1.out, HPS.out, List.take_add_one, List.getElem?_map, HSTJ.out]
              simp only [Option.map_some, Option.toList_some, List.foldl_append, List.foldl_cons, List.foldl_nil]
              congr 1
              unfold shift
              rw [HSU.out, HSV.out, HSCC.out]
            · have ej : j = K := by omega
              have hps := HPS.out
              rw [ej, List.take_of_length_le (by rw [List.length_map, HRL.out]; omega)] at hps
              have HPS2 := Lib.hid hps
              clear hps
              have hil := ints_off (HIL.out.below HB34.out) (fun g h1 h2 => by rw [HZ.out]; rintro ⟨_, h⟩; have := HLOW.out g h1; omega) HOF.out
              have hcell := ints_cell hil HGC.out
              have hac : ∀ wz, Calls Tryd.prog 22 #[.int .i64 dx, .int .i64 c0, .int .i64 K] wz fun e w' => e = .returned (.int .i64 dy) ∧ ∃ n, w' = wz.drewN n := fun wz => by
                rw [← HRAC.out]
                exact (across_any dx c0 K wz (by omega) (by omega) (by omega)).mono fun e w' ⟨h1, h2⟩ => ⟨h1, 0, h2⟩
              have HAC := Lib.hid hac
              have g0 : (0 : Int) ≤ c0 := by omega
              have g1 : (c0 : Int) < (K : Int) + 1 := by omega
              have hBq : Below w.heap.size w wr := (HBEL.out.trans (HB14.out.mono hsz)).trans (HOF.out.below HZB.out (by omega))
              have HBQ := Lib.hid hBq
              clear hil hac hBq
              go_wp2
              go_quiet (first | (go_at_call 22; with_reducible exact Calls.quiet_of (HAC.out _)))
              go_wp2
              refine ⟨⟨k + 1, ps', X + dx, Y + dy, by go_num, by go_num, by omega, by omega, by omega, ?_, ?_, Below.drewN HBQ.out⟩, by simp [intOf]; omega⟩
              · rw [HRN.out, HPS2.out]
              · exact (HOW.out.mono (fun i h1 h2 h3 => HZB.out i h3)).drewN
    · have hx : ¬ X < al := by omega
      have hy : ¬ Y < bl := by omega
      have HGO := Lib.hid hgo
      clear hgo
      go_wp2
      go_ret
      refine ⟨_, rfl, ?_, HBEL.out⟩
      have hk := itD_done (a := A) (b := B) (k := k) (by rw [HIT.out]; simp only; rw [← HAL.out, ← HBL.out]; exact HGO.out) (A.length + B.length) (by rw [← HAL.out, ← HBL.out]; omega)
      have hh : diffM A B = ps.map (·.1) := by unfold diffM; rw [hk, HIT.out]
      rw [hh]
      exact HOWN.out.reads
end Go.Proofs.YteppgjdkoakpeaaDoor
