/- Of package poset: Runs and Sides of an order that is nil. The law PosetTells, walked. -/
import Derived.Test.YtfpepoebammeoaaGreatU42
import Derived.Test.YtfpepoebammeoaaGreatU48
set_option linter.unusedVariables false
set_option linter.unusedSimpArgs false
namespace Go.Proofs.YtfpepoebammeoaaGreat
open Go.ChangeShapes Go.WideShapes Go.ChangeAt Go.RowKit

theorem board_none : BoardS (fun _ _ => False) ([] : List Nat).length 0 (fun _ => 0) [] := ⟨fun e h => (by cases h), fun e h => (by cases h), List.Pairwise.nil, fun i j hi => absurd hi (Nat.not_lt_zero _)⟩
theorem runs_nil (v : Value) (w : World) : Calls Tryz.prog 15 #[.pointer none, v] w fun e w' => ∃ a c, e = .returned (.slice a 0 c) ∧ Below w.heap.size w w' := by
  have HL := Lib.hid (lay_nil v w)
  go_enter Tryz.func15, Tryz.ntmps15
  go_wp2_with fail
  refine HL.out.mono ?_
  rintro e w2 ⟨bv, rfl, hM, hb2⟩
  have HR := Lib.hid (runs_any bv w2 hM board_none (by omega) (by simp) (by simp))
  have HB2 := Lib.hid hb2
  clear hM hb2
  go_wp2_with fail
  refine HR.out.mono ?_
  rintro e w3 ⟨ov, L, rfl, hK, hLm, hG, hb3⟩
  obtain ⟨a, c, hf⟩ := hG.form
  go_wp2_with fail
  go_ret
  exact ⟨a, c, rfl, HB2.out.trans (hb3.mono HB2.out.size)⟩
theorem sides_nil (v : Value) (w : World) : Calls Tryz.prog 17 #[.pointer none, v] w fun e w' => ∃ a c, e = .returned (.slice a 0 c) ∧ Below w.heap.size w w' := by
  have HL := Lib.hid (lay_nil v w)
  go_enter Tryz.func17, Tryz.ntmps17
  go_wp2_with fail
  refine HL.out.mono ?_
  rintro e w2 ⟨bv, rfl, hM, hb2⟩
  have HR := Lib.hid (sides_any bv w2 hM board_none (by omega) (by simp) (by simp))
  have HB2 := Lib.hid hb2
  clear hM hb2
  go_wp2_with fail
  refine HR.out.mono ?_
  rintro e w3 ⟨ov, L, r, rfl, hK, hLm, hS, hG, hb3⟩
  obtain ⟨a, c, hf⟩ := hG.form
  go_wp2_with fail
  go_ret
  exact ⟨a, c, rfl, HB2.out.trans (hb3.mono HB2.out.size)⟩
theorem src_ints {w : World} {a : Option Addr} {n c : Nat} {xs : List Int} (h : RI w (.slice a n c) xs) : Src Tryz.prog 1 23 (.slice a n c) n (iv xs) w := by
  have h1 : ∀ u ∈ iv xs, u.oneCell' = true := fun u hu => by
    obtain ⟨x, _, rfl⟩ := List.mem_map.1 hu
    rfl
  rcases h with ⟨rfl, a', c', e⟩ | ⟨hn, b, o, c', e, hc, hm, hb, hx⟩
  · simp only [Value.slice.injEq] at e
    obtain ⟨rfl, rfl, rfl⟩ := e
    cases a with
    | none => exact Src.ofNil w Tryz.underlying23 _
    | some b => exact Src.ofSlice w Tryz.underlying23 b 0 c [] rfl (by simp) (by simp)
  · simp only [Value.slice.injEq] at e
    obtain ⟨rfl, rfl, rfl⟩ := e
    refine Src.ofSlice w Tryz.underlying23 _ xs.length c _ (by simp [iv]) (fun j u hj => ?_) h1
    unfold iv at hj
    rw [List.getElem?_map] at hj
    obtain ⟨x, hx1, rfl⟩ := Option.map_eq_some_iff.1 hj
    have := hx j x hx1
    rw [show (⟨b, o, none⟩ : Addr).add j = ⟨b, o + j, none⟩ by unfold Addr.add; simp]
    exact this
theorem hasB_nat (n : Int) : hasB (n.toNat : Int) = hasB n := by
  funext t
  unfold hasB
  by_cases h : 0 ≤ t
  · rw [decide_eq_true h, Bool.true_and, Bool.true_and, decide_eq_decide]
    omega
  · rw [decide_eq_false h, Bool.false_and, Bool.false_and]
theorem ahB_nat (n : Int) (F : EdN) (a b : Int) : ahB (n.toNat : Int) F a b = ahB n F a b := by unfold ahB; rw [hasB_nat]
theorem cpB_nat (n : Int) (F : EdN) (a b : Int) : cpB (n.toNat : Int) F a b = cpB n F a b := by unfold cpB; rw [hasB_nat]
end Go.Proofs.YtfpepoebammeoaaGreat
set_option linter.unusedVariables false
set_option linter.unusedSimpArgs false
namespace Go.Proofs.YtfpepoebammeoaaGreat
open Go.ChangeShapes Go.WideShapes Go.ChangeAt Go.RowKit

set_option maxHeartbeats 16000000 in
set_option maxRecDepth 100000 in
theorem ptells_law (n : Int) (es : Ed) (v : Value) (l : List Int) (lv : Value) (w : World) (hr : RE w v es) (hl : es.length ≤ 140737488355328) (hn1 : -9223372036854775808 ≤ n) (hn2 : n ≤ 9223372036854775807) (hrl : RI w lv l) (hll : l.length ≤ 140737488355328) (hlb : ∀ x ∈ l, -9223372036854775808 ≤ x ∧ x ≤ 9223372036854775807) :
    Calls Tryz.prog 3 #[.int .i64 n, v, lv] w fun e w' => e = .returned (.bool true) ∧ Below w.heap.size w w' := by
  obtain ⟨va, vc, rfl⟩ := hr.form
  obtain ⟨la, lc, rfl⟩ := hrl.form
  obtain ⟨E, hE⟩ : ∃ E, E = es.length := ⟨_, rfl⟩
  obtain ⟨LN, hLN⟩ : ∃ LN, LN = l.length := ⟨_, rfl⟩
  rw [← hE] at hr hl ⊢
  rw [← hLN] at hrl hll ⊢
  have AW := Lib.hid (paw_any w)
  have HR := Lib.hid hr
  have HE := Lib.hid hE
  have HRL := Lib.hid hrl
  have HLN := Lib.hid hLN
  have HLB := Lib.hid hlb
  clear hr hE hrl hLN hlb
  go_enter Tryz.func3, Tryz.ntmps3
  go_wp2_with fail
  refine AW.out.mono ?_
  rintro e w2 ⟨rfl, hb2⟩
  have HB2 := Lib.hid hb2
  clear hb2 AW
  by_cases hg1 : 40 < n
  · go_wp2_with fail
    go_ret
    exact ⟨rfl, HB2.out⟩
  by_cases hg2 : 150 < E
  · have hg2I : (150 : Int) < (E : Int) := by omega
    go_wp2_with fail
    go_ret
    exact ⟨rfl, HB2.out⟩
  have hg2I : ¬ (150 : Int) < (E : Int) := by omega
  by_cases hg3 : 60 < LN
  · have hg3I : (60 : Int) < (LN : Int) := by omega
    go_wp2_with fail
    go_ret
    exact ⟨rfl, HB2.out⟩
  have hg3I : ¬ (60 : Int) < (LN : Int) := by omega
  have hE3 : E ≤ 150 := by omega
  have hL6 : LN ≤ 60 := by omega
  have S1 := Lib.hid (newX_any n es (.slice va E vc) w2 (HR.out.below HB2.out) (by rw [← HE.out]; omega) hn1 (by omega))
  have S1r := Lib.hid (fun W (h : Below w2.heap.size w2 W) => rnew_any n es (.slice va E vc) W ((HR.out.below HB2.out).below h) (by rw [← HE.out]; omega) hn1 (by omega))
  go_wp2_with fail
  refine S1.out.mono ?_
  rintro e w3 ⟨p, T, pl, W, rfl, hO, hb3⟩
  have S2 := Lib.hid (S1r.out w3 hb3)
  have HB3 := Lib.hid (HB2.out.trans (hb3.mono HB2.out.size))
  have HOX := Lib.hid hO
  clear hO hb3 S1 S1r
  go_wp2_with fail
  refine S2.out.mono ?_
  rintro e w4 ⟨p2, rfl, hO2, hb4⟩
  obtain ⟨F, hF⟩ : ∃ F, F = edN n es := ⟨_, rfl⟩
  have hFl := edN_lt n es
  rw [← hF] at hO2 hFl
  have HO4 := Lib.hid (show OrdX w4 p n F T pl W by rw [hF]; exact HOX.out.below hb4)
  have HR4 := Lib.hid hO2
  have HB4 := Lib.hid (HB3.out.trans (hb4.mono HB3.out.size))
  have HFL := Lib.hid hFl
  have HNN : Hid (n.toNat ≤ 40) := Lib.hid (by omega)
  have HAH := Lib.hid (fun (a b : Int) W' (h : Below w4.heap.size w4 W') => (ahead_any a b W' (HO4.out.below h)).mono (R' := fun e w' => e = .returned (.bool (ahB n F a b)) ∧ Below w4.heap.size w4 w') (fun e w' he => ⟨he.1, h.trans (he.2.mono h.size)⟩))
  have HCP := Lib.hid (fun (a b : Int) W' (h : Below w4.heap.size w4 W') => (comp_any a b W' (HO4.out.below h)).mono (R' := fun e w' => e = .returned (.bool (cpB n F a b)) ∧ Below w4.heap.size w4 w') (fun e w' he => ⟨he.1, h.trans (he.2.mono h.size)⟩))
  have HAR := Lib.hid (fun (a b : Int) (ha : -1 ≤ a ∧ a ≤ 41) (hb : -1 ≤ b ∧ b ≤ 41) W' (h : Below w4.heap.size w4 W') => (rahead_any p2 n.toNat F HFL.out a b W' (HR4.out.below h) (by have := HNN.out; omega) (by omega) (by omega) (by omega) (by omega)).mono (R' := fun e w' => e = .returned (.bool (ahB n F a b)) ∧ w' = W') (fun e w' he => ⟨by rw [he.1, ahB_nat], he.2⟩))
  have HCR := Lib.hid (fun (a b : Int) (ha : -1 ≤ a ∧ a ≤ 41) (hb : -1 ≤ b ∧ b ≤ 41) W' (h : Below w4.heap.size w4 W') => (rcomp_any p2 n.toNat F HFL.out a b W' (HR4.out.below h) (by have := HNN.out; omega) (by omega) (by omega) (by omega) (by omega)).mono (R' := fun e w' => e = .returned (.bool (cpB n F a b)) ∧ w' = W') (fun e w' he => ⟨by rw [he.1, cpB_nat], he.2⟩))
  clear hO2 hb4 hF hFl S2 HOX
  go_wp2_with fail
  go_loopw [9] (fun av wr => ∃ a : Int, av = .int .i64 a ∧ -1 ≤ a ∧ a ≤ 41 ∧ Hid (Below w4.heap.size w4 wr)) (fun av _ => (41 - intOf av).toNat)
  case atStart => exact ⟨-1, rfl, by omega, by omega, Lib.hid (Below.refl _ _)⟩
  case round =>
    obtain ⟨a, rfl, ha1, ha2, HBA⟩ := hrel
    by_cases hla : a ≤ n
    · go_wp2_with fail
      go_loopw [10] (fun bv wr => ∃ b : Int, bv = .int .i64 b ∧ -1 ≤ b ∧ b ≤ 41 ∧ Hid (Below w4.heap.size w4 wr)) (fun bv _ => (41 - intOf bv).toNat)
      case atStart => exact ⟨-1, rfl, by omega, by omega, HBA⟩
      case round =>
        clear HBA
        obtain ⟨b, rfl, hb1, hb2, HBB⟩ := hrel
        by_cases hlb : b ≤ n
        · have H1 := Lib.hid (HAH.out a b wr HBB.out)
          have H2 := Lib.hid (HAR.out a b ⟨ha1, ha2⟩ ⟨hb1, hb2⟩)
          have H3 := Lib.hid (HCP.out a b)
          have H4 := Lib.hid (HCR.out a b ⟨ha1, ha2⟩ ⟨hb1, hb2⟩)
          obtain ⟨c, hc⟩ : ∃ c, c = ahB n F a b := ⟨_, rfl⟩
          obtain ⟨d, hd⟩ : ∃ d, d = cpB n F a b := ⟨_, rfl⟩
          rw [← hc] at H1 H2
          rw [← hd] at H3 H4
          have hcc : (c != c) = false := by simp
          have hdd : (d != d) = false := by simp
          clear hc hd
          go_wp2_with fail
          refine H1.out.mono ?_
          rintro e r1 ⟨rfl, hr1⟩
          have H2' := Lib.hid (H2.out r1 hr1)
          have H3' := Lib.hid (H3.out r1 hr1)
          clear hr1
          go_wp2_with fail
          refine H2'.out.mono ?_
          rintro e r2 ⟨rfl, hr2⟩
          obtain rfl := hr2.symm
          go_wp2_with fail
          refine H3'.out.mono ?_
          rintro e r3 ⟨rfl, hr3⟩
          have H4' := Lib.hid (H4.out r3 hr3)
          have HR3 := Lib.hid hr3
          clear hr3
          go_wp2_with fail
          refine H4'.out.mono ?_
          rintro e r4 ⟨rfl, hr4⟩
          obtain rfl := hr4.symm
          go_wp2_with fail
          exact ⟨⟨b + 1, by go_num, by omega, by omega, HR3⟩, by simp [intOf]; omega⟩
        · go_wp2_with fail
          exact ⟨⟨a + 1, by go_num, by omega, by omega, HBB⟩, by simp [intOf]; omega⟩
    · have HBL : Hid (Below w.heap.size w wr) := Lib.hid (HB4.out.trans (HBA.out.mono HB4.out.size))
      have HBM := Lib.hid ((Below.refl wr.heap.size wr).alloc (Nat.le_refl _) (.cells #[] 3))
      have HSRC := Lib.hid (src_ints ((HRL.out.below HBL.out).below HBM.out))
      have HRW := Lib.hid (show Row 1 wr.heap.size (wr.alloc (.cells #[] 3)) (.slice (some ⟨wr.heap.size, 0, none⟩) 0 0) 0 [] from row_new (Nat.le_refl _) (by simp) (Nat.le_refl _) (by unfold maxLen; omega) (by simp) (.inl rfl) (fun j u hu => by simp at hu))
      have HSZ : Hid (wr.heap.size ≤ (wr.alloc (.cells #[] 3)).heap.size) := Lib.hid HBM.out.size
      go_wp2_with (at_builtin; refine wpList_append_row rfl (.tmp 64) (.tmp 65) 23 23 rfl 1 3 (.int .i64 0) 8 Tryz.underlying23 infoIk rfl wr.heap.size (.slice (some ⟨wr.heap.size, 0, none⟩) 0 0) 0 [] (by simp [Act.eval]) HRW.out (.slice la LN lc) (by simp [Act.eval]) LN (iv l) HSRC.out HSZ.out (by omega) (by decide) ?_; intro v8 w8 hr8 ho8 hw8; rw [Nat.zero_add, List.nil_append] at hr8; obtain ⟨a8, c8, hv8⟩ := hr8.form; subst hv8; have HR8 := Lib.hid hr8; have HO8 := Lib.hid ho8; clear hr8 ho8 hw8)
      have HRI : Hid (RI w8 (.slice a8 LN c8) l) := Lib.hid (RI.ofRow (B := wr.heap.size) (by rw [← HLN.out]; exact HR8.out))
      have HB8 : Hid (Below w4.heap.size w4 w8) := Lib.hid (HBA.out.trans ((HBM.out.trans (HO8.out.below (B := wr.heap.size) (fun b hb => by
        have : wr.heap.size = b := by simpa [Value.ownBlock] using hb
        omega) HSZ.out)).mono HBA.out.size))
      obtain ⟨N, hN⟩ : ∃ N, N = n.toNat := ⟨_, rfl⟩
      have hHB := hasB_nat n
      rw [← hN] at hHB
      obtain ⟨P, hP⟩ : ∃ P, P = plI T pl := ⟨_, rfl⟩
      have hPK : ∀ x y : Nat, P (x : Int) = P (y : Int) ↔ Knot (EdR F) x y := fun x y => by rw [hP]; exact plI_same HO4.out.ok
      obtain ⟨A, hA⟩ : ∃ A, A = askN (hasB n) P l := ⟨_, rfl⟩
      have hA2 : A = askN (hasB (N : Int)) P l := by rw [hA, hHB]
      have hA60 : A.length ≤ 60 := by
        have := askN_len n P l
        rw [hA]
        have := HLN.out
        omega
      have HFN : ∀ e ∈ F, e.1 < N ∧ e.2 < N := by rw [hN]; exact HFL.out
      have HN40 : N ≤ 40 := by rw [hN]; exact HNN.out
      have hRO4 : ROrd w4 p2 N (viaB (edB F) N) := by rw [hN]; exact HR4.out
      have hLNc := HLN.out
      have HRU := Lib.hid (fun W (h : Below w8.heap.size w8 W) => by
        have := runsO_any l (.slice a8 LN c8) W ((HO4.out.below HB8.out).below h) (HRI.out.below h) (by omega)
        rw [← hP, ← hA] at this
        exact this)
      have HSI := Lib.hid (fun W (h : Below w8.heap.size w8 W) => by
        have := sidesO_any l (.slice a8 LN c8) W ((HO4.out.below HB8.out).below h) (HRI.out.below h) (by omega)
        rw [← hP, ← hA] at this
        exact this)
      have HRUr := Lib.hid (fun L s (hK : RunsK n F A L s) W (h : Below w8.heap.size w8 W) => rruns_any p2 N F HFN P hPK l (.slice la LN lc) W (hRO4.below (HB8.out.trans (h.mono HB8.out.size))) ((HRL.out.below HB4.out).below (HB8.out.trans (h.mono HB8.out.size))) (by omega) HLB.out (by omega) A hA2 L s ⟨hK.line, hK.len, hK.single⟩)
      have HSIr := Lib.hid (fun L D r (hK : SidesK F A L D r) W (h : Below w8.heap.size w8 W) => rsides_any p2 N F HFN P hPK l (.slice la LN lc) W (hRO4.below (HB8.out.trans (h.mono HB8.out.size))) ((HRL.out.below HB4.out).below (HB8.out.trans (h.mono HB8.out.size))) (by omega) HLB.out (by omega) A hA2 L D r hK)
      have HA60 := Lib.hid hA60
      have HEND := Lib.hid (HB4.out.trans (HB8.out.mono HB4.out.size))
      have HRL8 := Lib.hid ((HRL.out.below HB4.out).below HB8.out)
      have hRU0 := Lib.hid (HRU.out w8 (Below.refl _ _))
      clear hN hHB hP hPK hA hA2 hA60 HFN HN40 hRO4 hLNc HRU HAH HCP HAR HCR HBA HBL HBM HSRC HRW HSZ HO8 HR8
      go_wp2_with fail
      refine hRU0.out.mono ?_
      rintro e w9 ⟨gv, L, s, rfl, hK, hG, hb9⟩
      have HG9 := Lib.hid hG
      have HB9 := Lib.hid hb9
      have HX := Lib.hid (HRUr.out L s hK w9 hb9)
      obtain ⟨G, hGe⟩ : ∃ G, G = runL s (xOf A L) A.length := ⟨_, rfl⟩
      have hGL : G.length ≤ 60 ∧ ∀ g ∈ G, g.length ≤ 60 := by
        rw [hGe]
        refine ⟨Nat.le_trans (runL_len _ _ _) HA60.out, fun g hg => Nat.le_trans (runL_short _ _ _ g hg) HA60.out⟩
      rw [← hGe] at HX HG9
      have HGL := Lib.hid hGL
      clear hG hb9 hK hGe hGL hRU0
      go_wp2_with fail
      refine HX.out.mono ?_
      rintro e w10 ⟨gv2, rfl, hG2, hb10⟩
      have HSM := Lib.hid ((sameG_any G G gv gv2 w10 (HG9.out.below hb10) hG2 (by have := HGL.out.1; omega) (by have := HGL.out.1; omega) (fun g hg => by have := HGL.out.2 g hg; omega) (fun g hg => by have := HGL.out.2 g hg; omega)).mono (R' := fun e w' => e = .returned (.bool true) ∧ Below w10.heap.size w10 w') (fun e w' h => ⟨by rw [h.1]; simp, h.2⟩))
      have HB10 := Lib.hid (HB9.out.trans (hb10.mono HB9.out.size))
      clear hG2 hb10 HX
      go_wp2_with fail
      refine HSM.out.mono ?_
      rintro e w11 ⟨rfl, hb11⟩
      have HB11 := Lib.hid (HB10.out.trans (hb11.mono HB10.out.size))
      have HS0 := Lib.hid (HSI.out w11 HB11.out)
      clear hb11 HSM HG9 HB9 HB10
      go_wp2_with fail
      refine HS0.out.mono ?_
      rintro e w12 ⟨gv3, L2, D, r, rfl, hK, hG, hb12⟩
      have HG12 := Lib.hid hG
      have HB12 := Lib.hid (HB11.out.trans (hb12.mono HB11.out.size))
      have HX := Lib.hid (HSIr.out L2 D r hK w12 HB12.out)
      obtain ⟨G2, hGe⟩ : ∃ G2, G2 = sdG r D (hdL r D A.length) A L2 := ⟨_, rfl⟩
      have hGL : G2.length ≤ 60 ∧ ∀ g ∈ G2, g.length ≤ 60 := by
        rw [hGe]
        refine ⟨by rw [sdG_len]; exact Nat.le_trans (hdL_len _ _ _) HA60.out, fun g hg => Nat.le_trans (sdG_short _ _ _ _ _ g hg) (by rw [hK.len]; exact HA60.out)⟩
      rw [← hGe] at HX HG12
      have HGL2 := Lib.hid hGL
      clear hG hb12 hK hGe hGL HS0
      go_wp2_with fail
      refine HX.out.mono ?_
      rintro e w13 ⟨gv4, rfl, hG2, hb13⟩
      have HSM := Lib.hid ((sameG_any G2 G2 gv3 gv4 w13 (HG12.out.below hb13) hG2 (by have := HGL2.out.1; omega) (by have := HGL2.out.1; omega) (fun g hg => by have := HGL2.out.2 g hg; omega) (fun g hg => by have := HGL2.out.2 g hg; omega)).mono (R' := fun e w' => e = .returned (.bool true) ∧ Below w13.heap.size w13 w') (fun e w' h => ⟨by rw [h.1]; simp, h.2⟩))
      have HB13 := Lib.hid (HB12.out.trans (hb13.mono HB12.out.size))
      clear hG2 hb13 HX
      go_wp2_with fail
      refine HSM.out.mono ?_
      rintro e w14 ⟨rfl, hb14⟩
      have HB14 := Lib.hid (HB13.out.trans (hb14.mono HB13.out.size))
      clear hb14 HSM HG12 HB12 HB13 HB11 HRUr HSIr HSI
      go_wp2_with fail
      go_loopw [87] (fun jv wr => ∃ j : Nat, jv = .int .i64 (j : Nat) ∧ j ≤ LN ∧ Hid (Below w8.heap.size w8 wr)) (fun jv _ => LN - (intOf jv).toNat)
      case atStart => exact ⟨0, rfl, Nat.zero_le _, HB14⟩
      case round =>
        obtain ⟨j, rfl, hj, HBJ⟩ := hrel
        by_cases hlj : j < LN
        · obtain ⟨x, hx⟩ : ∃ x, l[j]? = some x := ⟨l[j]'(by rw [← HLN.out]; exact hlj), by simp⟩
          obtain ⟨b1, o1, rfl, hb1, hc11, hc12, cx1⟩ := HRI.out.at hx
          obtain ⟨b2, o2, rfl, hb2, hc21, hc22, cx2⟩ := HRL8.out.at hx
          have cx1 := (HBJ.out.cell (p := ⟨b1, _, none⟩) hb1).trans cx1
          have cx2 := (HBJ.out.cell (p := ⟨b2, _, none⟩) hb2).trans cx2
          have hxx : (x != x) = false := by simp
          have HB9 := HBJ
          unfold maxLen at hc12 hc22
          clear hx hb1 hb2
          go_wp2_with fail
          go_quiet (fail)
          go_wp2_with fail
          exact ⟨⟨j + 1, by go_num, by omega, Lib.hid (below_drewN HB9.out)⟩, by simp [intOf]; omega⟩
        · have hje : LN = j := by omega
          have N1 := Lib.hid (ahead_nil 0 0 wr)
          have N2 := Lib.hid (comp_nil 0 0 wr)
          have N3 := Lib.hid (runs_nil (.slice la LN lc) wr)
          have N4 := Lib.hid (fun W => sides_nil (.slice la LN lc) W)
          subst hje
          go_wp2_with fail
          refine N1.out.mono ?_
          rintro e r1 ⟨rfl, hr1⟩
          obtain rfl := hr1.symm
          go_wp2_with fail
          refine N2.out.mono ?_
          rintro e r2 ⟨rfl, hr2⟩
          obtain rfl := hr2.symm
          go_wp2_with fail
          refine N3.out.mono ?_
          rintro e r3 ⟨a3, c3, rfl, hb3⟩
          have HB3' := Lib.hid hb3
          clear hb3
          go_wp2_with fail
          refine (N4.out r3).mono ?_
          rintro e r4 ⟨a4, c4, rfl, hb4⟩
          have HB4' := Lib.hid hb4
          clear hb4
          go_wp2_with fail
          go_ret
          exact ⟨rfl, HEND.out.trans ((HBJ.out.trans ((HB3'.out.trans (HB4'.out.mono HB3'.out.size)).mono HBJ.out.size)).mono (by have := HEND.out.size; exact this))⟩
end Go.Proofs.YtfpepoebammeoaaGreat
