/- The contract of the hunt's from. -/
import Derived.Deep.LoopGhost
import Derived.Test.YtfpepoebammeoaaGreatU7
set_option linter.unusedVariables false
namespace Go.Proofs.YtfpepoebammeoaaGreat
open Go.ChangeShapes Go.WideShapes Go.ChangeAt Go.RowKit

theorem sw_len {adj : Nat → List Nat} {op : List Nat} {bk : Nat → Nat} : ∀ {st : List Stp} {hi : Nat}, SW adj op bk st hi → st.length ≤ hi
  | [], _, _ => Nat.zero_le _
  | s :: rest, hi, ⟨hs, hr, _⟩ => by
    have := sw_len hr
    have := hs.p1
    have := hs.ph
    rw [List.length_cons]
    omega
structure FromI (w0 : World) (S p bb lb m : Nat) (fv hv : Value) (adj : Nat → List Nat) (bk0 : Nat → Nat) (v : Nat) (g : Nat) (op : List Nat) (bk ls : Nat → Nat) (sv : List (Stp × Value)) (ov wv : Value) (W : World) : Prop where
  t : TI m adj op bk ls (sv.map (·.1))
  h : HuntM w0 S p bb lb m fv hv ov wv op bk ls sv W
  g : measK m adj bk (sv.map (·.1)) ≤ g
  n : ∀ u, bk0 u ≠ 0 → bk u ≠ 0
  v : bk v ≠ 0

set_option maxHeartbeats 2000000 in
set_option maxRecDepth 100000 in
theorem from_any {w0 : World} {S p bb lb m E : Nat} {fv hv ov wv : Value} {bk0 ls0 : Nat → Nat} {F : Nat → Nat} {H : List Nat} {W : World} (h : HuntM w0 S p bb lb m fv hv ov wv [] bk0 ls0 [] W) (hT : TI m (adjK m F H) [] bk0 ls0 []) (hweb : WebK w0 fv hv m E F H) (hm : m ≤ 1000000) (hE : E ≤ 1000000) (v : Nat) (hv' : v < m) (hv0 : bk0 v = 0) :
    Calls Tryz.prog 73 #[.pointer (some ⟨p, 0, none⟩), .int .i64 (v : Nat)] W fun e W' => e = .returned (.tuple #[]) ∧ ∃ ov' wv' bk' ls', HuntM w0 S p bb lb m fv hv ov' wv' [] bk' ls' [] W' ∧ TI m (adjK m F H) [] bk' ls' [] ∧ (∀ u, bk0 u ≠ 0 → bk' u ≠ 0) ∧ bk' v ≠ 0 := by
  have HENT := Lib.hid (enter_any h hweb hm hE v hv' (by simp) (by simp))
  have hmT : m + 1 < toldK := by unfold toldK; omega
  have hT1 := ti_enter hT hv' hv0 (fun t ht => by simp at ht) hmT
  have HT1 := Lib.hid hT1
  have HWB := Lib.hid hweb
  have HMT := Lib.hid hmT
  have HLT : Hid (∀ u, ∀ x ∈ adjK m F H u, x < m) := Lib.hid (fun u => adjK_lt hweb.lt u)
  obtain ⟨G0, hG0⟩ : ∃ g, g = measK m (adjK m F H) (upd bk0 v 1) [⟨v, 1, adjK m F H v⟩] := ⟨_, rfl⟩
  have HG0 := Lib.hid hG0
  clear h hT hweb hT1 hmT hG0
  go_enter Tryz.func73, Tryz.ntmps73
  go_wp2_with fail
  refine HENT.out.mono ?_
  rintro e w1 ⟨rfl, ov1, wv1, bv1, h1⟩
  have H1 := Lib.hid h1
  clear h1
  go_wp2_with fail
  go_loopg [4] G0 (fun g _ wr => ∃ op bk ls sv ov wv, Hid (FromI w0 S p bb lb m fv hv (adjK m F H) bk0 v g op bk ls sv ov wv wr))
  case atStart =>
    refine ⟨_, _, _, _, _, _, Lib.hid ⟨?_, H1.out, Nat.le_of_eq HG0.out.symm, fun u hu => ?_, ?_⟩⟩
    · exact HT1.out
    · by_cases e : u = v
      · subst e; rw [upd_same]; simp
      · rw [upd_other _ _ e]; exact hu
    · rw [upd_same]; simp
  case round =>
    obtain ⟨op, bk, ls, sv, ov, wv, HI⟩ := hrel
    have hol := ti_len HI.out.t
    have hsl := sw_len HI.out.t.sw
    rw [List.length_map] at hsl
    have c4 := HI.out.h.c4
    cases sv with
    | nil =>
      have hop := ti_end HI.out.t
      obtain ⟨wa, wc, hwv⟩ := HI.out.h.rw.form
      have hwv0 : wv = .slice wa 0 wc := hwv
      subst hwv0
      subst hop
      clear hwv
      go_wp2_with fail
      go_end0
      exact ⟨rfl, _, _, bk, ls, HI.out.h, HI.out.t, HI.out.n, HI.out.v⟩
    | cons s r =>
      obtain ⟨⟨c, pl, l⟩, u⟩ := s
      have hT : TI m (adjK m F H) op bk ls (⟨c, pl, l⟩ :: r.map (·.1)) := HI.out.t
      have hM := HI.out.h
      have hg : measK m (adjK m F H) bk (⟨c, pl, l⟩ :: r.map (·.1)) ≤ gk := HI.out.g
      have hN := HI.out.n
      have hV := HI.out.v
      obtain ⟨hs, _, _⟩ := hT.sw
      have hp1 : 1 ≤ pl := hs.p1
      have hp2 : pl ≤ op.length := hs.ph
      have hat : op[pl - 1]? = some c := hs.at_
      obtain ⟨hb1, hb2, _⟩ := hT.g1 _ _ hat
      have hcm : c < m := hT.lt c (List.mem_of_getElem? hat)
      obtain ⟨pre, hpre, _⟩ := hs.pre
      simp only at hpre
      obtain ⟨wq, wc, rfl, hw1, hw2, hwp, hwl, s0, s1, s2, sf⟩ := hM.last
      have hu := hM.left _ (List.mem_cons_self)
      simp only at hu
      obtain ⟨k, hk⟩ : ∃ k, k = r.length := ⟨_, rfl⟩
      rw [List.length_cons, ← hk] at hsl
      have hkm : k ≤ 1000000 := by omega
      have hMT := HMT.out
      have HM := Lib.hid hM
      have HT := Lib.hid hT
      have HG := Lib.hid hg
      have HNN := Lib.hid hN
      have HV := Lib.hid hV
      have HK := Lib.hid hk
      have HB1 := Lib.hid hb1
      have hop9 : op.length ≤ 1000000 := by omega
      have hbc9 : bk c ≤ toldK := by unfold toldK at hMT ⊢; omega
      have LV := fun (d : Nat) (hl : l = []) => leave_any (l := l) (hM.drewN (d := d)) hm hcm hp1 hp2 hop9 (by rw [← hk]; exact hkm) hT.lt hbc9
      have HLV := Lib.hid LV
      rw [← hk] at s0 s1 s2 sf c4 hw1
      obtain ⟨ua, uc, hu2⟩ := hu.form
      obtain ⟨ul, hul⟩ : ∃ ul, ul = (nl l).length := ⟨_, rfl⟩
      rw [← hul] at hu2
      subst hu2
      have hbl := hM.bl
      have c3 := hM.c3
      have HUL := Lib.hid hul
      unfold maxLen at hw2
      clear HI hT hM hg hN hV hs hat hk LV hb1 hb2 hul
      cases l with
      | nil =>
        have hul0 : ul = 0 := HUL.out
        subst hul0
        clear hu hbl
        have HL2 := Lib.hid (fun d => HLV.out d rfl)
        clear HLV
        go_wp2_with fail
        go_quiet (fail)
        go_wp2_with fail
        refine (HL2.out _).mono ?_
        rintro e w2 ⟨rfl, hcase⟩
        have HCASE := Lib.hid hcase
        clear hcase
        go_wp2_with fail
        rcases HCASE.out with ⟨hlt, wv', h2⟩ | ⟨hlt, ov', wv', h2⟩
        · go_roundg (gk - 1)
          case measure =>
            have h1 := HG.out
            have h2 := meas_leave (m := m) (adj := adjK m F H) (bk := bk) (bk' := bk) (rest := r.map (·.1)) (s := ⟨c, pl, []⟩) (fun _ _ h => h)
            omega
          case rel =>
            have h1 := HG.out
            have h3 := meas_leave (m := m) (adj := adjK m F H) (bk := bk) (bk' := bk) (rest := r.map (·.1)) (s := ⟨c, pl, []⟩) (fun _ _ h => h)
            exact ⟨_, _, _, _, _, _, Lib.hid ⟨ti_leave HT.out hlt, h2, by omega, HNN.out, HV.out⟩⟩
        · have hbk : ∀ u, bk u ≠ 0 → updL bk toldK (op.drop (pl - 1)) u ≠ 0 := fun u hu => by
            by_cases e : u ∈ op.drop (pl - 1)
            · rw [updL_mem e]; decide
            · rw [updL_not e]; exact hu
          have hbk2 : ∀ u, u < m → updL bk toldK (op.drop (pl - 1)) u = 0 → bk u = 0 := fun u _ hu => Classical.byContradiction fun h => hbk u h hu
          have h3 := meas_leave (m := m) (adj := adjK m F H) (rest := r.map (·.1)) (s := ⟨c, pl, []⟩) hbk2
          go_roundg (gk - 1)
          case measure =>
            have h1 := HG.out
            omega
          case rel =>
            have h1 := HG.out
            exact ⟨op.take (pl - 1), updL bk toldK (op.drop (pl - 1)), updL ls (minL (op.drop (pl - 1))) (op.drop (pl - 1)), r, ov', wv', Lib.hid ⟨ti_tell HT.out hlt HMT.out HLT.out (fun v hv => ⟨updL_mem hv, updL_mem hv⟩) (fun v hv => ⟨updL_not hv, updL_not hv⟩), h2, Nat.le_sub_of_add_le (Nat.le_trans h3 h1), fun u hu => hbk u (HNN.out u hu), hbk v HV.out⟩⟩
      | cons d l =>
        have hdm : d < m := HLT.out c d (by rw [hpre]; simp)
        have hul1 : ul = l.length + 1 := by rw [HUL.out, nl_len, List.length_cons]
        have hul0 : 0 < ul := by omega
        obtain ⟨ub, uo, rfl, hul2, hubl, hulc, hucm, hc0⟩ := hu.some hul0
        have d0 : wr.cell? ⟨ub, uo, none⟩ = some (.int .i64 (d : Nat)) := (hbl.cell (p := ⟨ub, uo, none⟩) hubl).trans (hc0 0 _ (nl_at (x := d) rfl))
        have hul9 : (0 : Int) < ul := by omega
        have hulz : ¬ ul = 0 := by omega
        have hulb : ((ul : Int) == (0 : Int)) = false := by rw [beq_eq_false_iff_ne]; omega
        obtain ⟨xd, xf, _⟩ := HM.out.rb.cellF (bkv_at bk hdm)
        obtain ⟨xc, yf, _⟩ := HM.out.rb.cellF (bkv_at bk hcm)
        obtain ⟨x, hx⟩ : ∃ x, x = bk d := ⟨_, rfl⟩
        rw [← hx] at xd
        unfold maxLen at hucm
        have HX := Lib.hid hx
        have HU := Lib.hid hu
        have HEN := Lib.hid (fun dd => enter_any (HM.out.drewN (d := dd)) HWB.out hm hE d hdm hop9 (by rw [List.length_cons, ← HK.out]; exact Nat.le_trans hsl hop9))
        clear HLV hu hbl hc0 hx hubl hul1 hul2
        by_cases hx0 : x = 0
        · subst hx0
          clear xc yf
          go_wp2_with fail
          go_quiet (fail)
          go_wp2_with fail
          refine (HEN.out _).mono ?_
          rintro e w2 ⟨rfl, ov2, wv2, bv2, h2⟩
          have H2 := Lib.hid h2
          clear h2
          go_wp2_with fail
          have hent := meas_enter (m := m) (adj := adjK m F H) (bk := bk) (st := ⟨c, pl, d :: l⟩ :: r.map (·.1)) (v := d) (p := op.length + 1) (x := op.length + 1) hdm HX.out.symm (by omega)
          have hbk : ∀ u, bk u ≠ 0 → upd bk d (op.length + 1) u ≠ 0 := fun u hu => by
            by_cases e : u = d
            · subst e; rw [upd_same]; omega
            · rw [upd_other _ _ e]; exact hu
          go_roundg (gk - 1)
          case measure =>
            have h1 := HG.out
            omega
          case rel =>
            have h1 := HG.out
            exact ⟨_, upd bk d (op.length + 1), ls, (⟨d, op.length + 1, adjK m F H d⟩, bv2) :: (⟨c, pl, d :: l⟩, _) :: r, ov2, wv2, Lib.hid ⟨ti_enter HT.out hdm HX.out.symm (fun t ht => by simp at ht; subst ht; exact ⟨l, rfl⟩) HMT.out, H2.out, Nat.le_sub_of_add_le (Nat.le_trans hent h1), fun u hu => hbk u (HNN.out u hu), hbk v HV.out⟩⟩
        · have e0 : ((x : Int) == (0 : Int)) = false := by rw [beq_eq_false_iff_ne]; omega
          clear HEN
          obtain ⟨b, hb⟩ : ∃ b, b = bk c := ⟨_, rfl⟩
          rw [← hb] at xc hbc9
          have HB := Lib.hid hb
          have hqb : wq ≠ bb := by have := HM.out.ownW2 (i := wq) rfl; omega
          have hfin : ∀ u', RI w0 u' (nl l) → ∀ dd, HuntM w0 S p bb lb m fv hv ov (.slice (some ⟨wq, 0, none⟩) (k + 1) wc) op (upd bk c (min (bk c) (bk d))) ls ((⟨c, pl, l⟩, u') :: r) (((wr.drewN dd).setCell ⟨bb, c, none⟩ (.int .i64 (min (bk c) (bk d) : Nat))).setCell ⟨wq, k * 3 + 2, none⟩ u') := fun u' hu' dd => by
            have h := HM.out.drewN (d := dd)
            rw [← HK.out] at h
            have h2 := h.putB (x := min (bk c) (bk d)) hcm
            rw [HK.out] at h2 ⊢
            exact h2.putLast hu'
          have htl := RI.tail (x := (d : Int)) (l := nl l) HU.out
          have HTL1 : Hid (uc = 1 → RI w0 (.slice (some ⟨ub, uo, none⟩) (ul - 1) 0) (nl l)) := Lib.hid (fun e => by have := htl; rw [if_pos e, e] at this; exact this)
          have HTL0 : Hid (¬ uc = 1 → RI w0 (.slice (some ⟨ub, uo + 1, none⟩) (ul - 1) (uc - 1)) (nl l)) := Lib.hid (fun e => by have := htl; rw [if_neg e] at this; exact this)
          have HFX : Hid (x < b → ∀ u', RI w0 u' (nl l) → ∀ dd, HuntM w0 S p bb lb m fv hv ov (.slice (some ⟨wq, 0, none⟩) (k + 1) wc) op (upd bk c (min (bk c) (bk d))) ls ((⟨c, pl, l⟩, u') :: r) (((wr.drewN dd).setCell ⟨bb, c, none⟩ (.int .i64 (x : Nat))).setCell ⟨wq, k * 3 + 2, none⟩ u')) := Lib.hid (fun e u' hu' dd => by
            have h := hfin u' hu' dd
            rw [show min (bk c) (bk d) = x by rw [← hb, ← HX.out]; omega] at h ⊢
            exact h)
          have HFB : Hid (¬ x < b → ∀ u', RI w0 u' (nl l) → ∀ dd, HuntM w0 S p bb lb m fv hv ov (.slice (some ⟨wq, 0, none⟩) (k + 1) wc) op (upd bk c (min (bk c) (bk d))) ls ((⟨c, pl, l⟩, u') :: r) (((wr.drewN dd).setCell ⟨bb, c, none⟩ (.int .i64 (b : Nat))).setCell ⟨wq, k * 3 + 2, none⟩ u')) := Lib.hid (fun e u' hu' dd => by
            have h := hfin u' hu' dd
            rw [show min (bk c) (bk d) = b by rw [← hb, ← HX.out]; omega] at h ⊢
            exact h)
          have hal := meas_along (m := m) (adj := adjK m F H) (bk := bk) (rest := r.map (·.1)) (c := c) (p := pl) (d := d) (x := min (bk c) (bk d)) (l := l) (by have := HB1.out; omega) (by have := HB1.out; rw [← HX.out]; omega)
          have hbk : ∀ u, bk u ≠ 0 → upd bk c (min (bk c) (bk d)) u ≠ 0 := fun u hu => by
            by_cases e : u = c
            · subst e; have := HB1.out; rw [upd_same, ← HX.out]; omega
            · rw [upd_other _ _ e]; exact hu
          have HAL := Lib.hid (Nat.le_sub_of_add_le (Nat.le_trans hal HG.out))
          have HGK : Hid (gk - 1 < gk) := Lib.hid (by have := Nat.le_trans hal HG.out; omega)
          have HTI : Hid (TI m (adjK m F H) op (upd bk c (min (bk c) (bk d))) ls (⟨c, pl, l⟩ :: r.map (·.1))) := Lib.hid (ti_along HT.out hdm (by rw [← HX.out]; exact hx0) HMT.out)
          have HBK := Lib.hid hbk
          clear hb hfin htl hal hbk
          go_wp2_with fail
          go_quiet (fail)
          go_wp2_with fail
          go_region
          go_wp2_with fail
          all_goals
            go_roundg (gk - 1)
            case measure => exact HGK.out
            case rel =>
              first
              | exact ⟨op, upd bk c (min (bk c) (bk d)), ls, (⟨c, pl, l⟩, _) :: r, ov, _, Lib.hid ⟨HTI.out, HFX.out (by assumption) _ (HTL1.out (by assumption)) _, HAL.out, fun u hu => HBK.out u (HNN.out u hu), HBK.out v HV.out⟩⟩
              | exact ⟨op, upd bk c (min (bk c) (bk d)), ls, (⟨c, pl, l⟩, _) :: r, ov, _, Lib.hid ⟨HTI.out, HFX.out (by assumption) _ (HTL0.out (by assumption)) _, HAL.out, fun u hu => HBK.out u (HNN.out u hu), HBK.out v HV.out⟩⟩
              | exact ⟨op, upd bk c (min (bk c) (bk d)), ls, (⟨c, pl, l⟩, _) :: r, ov, _, Lib.hid ⟨HTI.out, HFB.out (by assumption) _ (HTL1.out (by assumption)) _, HAL.out, fun u hu => HBK.out u (HNN.out u hu), HBK.out v HV.out⟩⟩
              | exact ⟨op, upd bk c (min (bk c) (bk d)), ls, (⟨c, pl, l⟩, _) :: r, ov, _, Lib.hid ⟨HTI.out, HFB.out (by assumption) _ (HTL0.out (by assumption)) _, HAL.out, fun u hu => HBK.out u (HNN.out u hu), HBK.out v HV.out⟩⟩
end Go.Proofs.YtfpepoebammeoaaGreat
