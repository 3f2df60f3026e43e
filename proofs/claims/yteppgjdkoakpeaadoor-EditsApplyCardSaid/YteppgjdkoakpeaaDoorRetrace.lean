/- The contract of retrace: the steps of a way, out of the fronts. -/
import Derived.Test.YteppgjdkoakpeaaDoorSearch
import Derived.BigRegion
import Derived.Deep.RegionWith
import Derived.Deep.RegionLaw
import Derived.Deep.AppendLies
import Derived.StillTailTactics
import Derived.Deep.Cut
set_option linter.unusedVariables false
namespace Go.Proofs.YteppgjdkoakpeaaDoor
open Go.ChangeShapes Go.WideShapes Go.ChangeAt Go.RowKit

theorem Tryd.infoStep : (Tryd.prog.info? 57).map (fun i => (i.zero, i.size, i.bytes)) = some (some (.agg #[.int .i64 0, .int .i64 0, .bool false]), 3, 24) := by kernel_rfl

/-- What lies in cell i of a row of steps. -/
def stepC (ss : List Stp) (i : Nat) : Value :=
  match ss[i / 3]? with
  | some s => if i % 3 = 0 then .int .i64 s.x else if i % 3 = 1 then .int .i64 s.y else .bool s.cut
  | none => undef
def zeroC (i : Nat) : Value := if i % 3 = 2 then .bool false else .int .i64 0
def backC (ss : List Stp) (e i : Nat) : Value := if i < e * 3 then zeroC i else stepC ss i

theorem stepC_at {ss : List Stp} {d : Nat} {s : Stp} (h : ss[d]? = some s) : stepC ss (d * 3) = .int .i64 s.x ∧ stepC ss (d * 3 + 1) = .int .i64 s.y ∧ stepC ss (d * 3 + 2) = .bool s.cut := by
  refine ⟨?_, ?_, ?_⟩
  · unfold stepC
    rw [show d * 3 / 3 = d by omega, h]
    simp
  · unfold stepC
    rw [show (d * 3 + 1) / 3 = d by omega, h]
    simp [show (d * 3 + 1) % 3 = 1 by omega]
  · unfold stepC
    rw [show (d * 3 + 2) / 3 = d by omega, h]
    simp [show (d * 3 + 2) % 3 = 2 by omega]

/-- The slice value v reads as the steps ss. -/
def Steps (w : World) (v : Value) (ss : List Stp) : Prop :=
  ∃ g, v = .slice (some ⟨g, 0, none⟩) ss.length ss.length ∧ g < w.heap.size ∧ ∀ (j : Nat) s, ss[j]? = some s → w.cell? ⟨g, j * 3, none⟩ = some (.int .i64 s.x) ∧ w.cell? ⟨g, j * 3 + 1, none⟩ = some (.int .i64 s.y) ∧ w.cell? ⟨g, j * 3 + 2, none⟩ = some (.bool s.cut)

theorem Steps.below {w w' : World} {v : Value} {ss : List Stp} (h : Steps w v ss) (hb : Below w.heap.size w w') : Steps w' v ss := by
  obtain ⟨g, e, h3, h4⟩ := h
  refine ⟨g, e, Nat.lt_of_lt_of_le h3 hb.size, fun j s hj => ?_⟩
  obtain ⟨c1, c2, c3⟩ := h4 j s hj
  exact ⟨(hb.cell (p := ⟨g, j * 3, none⟩) h3).trans c1, (hb.cell (p := ⟨g, j * 3 + 1, none⟩) h3).trans c2, (hb.cell (p := ⟨g, j * 3 + 2, none⟩) h3).trans c3⟩

theorem make_steps (n : Nat) (hn : n ≤ 1000000) (w : World) :
    (Instr.makeSlice 54 (.int .i64 (n : Int)) (.int .i64 (n : Int))).run Tryd.prog w = .ok (.slice (some ⟨w.heap.size, 0, none⟩) n n) (w.alloc (.cells (madeCells #[.int .i64 0, .int .i64 0, .bool false] (n * 3)) 57)) := by
  obtain ⟨i, hi, hz, hsize, hby⟩ := info_parts Tryd.infoStep
  have hr := run_make (P := Tryd.prog) w 54 57 i _ Tryd.underlying54 hi hz .i64 .i64 n n (by omega) (Int.le_refl _) (by rw [hby]; omega) (by omega)
  simp only [Int.toNat_natCast, hsize] at hr
  exact hr

theorem madeSteps (w : World) (ss : List Stp) (n : Nat) (h : ss.length = n) : (w.alloc (.cells (madeCells #[.int .i64 0, .int .i64 0, .bool false] (n * 3)) 57)).rowIs w.heap.size 57 (n * 3) (backC ss n) := by
  have := World.rowIs_alloc w (madeCells #[.int .i64 0, .int .i64 0, .bool false] (n * 3)) 57 (backC ss n) (by
    intro i hi
    rw [size_madeCells] at hi
    unfold backC
    rw [if_pos hi]
    unfold zeroC
    have h3 : i % 3 < 3 := Nat.mod_lt _ (by omega)
    have hc : i % 3 = 0 ∨ i % 3 = 1 ∨ i % 3 = 2 := by omega
    rcases hc with h | h | h <;> simp [madeCells, hi, h])
  rw [size_madeCells] at this
  exact this

theorem rt_step (a b : Ls) (d c : Nat) (hc : c ≤ d + 1) (hg : gi (fr a b (d + 1)) c ≠ -1) :
    (cutF (fr a b d) c a.length > putF (fr a b d) c b.length ∧ ∃ c' x, c = c' + 1 ∧ c' ≤ d ∧ (fr a b d)[c']? = some x ∧ x ≠ -1 ∧ rt a b (d + 1) c = rt a b d c' ++ [⟨x, acr x c' d, true⟩]) ∨
    (¬ cutF (fr a b d) c a.length > putF (fr a b d) c b.length ∧ ∃ x, c ≤ d ∧ (fr a b d)[c]? = some x ∧ x ≠ -1 ∧ rt a b (d + 1) c = rt a b d c ++ [⟨x, acr x c d, false⟩]) := by
  have hl := fr_length a b d
  have hm : max (putF (fr a b d) c b.length) (cutF (fr a b d) c a.length) ≠ -1 := by
    intro e
    rw [fr, gi_next _ _ _ _ (by omega), nextX, if_pos e] at hg
    exact hg rfl
  have hgi : ∀ j, j ≤ d → ∃ x, (fr a b d)[j]? = some x ∧ gi (fr a b d) j = x := fun j hj => ⟨(fr a b d)[j]'(by omega), by simp, gi_of (by simp)⟩
  have hp1 : -1 ≤ putF (fr a b d) c b.length := by
    unfold putF
    split
    · omega
    · rename_i h
      simp only [not_or] at h
      rcases fr_ok a b d c (by omega) with e | ⟨X, Y, ex, _⟩
      · exact absurd e h.2.1
      · omega
  by_cases hgt : cutF (fr a b d) c a.length > putF (fr a b d) c b.length
  · left
    refine ⟨hgt, ?_⟩
    by_cases hz : c = 0 ∨ gi (fr a b d) (c - 1) = -1 ∨ gi (fr a b d) (c - 1) = a.length
    · rw [cutF, if_pos hz] at hgt; omega
    · simp only [not_or] at hz
      obtain ⟨x, e1, e2⟩ := hgi (c - 1) (by omega)
      refine ⟨c - 1, x, by omega, by omega, e1, by rw [← e2]; exact hz.2.1, ?_⟩
      rw [rt, if_pos hgt, e2]
  · right
    refine ⟨hgt, ?_⟩
    by_cases hz : c = (fr a b d).length ∨ gi (fr a b d) c = -1 ∨ acr (gi (fr a b d) c) c (fr a b d).length > b.length
    · rw [putF, if_pos hz] at hgt hm; omega
    · simp only [not_or] at hz
      obtain ⟨x, e1, e2⟩ := hgi c (by omega)
      refine ⟨x, by omega, e1, by rw [← e2]; exact hz.2.1, ?_⟩
      rw [rt, if_neg hgt, e2]

theorem back_set {w : World} {g T K d : Nat} {ss : List Stp} {s : Stp} (h : w.rowIs g T (K * 3) (backC ss (d + 1))) (hs : ss[d]? = some s) (vx vy : Int) (vc : Bool) (e1 : vx = s.x) (e2 : vy = s.y) (e3 : vc = s.cut) :
    (((w.setCell ⟨g, d * 3, none⟩ (.int .i64 vx)).setCell ⟨g, d * 3 + 1, none⟩ (.int .i64 vy)).setCell ⟨g, d * 3 + 2, none⟩ (.bool vc)).rowIs g T (K * 3) (backC ss d) := by
  subst e1 e2 e3
  obtain ⟨c1, c2, c3⟩ := stepC_at hs
  refine (((h.set (d * 3) (.int .i64 s.x)).set (d * 3 + 1) (.int .i64 s.y)).set (d * 3 + 2) (.bool s.cut)).congr fun i hi => ?_
  by_cases h2 : i = d * 3 + 2
  · rw [if_pos h2, h2]; unfold backC; rw [if_neg (by omega), c3]
  · rw [if_neg h2]
    by_cases h1 : i = d * 3 + 1
    · rw [if_pos h1, h1]; unfold backC; rw [if_neg (by omega), c2]
    · rw [if_neg h1]
      by_cases h0 : i = d * 3
      · rw [if_pos h0, h0]; unfold backC; rw [if_neg (by omega), c1]
      · rw [if_neg h0]
        unfold backC
        by_cases hd : i < d * 3
        · rw [if_pos hd, if_pos (by omega)]
        · rw [if_neg hd, if_neg (by omega)]

theorem back_next {a b : Ls} {ss suf : List Stp} {d c c' : Nat} {s : Stp} (h : ss = rt a b (d + 1) c ++ suf) (hr : rt a b (d + 1) c = rt a b d c' ++ [s]) : ss[d]? = some s ∧ ∃ suf', ss = rt a b d c' ++ suf' := by
  rw [hr] at h
  have hl := rt_length a b d c'
  refine ⟨?_, s :: suf, by rw [h]; simp⟩
  rw [h, List.append_assoc, List.getElem?_append_right (by omega), hl]
  simp

set_option maxHeartbeats 8000000 in
theorem retrace_any (a b : Ls) (K c0 : Nat) (va vb fv : Value) (w : World) (ha : Reads w va a) (hb : Reads w vb b) {lo : Nat} (hf : Fronts lo w fv a b K) (hK : K ≤ 100) (hc : c0 ≤ K) (hg0 : gi (fr a b K) c0 ≠ -1) (h3 : a.length ≤ 1000000) (h4 : b.length ≤ 1000000) :
    Calls Tryd.prog 20 #[va, vb, fv, .int .i64 c0] w fun r w' => ∃ v', r = .returned v' ∧ Steps w' v' (rt a b K c0) ∧ v'.ownBlock = some w.heap.size ∧ Below w.heap.size w w' := by
  have hmk := make_steps K (by omega)
  have hrl := rt_length a b K c0
  obtain ⟨ss, hss⟩ : ∃ ss, ss = rt a b K c0 := ⟨_, rfl⟩
  rw [← hss] at hrl ⊢
  have hms := madeSteps w ss K hrl
  have ha0 := ha
  have hb0 := hb
  have hf0 := hf
  obtain ⟨aa, ca, rfl, -⟩ := ha.form
  obtain ⟨ab, cb, rfl, -⟩ := hb.form
  obtain ⟨gF, capF, rfl, hf1, hf2, hf3, hf4⟩ := hf
  have HA := Lib.hid ha0
  have HB := Lib.hid hb0
  have HF := Lib.hid hf0
  have HF4 := Lib.hid hf4
  have HSS := Lib.hid hss
  have HRL := Lib.hid hrl
  have HMS := Lib.hid hms
  have HG0 := Lib.hid hg0
  obtain ⟨al, hal⟩ : ∃ n, n = a.length := ⟨_, rfl⟩
  obtain ⟨bl, hbl⟩ : ∃ n, n = b.length := ⟨_, rfl⟩
  rw [← hal] at HA h3 ⊢
  rw [← hbl] at HB h4 ⊢
  have HAL := Lib.hid hal
  have HBL := Lib.hid hbl
  clear ha hb ha0 hb0 hf0 hf4 hss hrl hms hg0 hal hbl
  go_enter Tryd.func20, Tryd.ntmps20
  go_wp2
  go_loopw [3, 10] (fun cv ev wr => ∃ e c : Nat, ev = .int .i64 ((e : Int) - 1) ∧ cv = .int .i64 c ∧ e ≤ K ∧ c ≤ e ∧ gi (fr a b e) c ≠ -1 ∧ (∃ suf, ss = rt a b e c ++ suf) ∧ wr.rowIs w.heap.size 57 (K * 3) (backC ss e) ∧ Below w.heap.size w wr) (fun _ ev _ => (intOf ev + 1).toNat)
  case atStart => exact ⟨K, c0, rfl, rfl, by omega, hc, HG0.out, ⟨[], by rw [List.append_nil]; exact HSS.out⟩, HMS.out, (Below.refl _ _).alloc (Nat.le_refl _) _⟩
  case round =>
    obtain ⟨e, c, rfl, rfl, he, hce, hg, ⟨suf, hsuf⟩, hrow, hbel⟩ := hrel
    have HROW := Lib.hid hrow
    have HBEL := Lib.hid hbel
    have HSUF := Lib.hid hsuf
    have HGE := Lib.hid hg
    have hsz := hbel.size
    clear hrow hsuf hg
    rcases e with _ | d
    · clear hbel
      obtain ⟨q, hq⟩ : ∃ q : Int, q = ((0 : Nat) : Int) - 1 := ⟨_, rfl⟩
      rw [← hq]
      have hq0 : q < 0 := by omega
      clear hq
      go_wp2
      go_ret
      refine ⟨_, rfl, ⟨w.heap.size, by rw [HRL.out]; rfl, HROW.out.lt, fun j s hj => ?_⟩, rfl, HBEL.out⟩
      have hjl := (List.getElem?_eq_some_iff.1 hj).1
      rw [HRL.out] at hjl
      obtain ⟨e1, e2, e3⟩ := stepC_at hj
      have hb : ∀ i, backC ss 0 i = stepC ss i := fun i => by unfold backC; rw [if_neg (by omega)]
      rw [HROW.out.cell (by omega), HROW.out.cell (by omega), HROW.out.cell (by omega), hb, hb, hb, e1, e2, e3]
      exact ⟨rfl, rfl, rfl⟩
    · rw [show (((d + 1 : Nat) : Int) - 1) = (d : Int) by omega]
      obtain ⟨vd, hvd, hid, -⟩ := HF4.out d (by omega)
      have hfl := fr_length a b d
      have hcd := hbel.cell (p := ⟨gF, d, none⟩) hf3
      rw [hvd] at hcd
      have hid' := hid.below hbel
      have hput := put_any (fr a b d) vd c bl ab cb wr hid' (by omega) (fr_small (by omega) (by rw [← HAL.out]; exact h3)) h4
      have hcut := cut_any (fr a b d) vd c al aa ca wr hid' (by omega) (fr_small (by omega) (by rw [← HAL.out]; exact h3)) h3
      have hrt := rt_step a b d c hce HGE.out
      rw [← HAL.out, ← HBL.out] at hrt
      obtain ⟨Pv, hP⟩ : ∃ P, P = putF (fr a b d) c bl := ⟨_, rfl⟩
      obtain ⟨Cv, hC⟩ : ∃ C, C = cutF (fr a b d) c al := ⟨_, rfl⟩
      rw [← hP] at hput hrt
      rw [← hC] at hcut hrt
      obtain ⟨bd, capd, rfl, hd1, hd2, hd3, hd4⟩ := hid'
      rw [hfl] at hput hcut hd1 hcd
      have HP := Lib.hid hput
      have HC := Lib.hid hcut
      have HD4 := Lib.hid hd4
      have hsm := fr_small (a := a) (b := b) (k := d) (by omega) (by rw [← HAL.out]; exact h3)
      have HSM := Lib.hid hsm
      clear hput hcut hP hC hid hvd hbel hd4 hsm hfl
      have h01 : (0 : Int) ≤ d := by omega
      have h02 : (d : Int) < (K : Int) + 1 := by omega
      have h03 : (d : Int) < (K : Int) := by omega
      have hs0 := HROW.out.cell (show d * 3 < K * 3 by omega)
      have hs1 := HROW.out.cell (show d * 3 + 1 < K * 3 by omega)
      have hs2 := HROW.out.cell (show d * 3 + 2 < K * 3 by omega)
      have hz0 := HROW.out.frozen (d * 3)
      have hz1 := HROW.out.frozen (d * 3 + 1)
      have hz2 := HROW.out.frozen (d * 3 + 2)
      rcases hrt with ⟨hgt, c', x, rfl, hcd', hx, hxn, hr⟩ | ⟨hgt, x, hcd', hx, hxn, hr⟩
      · have hcx := HD4.out c' x hx
        obtain ⟨x1, x2⟩ := HSM.out.2 c' x hx
        have HX := Lib.hid hx
        have HXN := Lib.hid hxn
        have HRT := Lib.hid hr
        clear hx hxn hr
        have h04 : (0 : Int) ≤ c' := by omega
        have h05 : (c' : Int) < (d : Int) + 1 := by omega
        go_wp2_with fail
        refine HC.out.mono ?_
        rintro e w1 ⟨rfl, rfl⟩
        go_wp2_with fail
        refine HP.out.mono ?_
        rintro e w1 ⟨rfl, rfl⟩
        go_wp2_with fail
        go_region_with (go_at_call 22; refine (across_any x c' d _ (by omega) (by omega) (by omega)).mono ?_; rintro e w' ⟨rfl, rfl⟩)
        all_goals go_wp2
        all_goals obtain ⟨hsd, hsuf'⟩ := back_next HSUF.out HRT.out
        all_goals refine ⟨⟨d, c', by first | rfl | go_num, rfl, by omega, hcd', by rw [gi_of HX.out]; exact HXN.out, hsuf', back_set HROW.out hsd _ _ _ rfl rfl rfl, ?_⟩, by simp [intOf]⟩
        all_goals exact (((HBEL.out.setCell (by simp) _).setCell (by simp) _).setCell (by simp) _).drew
      · have hcx := HD4.out c x hx
        obtain ⟨x1, x2⟩ := HSM.out.2 c x hx
        have HX := Lib.hid hx
        have HXN := Lib.hid hxn
        have HRT := Lib.hid hr
        clear hx hxn hr
        have h04 : (0 : Int) ≤ c := by omega
        have h05 : (c : Int) < (d : Int) + 1 := by omega
        go_wp2_with fail
        refine HC.out.mono ?_
        rintro e w1 ⟨rfl, rfl⟩
        go_wp2_with fail
        refine HP.out.mono ?_
        rintro e w1 ⟨rfl, rfl⟩
        go_wp2_with fail
        go_region_with (go_at_call 22; refine (across_any x c d _ (by omega) (by omega) (by omega)).mono ?_; rintro e w' ⟨rfl, rfl⟩)
        all_goals go_wp2
        all_goals obtain ⟨hsd, hsuf'⟩ := back_next HSUF.out HRT.out
        all_goals refine ⟨⟨d, c, by first | rfl | go_num, rfl, by omega, hcd', by rw [gi_of HX.out]; exact HXN.out, hsuf', back_set HROW.out hsd _ _ _ rfl rfl (by first | rfl | exact decide_eq_false (by omega)), ?_⟩, by simp [intOf]⟩
        all_goals exact (((HBEL.out.setCell (by simp) _).setCell (by simp) _).setCell (by simp) _).drew
end Go.Proofs.YteppgjdkoakpeaaDoor
