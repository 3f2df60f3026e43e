/- The contracts of whole and next. -/
import Derived.Test.YteppgjdkoakpeaaDoorFronts2
import Derived.Deep.OwnRows
set_option linter.unusedVariables false
namespace Go.Proofs.YteppgjdkoakpeaaDoor
open Go.ChangeShapes Go.WideShapes Go.ChangeAt Go.RowKit

theorem Tryd.infoInt : (Tryd.prog.info? 3).map (fun i => (i.zero, i.size, i.bytes)) = some (some (.int .i64 0), 1, 8) := by kernel_rfl

theorem fr_small {a b : Ls} {k : Nat} (hk : k ≤ 1000) (h : a.length ≤ 1000000) : Small (fr a b k) := by
  have hl := fr_length a b k
  refine ⟨by omega, fun j x hx => ?_⟩
  have hj := (List.getElem?_eq_some_iff.1 hx).1
  have hg := gi_of hx
  rcases fr_ok a b k j (by omega) with e | ⟨X, Y, ex, _, hs, _, _⟩
  · omega
  · have := hs.inv
    omega

theorem next_place (a b : Ls) (k c : Nat) (hc : c ≤ k + 1) : max (putF (fr a b k) c b.length) (cutF (fr a b k) c a.length) = -1 ∨
    ∃ X Y : Nat, max (putF (fr a b k) c b.length) (cutF (fr a b k) c a.length) = X ∧ acr (max (putF (fr a b k) c b.length) (cutF (fr a b k) c a.length)) c ((k + 1 : Nat) : Int) = Y ∧ X ≤ a.length ∧ Y ≤ b.length := by
  have hl := fr_length a b k
  by_cases hm : max (putF (fr a b k) c b.length) (cutF (fr a b k) c a.length) = -1
  · exact .inl hm
  · right
    by_cases hg : cutF (fr a b k) c a.length > putF (fr a b k) c b.length
    · have em : max (putF (fr a b k) c b.length) (cutF (fr a b k) c a.length) = cutF (fr a b k) c a.length := by omega
      rw [em] at hm ⊢
      by_cases hz : c = 0 ∨ gi (fr a b k) (c - 1) = -1 ∨ gi (fr a b k) (c - 1) = a.length
      · rw [cutF, if_pos hz] at hm; exact absurd rfl hm
      · have ec : cutF (fr a b k) c a.length = gi (fr a b k) (c - 1) + 1 := by rw [cutF, if_neg hz]
        simp only [not_or] at hz
        obtain ⟨z1, z2, z3⟩ := hz
        rcases fr_ok a b k (c - 1) (by omega) with e | ⟨x, y, ex, hxy, hs, hp, -⟩
        · exact absurd e z2
        · have hx := hs.inv
          refine ⟨x + 1, y, by omega, by rw [ec, ex]; unfold acr; omega, by omega, by omega⟩
    · have em : max (putF (fr a b k) c b.length) (cutF (fr a b k) c a.length) = putF (fr a b k) c b.length := by omega
      rw [em] at hm ⊢
      by_cases hz : c = (fr a b k).length ∨ gi (fr a b k) c = -1 ∨ acr (gi (fr a b k) c) c (fr a b k).length > b.length
      · rw [putF, if_pos hz] at hm; exact absurd rfl hm
      · have ec : putF (fr a b k) c b.length = gi (fr a b k) c := by rw [putF, if_neg hz]
        simp only [not_or] at hz
        obtain ⟨z1, z2, z3⟩ := hz
        rcases fr_ok a b k c (by omega) with e | ⟨x, y, ex, hxy, hs, hp, -⟩
        · exact absurd e z2
        · rw [ex, hl] at z3
          have hx := hs.inv
          have hy : y < b.length := by unfold acr at z3; omega
          exact ⟨x, y + 1, by omega, by rw [ec, ex]; unfold acr; omega, by omega, by omega⟩

set_option maxHeartbeats 400000 in
theorem whole_any (f : List Int) (a b : Ls) (v : Value) (c0 al bl : Nat) (aa ab : Option Addr) (ca cb : Nat) (w : World) (hf : Ints w v f) (hs : Small f) (hal : al = a.length) (hbl : bl = b.length) (h3 : al ≤ 1000000) (h4 : bl ≤ 1000000)
    (hb : bestF f a b = (c0 : Int)) (hc : c0 < f.length) :
    Calls Tryd.prog 30 #[v, .slice aa al ca, .slice ab bl cb] w fun r w' => r = .returned (.bool (wholeF f a b)) ∧ w' = w := by
  have hbest := best_any f a b v al bl aa ab ca cb w hf hs hal hbl h3 h4
  rw [hb] at hbest
  obtain ⟨b0, cap, rfl, h1, h2, h5, h6⟩ := hf
  have hl := hs.1
  obtain ⟨x, ex⟩ : ∃ x, f[c0]? = some x := ⟨f[c0]'hc, by simp⟩
  have hx := h6 c0 x ex
  obtain ⟨x1, x2⟩ := hs.2 c0 x ex
  have er : wholeF f a b = (decide (x = al) && decide (acr x c0 (f.length - 1) = bl)) := by
    unfold wholeF
    rw [hb, Int.toNat_natCast, gi_of ex, hal, hbl, Bool.decide_and]
  rw [er]
  obtain ⟨n, hn⟩ : ∃ n, n = f.length := ⟨_, rfl⟩
  rw [← hn] at hc h1 hl hbest ⊢
  have hac := across_any x c0 (n - 1) w (by omega) (by omega) (by omega)
  obtain ⟨y, hy⟩ : ∃ y, y = acr x c0 (n - 1) := ⟨_, rfl⟩
  rw [← hy] at hac ⊢
  have hyb : -4000000 ≤ y ∧ y ≤ 4000000 := by rw [hy]; unfold acr; omega
  obtain ⟨y1, y2⟩ := hyb
  have HA := Lib.hid hac
  have HB := Lib.hid hbest
  have HN := Lib.hid hn
  have HY := Lib.hid hy
  have HX := Lib.hid ex
  have HAL := Lib.hid hal
  have HBL := Lib.hid hbl
  have HBB := Lib.hid hb
  clear hn hy ex h6 hs hac er hal hbl hb hbest
  have hcn : (c0 : Int) < n := by omega
  have h0 : (0 : Int) ≤ c0 := by omega
  by_cases e1 : x = al
  · have c1 : (x == (al : Int)) = true := by rw [beq_iff_eq]; exact e1
    by_cases e2 : y = bl
    · have c2 : (y == (bl : Int)) = true := by rw [beq_iff_eq]; exact e2
      have E1 := Lib.hid e1
      have E2 := Lib.hid e2
      clear e1 e2
      go_enter Tryd.func30, Tryd.ntmps30
      go_wp2_with fail
      refine HB.out.mono ?_
      rintro e w1 ⟨rfl, rfl⟩
      go_wp2_with fail
      refine HA.out.mono ?_
      rintro e w1 ⟨rfl, rfl⟩
      go_wp2
      go_ret
      exact ⟨ret_bool (by rw [decide_eq_true E1.out, decide_eq_true E2.out]; rfl), rfl⟩
    · have c2 : (y == (bl : Int)) = false := by rw [beq_eq_false_iff_ne]; exact e2
      have E1 := Lib.hid e1
      have E2 := Lib.hid e2
      clear e1 e2
      go_enter Tryd.func30, Tryd.ntmps30
      go_wp2_with fail
      refine HB.out.mono ?_
      rintro e w1 ⟨rfl, rfl⟩
      go_wp2_with fail
      refine HA.out.mono ?_
      rintro e w1 ⟨rfl, rfl⟩
      go_wp2
      go_ret
      exact ⟨ret_bool (by rw [decide_eq_true E1.out, decide_eq_false E2.out]; rfl), rfl⟩
  · have c1 : (x == (al : Int)) = false := by rw [beq_eq_false_iff_ne]; exact e1
    have E1 := Lib.hid e1
    clear e1
    go_enter Tryd.func30, Tryd.ntmps30
    go_wp2_with fail
    refine HB.out.mono ?_
    rintro e w1 ⟨rfl, rfl⟩
    go_wp2
    go_ret
    exact ⟨ret_bool (by rw [decide_eq_false E1.out]; rfl), rfl⟩

/-- The new front, as far as it is filled. -/
def part (f : List Int) (a b : Ls) (m j : Nat) : Value := .int .i64 (if j < m then nextX f a b j else 0)

theorem part_set {w : World} {B T N m : Nat} {f : List Int} {a b : Ls} (h : w.rowIs B T N (part f a b m)) : (w.setCell ⟨B, m, none⟩ (.int .i64 (nextX f a b m))).rowIs B T N (part f a b (m + 1)) := by
  refine (h.set m _).congr fun j hj => ?_
  unfold part
  by_cases e : j = m
  · subst e
    rw [if_pos rfl, if_pos (by omega)]
  · rw [if_neg e]
    by_cases h1 : j < m
    · rw [if_pos h1, if_pos (by omega)]
    · rw [if_neg h1, if_neg (by omega)]

theorem part_done {w : World} {B T : Nat} {a b : Ls} {k : Nat} (h : w.rowIs B T (k + 1 + 1) (part (fr a b k) a b (k + 1 + 1))) (hk : k ≤ 1000) : Ints w (.slice (some ⟨B, 0, none⟩) (k + 1 + 1) (k + 1 + 1)) (fr a b (k + 1)) := by
  have hl := fr_length a b (k + 1)
  have hl0 := fr_length a b k
  refine ⟨B, k + 1 + 1, by rw [hl], by omega, by omega, h.lt, fun j x hx => ?_⟩
  have hj := (List.getElem?_eq_some_iff.1 hx).1
  have hg := gi_of hx
  rw [h.cell (by omega)]
  unfold part
  rw [if_pos (by omega)]
  rw [fr, gi_next _ _ _ _ (by omega)] at hg
  rw [hg]

theorem rowIs_drewN {w : World} {B T N n : Nat} {f : Nat → Value} (h : w.rowIs B T N f) : (w.drewN n).rowIs B T N f := h
theorem Below.drewN' {B n : Nat} {a w : World} (h : Below B a w) : Below B a (w.drewN n) := Below.drewN h

set_option maxHeartbeats 2000000 in
theorem next_any (a b : Ls) (k : Nat) (v va vb : Value) (w : World) (hf : Ints w v (fr a b k)) (ha : Reads w va a) (hb : Reads w vb b) (hk : k ≤ 1000) (h3 : a.length ≤ 1000000) (h4 : b.length ≤ 1000000) :
    Calls Tryd.prog 31 #[v, va, vb] w fun r w' => ∃ v', r = .returned v' ∧ Ints w' v' (fr a b (k + 1)) ∧ (∀ g, v'.ownBlock = some g → w.heap.size ≤ g) ∧ Below w.heap.size w w' := by
  have hs : Small (fr a b k) := fr_small hk h3
  have hfl := fr_length a b k
  obtain ⟨N, hN⟩ : ∃ N, N = k + 1 := ⟨_, rfl⟩
  rw [← hN] at hfl
  have hN1 : N ≤ 1001 := by omega
  have hmk := run_make_row' (P := Tryd.prog) 52 3 (.int .i64 0) 8 Tryd.underlying52 Tryd.infoInt rfl .i64 .i64 (N + 1) (by omega) (by omega)
  rw [show ((N + 1 : Nat) : Int) = (N : Int) + 1 by omega] at hmk
  have hput := fun (c : Nat) (hc : c ≤ N) (wr : World) (hbr : Below w.heap.size w wr) => put_any (fr a b k) v c b.length
  have ha0 := ha
  have hb0 := hb
  have hf0 := hf
  obtain ⟨aa, ca, rfl, -⟩ := ha.form
  obtain ⟨ab, cb, rfl, -⟩ := hb.form
  obtain ⟨b0, cap, rfl, h1, h2, h5, -⟩ := hf
  rw [hfl] at h1 hf0 ⊢
  obtain ⟨al, hal⟩ : ∃ n, n = a.length := ⟨_, rfl⟩
  obtain ⟨bl, hbl⟩ : ∃ n, n = b.length := ⟨_, rfl⟩
  rw [← hal] at ha0 h3 ⊢
  rw [← hbl] at hb0 h4 ⊢
  have HF := Lib.hid hf0
  have HA := Lib.hid ha0
  have HB := Lib.hid hb0
  have HS := Lib.hid hs
  have HAL := Lib.hid hal
  have HBL := Lib.hid hbl
  have HFL := Lib.hid hfl
  have HNK := Lib.hid hN
  clear hf0 ha0 hb0 hs hal hbl hfl hput ha hb hN
  go_enter Tryd.func31, Tryd.ntmps31
  go_wp2
  go_loopw [18] (fun i wr => ∃ m : Nat, m ≤ N + 1 ∧ i = .int .i64 m ∧ wr.rowIs w.heap.size 3 (N + 1) (part (fr a b k) a b m) ∧ Below w.heap.size w wr) (fun i _ => N + 1 - (intOf i).toNat)
  case atStart => exact ⟨0, by omega, rfl, (World.rowIs_made w _ (N + 1) 3).congr (fun j _ => by simp [part]), (Below.refl _ _).alloc (Nat.le_refl _) _⟩
  case round =>
    obtain ⟨m, hm, rfl, hrow, hbel⟩ := hrel
    have HR := Lib.hid hrow
    have hsz := hbel.size
    by_cases hlt : m < N + 1
    · have h01 : (0 : Int) ≤ m := by omega
      have h02 : (m : Int) < N + 1 := by omega
      have hfw : Ints wr (.slice (some ⟨b0, 0, none⟩) N cap) (fr a b k) := HF.out.below hbel
      have haw : Reads wr (.slice aa al ca) a := HA.out.below hbel
      have hbw : Reads wr (.slice ab bl cb) b := HB.out.below hbel
      have hput := put_any (fr a b k) _ m bl ab cb wr hfw (by rw [HFL.out]; omega) HS.out h4
      have hcut := cut_any (fr a b k) _ m al aa ca wr hfw (by rw [HFL.out]; omega) HS.out h3
      have hpl := next_place a b k m (by have := HNK.out; omega)
      have hcell := HR.out.cell hlt
      have hfroz := HR.out.frozen m
      have hnx : nextX (fr a b k) a b m = if max (putF (fr a b k) m bl) (cutF (fr a b k) m al) = -1 then -1 else keptI a b (max (putF (fr a b k) m bl) (cutF (fr a b k) m al)) (acr (max (putF (fr a b k) m bl) (cutF (fr a b k) m al)) m N) := by
        rw [nextX, HFL.out, HAL.out, HBL.out]
      rw [← HAL.out, ← HBL.out, ← HNK.out] at hpl
      obtain ⟨Pv, hP⟩ : ∃ P, P = putF (fr a b k) m bl := ⟨_, rfl⟩
      obtain ⟨Cv, hC⟩ : ∃ C, C = cutF (fr a b k) m al := ⟨_, rfl⟩
      rw [← hP] at hput hnx hpl
      rw [← hC] at hcut hnx hpl
      have HP := Lib.hid hput
      have HC := Lib.hid hcut
      have HB2 := Lib.hid hbel
      have HAW := Lib.hid haw
      have HBW := Lib.hid hbw
      clear hput hcut hP hC hbel haw hbw hfw hrow
      obtain ⟨M, hM, hcase⟩ : ∃ M, M = max Pv Cv ∧ (Pv < Cv ∧ Cv = M ∨ Cv ≤ Pv ∧ Pv = M) := ⟨_, rfl, by omega⟩
      rw [← hM] at hnx hpl
      have HM := Lib.hid hM
      clear hM
      rcases hpl with e1 | ⟨X, Y, eX, eY, hX, hY⟩
      · rw [if_pos e1] at hnx
        have HNX := Lib.hid hnx
        clear hnx
        rcases hcase with ⟨hle, rfl⟩ | ⟨hle, rfl⟩
        all_goals subst e1
        all_goals go_wp2_with fail
        all_goals refine HP.out.mono ?_
        all_goals rintro e w1 ⟨rfl, rfl⟩
        all_goals go_wp2_with fail
        all_goals refine HC.out.mono ?_
        all_goals rintro e w1 ⟨rfl, rfl⟩
        all_goals go_wp2
        all_goals refine ⟨⟨m + 1, by omega, by go_num, ?_, HB2.out.setCell (by simp) _⟩, by simp [intOf]; omega⟩
        all_goals have := part_set HR.out
        all_goals rw [HNX.out] at this
        all_goals exact this
      · have hk2 := kept_any a b _ _ X Y wr HAW.out HBW.out (by rw [← HAL.out]; exact hX) (by rw [← HBL.out]; exact hY) (by rw [← HAL.out]; exact h3) (by rw [← HBL.out]; exact h4)
        rw [if_neg (by omega), eY, eX] at hnx
        have hac := across_any M m N wr (by omega) (by omega) (by omega)
        rw [eY] at hac
        obtain ⟨K, hK⟩ : ∃ K, K = keptI a b X Y := ⟨_, rfl⟩
        rw [← hK] at hk2 hnx
        have HNX := Lib.hid hnx
        have HKC := Lib.hid hk2
        have HAC := Lib.hid hac
        have EY := Lib.hid eY
        have HKK := Lib.hid hK
        clear hnx hk2 hac eY hK
        have c1 : ((X : Int) != (-1 : Int)) = true := by rw [bne_iff_ne]; omega
        subst eX
        rcases hcase with ⟨hle, rfl⟩ | ⟨hle, rfl⟩
        all_goals go_wp2_with fail
        all_goals refine HP.out.mono ?_
        all_goals rintro e w1 ⟨rfl, rfl⟩
        all_goals go_wp2_with fail
        all_goals refine HC.out.mono ?_
        all_goals rintro e w1 ⟨rfl, rfl⟩
        all_goals go_wp2_with fail
        all_goals refine HAC.out.mono ?_
        all_goals rintro e w1 ⟨rfl, rfl⟩
        all_goals go_wp2_with fail
        all_goals refine HKC.out.mono ?_
        all_goals rintro e w1 ⟨rfl, nd, rfl⟩
        all_goals go_wp2
        all_goals refine ⟨⟨m + 1, by omega, by go_num, ?_, (Below.drewN HB2.out).setCell (by simp) _⟩, by simp [intOf]; omega⟩
        all_goals have := part_set (rowIs_drewN (n := nd) HR.out)
        all_goals rw [HNX.out] at this
        all_goals exact this
    · go_wp2
      go_ret
      have e : m = N + 1 := by omega
      refine ⟨_, rfl, ?_, fun g hg => by have hg' : some w.heap.size = some g := hg; simp only [Option.some.injEq] at hg'; omega, hbel⟩
      have hh := HR.out
      have hNk := HNK.out
      subst e
      subst hNk
      exact part_done hh hk
end Go.Proofs.YteppgjdkoakpeaaDoor
