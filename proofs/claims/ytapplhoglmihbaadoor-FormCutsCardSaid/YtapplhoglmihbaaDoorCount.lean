/- The contracts of the statements' own count and Small: a form of few parts and few bytes. -/
import Derived.Test.YtapplhoglmihbaaDoorRefRight
import Derived.RegionTactic
import Derived.BigRegion
set_option linter.unusedVariables false
namespace Go.Proofs.YtapplhoglmihbaaDoor
open Go.ChangeShapes Go.WideShapes Go.ChangeAt Go.RowKit

/-- What count leaves. -/
def CountP (T : Tm) (w : World) (Bn Bb nv bv : Nat) (e : Ending) (w' : World) : Prop :=
  ∃ (r : Bool) (n' b' : Nat), e = .returned (.bool r) ∧ Off (fun i => i = Bn ∨ i = Bb) w w' ∧ w'.cell? ⟨Bn, 0, none⟩ = some (.int .i64 (n' : Nat)) ∧ w'.cell? ⟨Bb, 0, none⟩ = some (.int .i64 (b' : Nat)) ∧
    w'.frozen? ⟨Bn, 0, none⟩ = false ∧ w'.frozen? ⟨Bb, 0, none⟩ = false ∧ (r = true → n' = nv + T.parts ∧ b' = bv + T.texts ∧ n' ≤ 3000 ∧ b' ≤ 80000)

/-- Behind the two additions. -/
theorem count_start (w : World) (Bn Bb : Nat) (hne : Bn ≠ Bb) (x y u v : Value) (o : Obj) (h1 : w.cell? ⟨Bn, 0, none⟩ = some u) (h2 : w.cell? ⟨Bb, 0, none⟩ = some v) (f1 : w.frozen? ⟨Bn, 0, none⟩ = false) (f2 : w.frozen? ⟨Bb, 0, none⟩ = false) :
    Off (fun i => i = Bn ∨ i = Bb) w (((w.setCell ⟨Bn, 0, none⟩ x).setCell ⟨Bb, 0, none⟩ y).alloc o).drew ∧ (((w.setCell ⟨Bn, 0, none⟩ x).setCell ⟨Bb, 0, none⟩ y).alloc o).drew.cell? ⟨Bn, 0, none⟩ = some x ∧ (((w.setCell ⟨Bn, 0, none⟩ x).setCell ⟨Bb, 0, none⟩ y).alloc o).drew.cell? ⟨Bb, 0, none⟩ = some y ∧
      (((w.setCell ⟨Bn, 0, none⟩ x).setCell ⟨Bb, 0, none⟩ y).alloc o).drew.frozen? ⟨Bn, 0, none⟩ = false ∧ (((w.setCell ⟨Bn, 0, none⟩ x).setCell ⟨Bb, 0, none⟩ y).alloc o).drew.frozen? ⟨Bb, 0, none⟩ = false := by
  have hn := cell_lt h1
  have hb := cell_lt h2
  have hs : ((w.setCell ⟨Bn, 0, none⟩ x).setCell ⟨Bb, 0, none⟩ y).heap.size = w.heap.size := by simp [World.setCell]
  have c1 : ((w.setCell ⟨Bn, 0, none⟩ x).setCell ⟨Bb, 0, none⟩ y).cell? ⟨Bn, 0, none⟩ = some x := by
    rw [World.cell?_setCell_other _ _ _ _ (fun e => hne (by injection e with e; exact e.symm)), World.cell?_setCell_same _ _ _ h1]
  have c2 : ((w.setCell ⟨Bn, 0, none⟩ x).setCell ⟨Bb, 0, none⟩ y).cell? ⟨Bb, 0, none⟩ = some y := by
    exact World.cell?_setCell_same _ _ _ ((World.cell?_setCell_other _ _ _ _ (fun e => hne (by injection e))).trans h2)
  have al : ∀ B, B < w.heap.size → (((w.setCell ⟨Bn, 0, none⟩ x).setCell ⟨Bb, 0, none⟩ y).alloc o).drew.heap[B]? = ((w.setCell ⟨Bn, 0, none⟩ x).setCell ⟨Bb, 0, none⟩ y).heap[B]? := fun B hB => Below.heap_alloc _ _ _ (by rw [hs]; exact hB)
  refine ⟨((((Off.refl _ _).setCell (.inr (.inl rfl)) _).setCell (.inr (.inr rfl)) _).alloc _).drew, ?_, ?_, ?_, ?_⟩
  · exact (World.cell?_of_block (a := ⟨Bn, 0, none⟩) (al Bn hn)).trans c1
  · exact (World.cell?_of_block (a := ⟨Bb, 0, none⟩) (al Bb hb)).trans c2
  · refine (World.frozen?_of_block (a := ⟨Bn, 0, none⟩) (al Bn hn)).trans ?_
    rw [World.frozen?_setCell, World.frozen?_setCell]; exact f1
  · refine (World.frozen?_of_block (a := ⟨Bb, 0, none⟩) (al Bb hb)).trans ?_
    rw [World.frozen?_setCell, World.frozen?_setCell]; exact f2

set_option maxHeartbeats 4000000 in
set_option maxRecDepth 100000 in
theorem count_any (T : Tm) : ∀ l t ys, T = .mk l t ys → ∀ (Z : Nat → Prop) (w : World) (a : Option Addr) (c Bn Bb nv bv dp : Nat), SlL Z w (.slice a ys.length c) ys → t.size ≤ 140737488355328 → (∀ i, Z i → ¬ (i = Bn ∨ i = Bb)) → Bn ≠ Bb →
    w.cell? ⟨Bn, 0, none⟩ = some (.int .i64 (nv : Nat)) → w.cell? ⟨Bb, 0, none⟩ = some (.int .i64 (bv : Nat)) → w.frozen? ⟨Bn, 0, none⟩ = false → w.frozen? ⟨Bb, 0, none⟩ = false → nv ≤ 3000 → bv ≤ 80000 → dp ≤ 1001 →
    Calls Tryd.prog 23 #[fv l t (.slice a ys.length c), .pointer (some ⟨Bn, 0, none⟩), .pointer (some ⟨Bb, 0, none⟩), .int .i64 (dp : Nat)] w (CountP T w Bn Bb nv bv) := by
  induction T using Tm.ind with
  | h l t xs ih =>
    rintro _ _ ys ⟨⟩ Z w a c Bn Bb nv bv dp hsl hts hz hne hcn hcb hfn hfb hnv hbv hdp
    obtain ⟨n, hn⟩ : ∃ n, n = xs.length := ⟨_, rfl⟩
    have hnm : n ≤ 9223372036854775807 := by
      obtain ⟨_, _, _, h1, h2⟩ := hsl.form
      unfold maxLen at h2
      omega
    rw [← hn] at hsl ⊢
    have hst := count_start w Bn Bb hne (.int .i64 ((nv : Int) + 1)) (.int .i64 ((bv : Int) + (t.size : Int))) _ _ (.cells #[.bool l, .string t, .slice a n c] 24) hcn hcb hfn hfb
    have hln := cell_lt hcn
    have hlb := cell_lt hcb
    have HN := Lib.hid hn
    have HS := Lib.hid hsl
    have IH := Lib.hid ih
    have HZ := Lib.hid hz
    have HST := Lib.hid hst
    have hne2 : ¬ Bb = Bn := fun e => hne e.symm
    have hn1 : ¬ w.heap.size = Bn := by omega
    have hb1 : ¬ w.heap.size = Bb := by omega
    have hno : ∀ e w' (n' b' : Nat), e = Ending.returned (.bool false) → Off (fun i => i = Bn ∨ i = Bb) w w' ∧ w'.cell? ⟨Bn, 0, none⟩ = some (.int .i64 (n' : Nat)) ∧ w'.cell? ⟨Bb, 0, none⟩ = some (.int .i64 (b' : Nat)) ∧ w'.frozen? ⟨Bn, 0, none⟩ = false ∧ w'.frozen? ⟨Bb, 0, none⟩ = false → CountP (.mk l t xs) w Bn Bb nv bv e w' :=
      fun e w' n' b' he ⟨h1, h2, h3, h4, h5⟩ => ⟨false, n', b', he, h1, h2, h3, h4, h5, fun h => by cases h⟩
    have HNO := Lib.hid hno
    clear hn hsl ih hz hst hno
    by_cases k1 : nv + 1 ≤ 3000
    · by_cases k2 : bv + t.size ≤ 80000
      · by_cases k3 : dp ≤ 1000
        · go_enter Tryd.func23, Tryd.ntmps23
          go_wp2_with fail
          go_region
          all_goals go_wp2_with fail
          go_loopw [41] (fun i wr => ∃ k nk bk : Nat, k ≤ n ∧ i = .int .i64 k ∧ nk = nv + 1 + Tm.partss (xs.take k) ∧ bk = bv + t.size + Tm.textss (xs.take k) ∧ nk ≤ 3000 ∧ bk ≤ 80000 ∧ Off (fun i => i = Bn ∨ i = Bb) w wr ∧
            wr.cell? ⟨Bn, 0, none⟩ = some (.int .i64 (nk : Nat)) ∧ wr.cell? ⟨Bb, 0, none⟩ = some (.int .i64 (bk : Nat)) ∧ wr.frozen? ⟨Bn, 0, none⟩ = false ∧ wr.frozen? ⟨Bb, 0, none⟩ = false) (fun i _ => n - (intOf i).toNat)
          case atStart => exact ⟨0, nv + 1, bv + t.size, Nat.zero_le _, rfl, rfl, rfl, k1, k2, HST.out⟩
          case round =>
            obtain ⟨k, nk, bk, hk, rfl, hnk, hbk, hnl, hbl, hoff, e1, e2, e3, e4⟩ := hrel
            have HNK := Lib.hid hnk
            have HBK := Lib.hid hbk
            have HOF := Lib.hid hoff
            have ha : ∀ wz, Below wr.heap.size wr wz → wz.cell? ⟨Bn, 0, none⟩ = some (.int .i64 (nk : Nat)) ∧ wz.cell? ⟨Bb, 0, none⟩ = some (.int .i64 (bk : Nat)) ∧ wz.frozen? ⟨Bn, 0, none⟩ = false ∧ wz.frozen? ⟨Bb, 0, none⟩ = false :=
              fun wz hz => ⟨(hz.cell (p := ⟨Bn, 0, none⟩) (cell_lt e1)).trans e1, (hz.cell (p := ⟨Bb, 0, none⟩) (cell_lt e2)).trans e2, (hz.frozen (p := ⟨Bn, 0, none⟩) (cell_lt e1)).trans e3, (hz.frozen (p := ⟨Bb, 0, none⟩) (cell_lt e2)).trans e4⟩
            have HA := Lib.hid ha
            have HE := Lib.hid (And.intro e1 (And.intro e2 (And.intro e3 e4)))
            clear hnk hbk hoff ha e1 e2 e3 e4
            by_cases hlt : k < n
            · obtain ⟨x, hx⟩ : ∃ x, xs[k]? = some x := ⟨xs[k]'(by rw [← HN.out]; exact hlt), by simp⟩
              obtain ⟨l1, t1, ys1⟩ := x
              obtain ⟨b, o, c', hv, h1, h2, h3, h4, h5⟩ := HS.out.pos (by rintro rfl; simp at hx)
              injection hv with ea en ec
              subst ea
              obtain ⟨a1, c1, q1, q2, q3, q4, q5⟩ := h5 k l1 t1 ys1 hx
              have hzb := HZ.out b h3
              have d1 : wr.cell? ⟨b, o + k * 3, none⟩ = some (.bool l1) := (HOF.out.cell (p := ⟨b, o + k * 3, none⟩) h4 hzb).trans q1
              have d2 : wr.cell? ⟨b, o + k * 3 + 1, none⟩ = some (.string t1) := (HOF.out.cell (p := ⟨b, o + k * 3 + 1, none⟩) h4 hzb).trans q2
              have d3 : wr.cell? ⟨b, o + k * 3 + 2, none⟩ = some (.slice a1 ys1.length c1) := (HOF.out.cell (p := ⟨b, o + k * 3 + 2, none⟩) h4 hzb).trans q3
              have hc : ∀ wz, Below wr.heap.size wr wz → Calls Tryd.prog 23 #[fv l1 t1 (.slice a1 ys1.length c1), .pointer (some ⟨Bn, 0, none⟩), .pointer (some ⟨Bb, 0, none⟩), .int .i64 (dp + 1 : Nat)] wz (CountP (.mk l1 t1 ys1) wz Bn Bb nk bk) := fun wz hz => by
                obtain ⟨f1, f2, f3, f4⟩ := HA.out wz hz
                exact IH.out _ (List.mem_of_getElem? hx) l1 t1 ys1 rfl Z wz a1 c1 Bn Bb nk bk (dp + 1) ((q5.off HOF.out HZ.out).keep hz) q4 HZ.out hne f1 f2 f3 f4 hnl hbl (by omega)
              obtain ⟨m1, hm1⟩ : ∃ m, m = ys1.length := ⟨_, rfl⟩
              rw [← hm1] at hc d3
              have HC := Lib.hid hc
              have HX := Lib.hid hx
              have h01 : (0 : Int) ≤ k := by omega
              have h02 : (k : Int) < n := by omega
              clear hc hx hm1 q1 q2 q3 q4 q5 h1 h2 h3 h4 h5 en ec hzb
              go_wp2_with fail
              refine (HC.out _ ((Below.refl _ _).alloc (Nat.le_refl _) _)).mono ?_
              rintro e w2 ⟨r, n2, b2, rfl, hof2, g1, g2, g3, g4, him⟩
              have hof3 : Off (fun i => i = Bn ∨ i = Bb) w w2 := (HOF.out.alloc _).trans hof2
              have HI := Lib.hid him
              have HO3 := Lib.hid hof3
              have HG := Lib.hid (And.intro g1 (And.intro g2 (And.intro g3 g4)))
              clear hof2 hof3 him g1 g2 g3 g4
              cases r with
              | true =>
                go_wp2_with fail
                obtain ⟨i1, i2, i3, i4⟩ := HI.out trivial
                refine ⟨⟨k + 1, n2, b2, hlt, by go_num, ?_, ?_, i3, i4, HO3.out, HG.out⟩, by simp [intOf]; omega⟩
                · rw [take_snoc HX.out, Tm.partss_app, i1, HNK.out]
                  simp only [Tm.partss]; omega
                · rw [take_snoc HX.out, Tm.textss_app, i2, HBK.out]
                  simp only [Tm.textss]; omega
              | false =>
                go_wp2_with fail
                go_ret
                exact HNO.out _ _ _ _ rfl ⟨HO3.out, HG.out⟩
            · have hke : k = n := by omega
              go_wp2_with fail
              go_ret
              refine ⟨true, nk, bk, rfl, HOF.out, HE.out.1, HE.out.2.1, HE.out.2.2.1, HE.out.2.2.2, fun _ => ⟨?_, ?_, hnl, hbl⟩⟩
              · have := HNK.out
                rw [List.take_of_length_le (by rw [← HN.out]; omega)] at this
                rw [this, Tm.parts]; omega
              · have := HBK.out
                rw [List.take_of_length_le (by rw [← HN.out]; omega)] at this
                rw [this, Tm.texts]; omega
        · go_enter Tryd.func23, Tryd.ntmps23
          go_wp2_with fail
          go_region
          all_goals go_wp2_with fail
          all_goals go_ret
          all_goals exact HNO.out _ _ (nv + 1) (bv + t.size) rfl HST.out
      · go_enter Tryd.func23, Tryd.ntmps23
        go_wp2_with fail
        go_region
        all_goals go_wp2_with fail
        all_goals go_ret
        all_goals exact HNO.out _ _ (nv + 1) (bv + t.size) rfl HST.out
    · go_enter Tryd.func23, Tryd.ntmps23
      go_wp2_with fail
      go_region
      all_goals go_wp2_with fail
      all_goals go_ret
      all_goals exact HNO.out _ _ (nv + 1) (bv + t.size) rfl HST.out

/-- A form of few parts and few bytes. -/
def SmallT (T : Tm) : Prop := T.parts ≤ 3000 ∧ T.texts ≤ 80000

/-- What Small leaves. -/
def SmallP (T : Tm) (w : World) (e : Ending) (w' : World) : Prop := ∃ r : Bool, e = .returned (.bool r) ∧ Below w.heap.size w w' ∧ (r = true → SmallT T)

set_option maxHeartbeats 1000000 in
theorem small_any (l : Bool) (t : ByteArray) (ys : List Tm) (Z : Nat → Prop) (w : World) (a : Option Addr) (c : Nat) (hsl : SlL Z w (.slice a ys.length c) ys) (hts : t.size ≤ 140737488355328) (hz : ∀ i, Z i → i < w.heap.size) :
    Calls Tryd.prog 9 #[fv l t (.slice a ys.length c)] w (SmallP (.mk l t ys) w) := by
  obtain ⟨n, hn⟩ : ∃ n, n = ys.length := ⟨_, rfl⟩
  have hc : ∀ wz, Below w.heap.size w wz → w.heap.size < wz.heap.size → wz.cell? ⟨w.heap.size + 1, 0, none⟩ = some (.int .i64 0) → wz.cell? ⟨w.heap.size + 2, 0, none⟩ = some (.int .i64 0) → wz.frozen? ⟨w.heap.size + 1, 0, none⟩ = false → wz.frozen? ⟨w.heap.size + 2, 0, none⟩ = false →
      Calls Tryd.prog 23 #[fv l t (.slice a n c), .pointer (some ⟨w.heap.size + 1, 0, none⟩), .pointer (some ⟨w.heap.size + 2, 0, none⟩), .int .i64 0] wz (CountP (.mk l t ys) wz (w.heap.size + 1) (w.heap.size + 2) 0 0) := by
    rw [hn]
    intro wz hb hlt h1 h2 h3 h4
    exact count_any _ l t ys rfl Z wz a c (w.heap.size + 1) (w.heap.size + 2) 0 0 0 (hsl.keep hb) hts (fun i hi h => by have := hz i hi; omega) (by omega) h1 h2 h3 h4 (by omega) (by omega) (by omega)
  rw [← hn]
  have HC := Lib.hid hc
  clear hsl hz hn hc
  go_enter Tryd.func9, Tryd.ntmps9
  go_wp2_with fail
  refine (HC.out _ ?_ ?_ ?_ ?_ ?_ ?_).mono ?_
  case refine_1 => exact (((Below.refl _ _).alloc (Nat.le_refl _) _).alloc (by simp) _).alloc (by simp; omega) _
  case refine_2 => simp; omega
  case refine_3 => go_simp
  case refine_4 => go_simp
  case refine_5 => go_simp
  case refine_6 => go_simp
  rintro e w2 ⟨r, n', b', rfl, hof, g1, g2, g3, g4, him⟩
  have hb : Below w.heap.size w w2 := ((((Below.refl _ _).alloc (Nat.le_refl _) _).alloc (by simp) _).alloc (by simp; omega) _).trans (hof.below (fun i hi => by omega) (by simp; omega))
  have HB := Lib.hid hb
  have HI := Lib.hid him
  clear hof g1 g2 g3 g4 him hb
  go_wp2_with fail
  go_ret
  exact ⟨r, rfl, HB.out, fun h => by
    obtain ⟨i1, i2, i3, i4⟩ := HI.out h
    exact ⟨by omega, by omega⟩⟩
end Go.Proofs.YtapplhoglmihbaaDoor
