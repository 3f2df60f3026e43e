/- The contract of the program's Read. -/
import Derived.Test.YtapplhoglmihbaaDoorRdForm
set_option linter.unusedVariables false
namespace Go.Proofs.YtapplhoglmihbaaDoor
open Go.ChangeShapes Go.WideShapes Go.ChangeAt Go.RowKit

abbrev errV (k : Int) : Value := .iface 56 (.int .i64 k)

/-- What Read leaves. -/
def ReadT (s : ByteArray) (w : World) (e : Ending) (w' : World) : Prop :=
  Below w.heap.size w w' ∧
    ((65536 < s.size ∧ e = .returned (.tuple #[fz, errV 2])) ∨
     (s.size ≤ 65536 ∧ (∀ T, ¬ IsF 0 s.data.toList T []) ∧ e = .returned (.tuple #[fz, errV 5])) ∨
     (s.size ≤ 65536 ∧ ∃ l t xs a c, e = .returned (.tuple #[fv l t (.slice a xs.length c), .nilIface]) ∧ IsF 0 s.data.toList (.mk l t xs) [] ∧ t.size ≤ 140737488355328 ∧ SlL (fun i => w.heap.size ≤ i) w' (.slice a xs.length c) xs))

theorem two_off {w wr : World} {x1 x2 x3 : Value} {o : Obj} {ty : TypeId} (h : Off (· = w.heap.size + 1) ((w.alloc (.cells #[x1, x2, x3] ty)).alloc o) wr) :
    (wr.cell? ⟨w.heap.size, 0, none⟩ = some x1 ∧ wr.cell? ⟨w.heap.size, 1, none⟩ = some x2 ∧ wr.cell? ⟨w.heap.size, 2, none⟩ = some x3) ∧ (∀ j, wr.frozen? ⟨w.heap.size, j, none⟩ = false) ∧ w.heap.size + 1 < wr.heap.size ∧ Below w.heap.size w wr := by
  have hlt : w.heap.size < ((w.alloc (.cells #[x1, x2, x3] ty)).alloc o).heap.size := by simp; omega
  have hb : ((w.alloc (.cells #[x1, x2, x3] ty)).alloc o).heap[w.heap.size]? = (w.alloc (.cells #[x1, x2, x3] ty)).heap[w.heap.size]? := Below.heap_alloc _ _ _ (by simp)
  have hc : ∀ j, wr.cell? ⟨w.heap.size, j, none⟩ = #[x1, x2, x3][j]? := fun j => (h.cell (p := ⟨w.heap.size, j, none⟩) hlt (by show ¬ w.heap.size = _; omega)).trans ((World.cell?_of_block (a := ⟨w.heap.size, j, none⟩) hb).trans (World.cell?_alloc_at _ _ _ _ rfl))
  refine ⟨⟨hc 0, hc 1, hc 2⟩, fun j => (h.frozen (p := ⟨w.heap.size, j, none⟩) hlt (by show ¬ w.heap.size = _; omega)).trans ((World.frozen?_of_block (a := ⟨w.heap.size, j, none⟩) hb).trans (World.frozen?_alloc_at _ _ _ _ rfl)), Nat.lt_of_lt_of_le (by simp) h.size, ?_⟩
  exact (((Below.refl _ _).alloc (Nat.le_refl _) _).alloc (by simp) _).trans (h.below (fun i hi => by omega) (by simp; omega))

theorem set3_below {w w3 : World} (h : Below w.heap.size w w3) (u0 u1 u2 : Value) : Below w.heap.size w (((w3.setCell ⟨w.heap.size, 0, none⟩ u0).setCell ⟨w.heap.size, 1, none⟩ u1).setCell ⟨w.heap.size, 2, none⟩ u2) :=
  ((h.setCell (p := ⟨w.heap.size, 0, none⟩) (Nat.le_refl _) _).setCell (p := ⟨w.heap.size, 1, none⟩) (Nat.le_refl _) _).setCell (p := ⟨w.heap.size, 2, none⟩) (Nat.le_refl _) _
theorem set3_below_al {w w3 : World} (h : Below w.heap.size w w3) (u0 u1 u2 : Value) (o : Obj) : Below w.heap.size w ((((w3.setCell ⟨w.heap.size, 0, none⟩ u0).setCell ⟨w.heap.size, 1, none⟩ u1).setCell ⟨w.heap.size, 2, none⟩ u2).alloc o) :=
  (set3_below h u0 u1 u2).alloc (set3_below h u0 u1 u2).size o
theorem set3_sl {Z : Nat → Prop} {w w3 : World} {v : Value} {xs : List Tm} (h : SlL Z w3 v xs) (hz : ∀ i, Z i → w.heap.size < i) (u0 u1 u2 : Value) (o : Obj) : SlL (fun i => w.heap.size ≤ i) ((((w3.setCell ⟨w.heap.size, 0, none⟩ u0).setCell ⟨w.heap.size, 1, none⟩ u1).setCell ⟨w.heap.size, 2, none⟩ u2).alloc o) v xs := by
  have hfo : Off (fun i => i = w.heap.size) w3 (((w3.setCell ⟨w.heap.size, 0, none⟩ u0).setCell ⟨w.heap.size, 1, none⟩ u1).setCell ⟨w.heap.size, 2, none⟩ u2) :=
    (((Off.refl (fun i => i = w.heap.size) w3).setCell (p := ⟨w.heap.size, 0, none⟩) (.inr rfl) _).setCell (p := ⟨w.heap.size, 1, none⟩) (.inr rfl) _).setCell (p := ⟨w.heap.size, 2, none⟩) (.inr rfl) _
  exact ((h.off hfo fun i hi e => by have := hz i hi; omega).alloc o).mono fun i _ hi => by have := hz i hi; omega

set_option maxHeartbeats 4000000 in
set_option maxRecDepth 100000 in
theorem read_any (s : ByteArray) (w : World) (hs : s.size ≤ 140737488355328) :
    Calls Tryd.prog 13 #[.string s] w (ReadT s w) := by
  by_cases hbig : 65536 < s.size
  · have hb : (65536 : Int) < s.size := by omega
    go_enter Tryd.func13, Tryd.ntmps13
    go_wp2_with fail
    exact bodyPost_ret (v := .tuple #[fz, errV 2]) (by simp [results, Tryd.results13, go_sem]) rfl ⟨(Below.refl _ _).alloc (Nat.le_refl _) _, .inl ⟨hbig, rfl⟩⟩
  · have hb : ¬ (65536 : Int) < s.size := by omega
    have hform := rdform_any s (by omega) 8 0 (by omega)
    have HF := Lib.hid hform
    have HBIG := Lib.hid hbig
    clear hform hbig
    go_enter Tryd.func13, Tryd.ntmps13
    go_wp2_with fail
    have hrd : Rd (w.heap.size + 1) ((w.alloc (.cells #[.bool false, .string ⟨#[]⟩, .slice none 0 0] 24)).alloc (.cells #[.string s, .int .i64 0] 63)) s 0 :=
      ⟨(World.cell?_alloc_at _ _ _ _ (by simp)).trans rfl, (World.cell?_alloc_at _ _ _ _ (by simp)).trans rfl, World.frozen?_alloc_at _ _ _ _ (by simp)⟩
    refine (HF.out (w.heap.size + 1) 0 _ hrd (Nat.zero_le _)).mono ?_
    rintro e w3 ⟨hoff, hcase⟩
    obtain ⟨⟨z1, z2, z3⟩, zf, zl, zb⟩ := two_off hoff
    have zf0 := zf 0
    have zf1 := zf 1
    have zf2 := zf 2
    have zl2 : w.heap.size < w3.heap.size := by omega
    have HZB := Lib.hid zb
    rw [List.drop_zero] at hcase
    clear hrd hoff zf zb
    rcases hcase with ⟨l1, t1, xs1, a1, c1, q3, R3, rfl, hF3, hq3, hR3, hrd3, hts3, hsl3⟩ | ⟨rfl, hno⟩
    · obtain ⟨y1, y2, y3⟩ := hrd3
      have HF3 := Lib.hid hF3
      have HR3 := Lib.hid hR3
      have HSL3 := Lib.hid hsl3
      obtain ⟨m1, hm1⟩ : ∃ m, m = xs1.length := ⟨_, rfl⟩
      have HM1 := Lib.hid hm1
      rw [← hm1]
      clear hF3 hR3 hsl3 hm1 y1 y3
      by_cases hend : q3 < s.size
      · have hno : ∀ T, ¬ IsF 0 s.data.toList T [] := fun T hT => by
          have := (HF3.out.det hT).2
          have e := congrArg List.length HR3.out
          rw [this, List.length_drop, ba_len, List.length_nil] at e
          omega
        have HNO := Lib.hid hno
        have hbb : (q3 : Int) < s.size := by omega
        clear hno
        go_wp2_with fail
        refine bodyPost_ret (v := .tuple #[fz, errV 5]) (by simp [results, Tryd.results13, go_sem, z1, z2, z3, zl2]) rfl ⟨?_, .inr (.inl ⟨by have := HBIG.out; omega, HNO.out, rfl⟩)⟩
        exact set3_below_al HZB.out _ _ _ _
      · have hbb : ¬ (q3 : Int) < s.size := by omega
        have hfin : IsF 0 s.data.toList (.mk l1 t1 xs1) [] := by
          have h := HF3.out
          have e : R3 = [] := by rw [← HR3.out]; exact List.drop_eq_nil_of_le (by rw [ba_len]; omega)
          rw [e] at h
          exact h
        have HFIN := Lib.hid hfin
        clear hfin
        go_wp2_with fail
        refine bodyPost_ret (v := .tuple #[fv l1 t1 (.slice a1 m1 c1), .nilIface]) (by simp [results, Tryd.results13, go_sem, z1, z2, z3, zl2]) rfl ⟨?_, .inr (.inr ⟨by have := HBIG.out; omega, l1, t1, xs1, a1, c1, by rw [← HM1.out], HFIN.out, hts3, ?_⟩)⟩
        · exact set3_below_al HZB.out _ _ _ _
        · have := HSL3.out
          rw [← HM1.out]
          rw [← HM1.out] at this
          exact set3_sl this (fun i hi => by have h : ((w.alloc (.cells #[.bool false, .string ⟨#[]⟩, .slice none 0 0] 24)).alloc (.cells #[.string s, .int .i64 0] 63)).heap.size ≤ i := hi; simp at h; omega) _ _ _ _
    · have HNO := Lib.hid hno
      clear hno
      go_wp2_with fail
      refine bodyPost_ret (v := .tuple #[fz, errV 5]) (by simp [results, Tryd.results13, go_sem, z1, z2, z3, zl2]) rfl ⟨?_, .inr (.inl ⟨by have := HBIG.out; omega, fun T => HNO.out T [], rfl⟩)⟩
      first | exact set3_below_al HZB.out _ _ _ _ | exact set3_below HZB.out _ _ _
end Go.Proofs.YtapplhoglmihbaaDoor
