/- The contract of the program's Read. The contracts of List (of forms without items) and of Num. -/
import Derived.Test.YtgjcblginkdinaaGreatDoorV17
import Derived.Test.YtgjcblginkdinaaGreatDoorV18
import Derived.Test.YtgjcblginkdinaaGreatDoorV3
import Derived.Test.YtgjcblginkdinaaGreatDoorV7
set_option linter.unusedVariables false
namespace Go.Proofs.YtgjcblginkdinaaGreatDoor
open Go.ChangeShapes Go.WideShapes Go.ChangeAt Go.RowKit

abbrev errV (k : Int) : Value := .iface 47 (.int .i64 k)

def ReadT (s : ByteArray) (w : World) (e : Ending) (w' : World) : Prop :=
  Below w.heap.size w w' ∧
    ((65536 < s.size ∧ e = .returned (.tuple #[fz, errV 2])) ∨
     (s.size ≤ 65536 ∧ (∀ T, ¬ IsF 0 s.data.toList T []) ∧ e = .returned (.tuple #[fz, errV 5])) ∨
     (s.size ≤ 65536 ∧ ∃ l t xs a c, e = .returned (.tuple #[fv l t (.slice a xs.length c), .nilIface]) ∧ IsF 0 s.data.toList (.mk l t xs) [] ∧ t.size ≤ 140737488355328 ∧ SlL (fun i => w.heap.size ≤ i) w' (.slice a xs.length c) xs))

theorem two_off {w wr : World} {x1 x2 x3 : Value} {o : Obj} {ty : TypeId} (h : Off (· = w.heap.size + 1) ((w.alloc (.cells #[x1, x2, x3] ty)).alloc o) wr) :
    (wr.cell? ⟨w.heap.size, 0, none⟩ = some x1 ∧ wr.cell? ⟨w.heap.size, 1, none⟩ = some x2 ∧ wr.cell? ⟨w.heap.size, 2, none⟩ = some x3) ∧ (∀ j, wr.frozen? ⟨w.heap.size, j, none⟩ = false) ∧ w.heap.size + 1 < wr.heap.size ∧ Below w.heap.size w wr := by
  have hlt : w.heap.size < ((w.alloc (.cells #[x1, x2, x3] ty)).alloc o).heap.size := by simp; omega
  have hb : ((w.alloc (.cells #[x1, x2, x3] ty)).alloc o).heap[w.heap.size]? = (w.alloc (.cells #[x1, x2, x3] ty)).heap[w.heap.size]? := Below.heap_alloc _ _ _ (by simp)
  have hc : ∀ j, wr.cell? ⟨w.heap.size, j, none⟩ = #[x1, x2, x3][j]? := fun j => (h.cell (p := ⟨w.heap.size, j, none⟩) hlt (by show ¬ w.heap.size = _; omega)).trans ((World.cell?_of_block (a := ⟨w.heap.size, j, none⟩) hb).trans (World.cell?_alloc_at _ _ _ _ rfl))
  refine ⟨⟨hc 0, hc 1, hc 2⟩, fun j => (h.frozen (p := ⟨w.heap.size, j, none⟩) hlt (by show ¬ w.heap.size = _; omega)).trans ((World.frozen?_of_block (a := ⟨w.heap.size, j, none⟩) hb).trans (World.frozen?_alloc_at _ _ _ _ rfl)), Nat.lt_of_lt_of_le (by simp) h.size, ?_⟩
  exact (((Below.refl _ _).alloc (Nat.le_refl _) _).alloc (by simp) _).trans (h.below (fun i hi => by omega) (by simp; omega))

theorem set3_below {w w3 : World} (h : Below w.heap.size w w3) (u0 u1 u2 : Value) : Below w.heap.size w (((w3.setCell ⟨w.heap.size, 0, none⟩ u0).setCell ⟨w.heap.size, 1, none⟩ u1).setCell ⟨w.heap.size, 2, none⟩ u2) :=
  ((h.setCell (p := ⟨w.heap.size, 0, none⟩) (Nat.le_refl _) _).setCell (p := ⟨w.heap.size, 1, none⟩) (Nat.le_refl _) _).setCell (p := ⟨w.heap.size, 2, none⟩) (Nat.le_refl _) _
theorem set3_below_al {w w3 : World} (h : Below w.heap.size w w3) (u0 u1 u2 : Value) (o : Obj) : Below w.heap.size w ((((w3.setCell ⟨w.heap.size, 0, none⟩ u0).setCell ⟨w.heap.size, 1, none⟩ u1).setCell ⟨w.heap.size, 2, none⟩ u2).alloc o) :=
  (set3_below h u0 u1 u2).alloc (set3_below h u0 u1 u2).size o
theorem set3_sl {Z : Nat → Prop} {w w3 : World} {v : Value} {xs : List Tm} (h : SlL Z w3 v xs) (hz : ∀ i, Z i → w.heap.size < i) (u0 u1 u2 : Value) (o : Obj) : SlL (fun i => w.heap.size ≤ i) ((((w3.setCell ⟨w.heap.size, 0, none⟩ u0).setCell ⟨w.heap.size, 1, none⟩ u1).setCell ⟨w.heap.size, 2, none⟩ u2).alloc o) v xs := by
  have hfo : Off (fun i => i = w.heap.size) w3 (((w3.setCell ⟨w.heap.size, 0, none⟩ u0).setCell ⟨w.heap.size, 1, none⟩ u1).setCell ⟨w.heap.size, 2, none⟩ u2) :=
    (((Off.refl (fun i => i = w.heap.size) w3).setCell (p := ⟨w.heap.size, 0, none⟩) (.inr rfl) _).setCell (p := ⟨w.heap.size, 1, none⟩) (.inr rfl) _).setCell (p := ⟨w.heap.size, 2, none⟩) (.inr rfl) _
  exact ((h.off hfo fun i hi e => by have := hz i hi; omega).alloc o).mono fun i _ hi => by have := hz i hi; omega

set_option maxHeartbeats 4000000 in
set_option maxRecDepth 100000 in
theorem read_any (s : ByteArray) (w : World) (hs : s.size ≤ 140737488355328) :
    Calls Tryz.prog 38 #[.string s] w (ReadT s w) := by
  by_cases hbig : 65536 < s.size
  · have hb : (65536 : Int) < s.size := by omega
    go_enter Tryz.func38, Tryz.ntmps38
    go_wp2_with fail
    exact bodyPost_ret (v := .tuple #[fz, errV 2]) (by simp [results, Tryz.results38, go_sem]) rfl ⟨(Below.refl _ _).alloc (Nat.le_refl _) _, .inl ⟨hbig, rfl⟩⟩
  · have hb : ¬ (65536 : Int) < s.size := by omega
    have hform := rdform_any s (by omega) 8 0 (by omega)
    have HF := Lib.hid hform
    have HBIG := Lib.hid hbig
    clear hform hbig
    go_enter Tryz.func38, Tryz.ntmps38
    go_wp2_with fail
    have hrd : Rd (w.heap.size + 1) ((w.alloc (.cells #[.bool false, .string ⟨#[]⟩, .slice none 0 0] 61)).alloc (.cells #[.string s, .int .i64 0] 125)) s 0 :=
      ⟨(World.cell?_alloc_at _ _ _ _ (by simp)).trans rfl, (World.cell?_alloc_at _ _ _ _ (by simp)).trans rfl, World.frozen?_alloc_at _ _ _ _ (by simp)⟩
    refine (HF.out (w.heap.size + 1) 0 _ hrd (Nat.zero_le _)).mono ?_
    rintro e w3 ⟨hoff, hcase⟩
    obtain ⟨⟨z1, z2, z3⟩, zf, zl, zb⟩ := two_off hoff
    have zf0 := zf 0
    have zf1 := zf 1
    have zf2 := zf 2
    have zl2 : w.heap.size < w3.heap.size := by omega
    have HZB := Lib.hid zb
    rw [List.drop_zero] at hcase
    clear hrd hoff zf zb
    rcases hcase with ⟨l1, t1, xs1, a1, c1, q3, R3, rfl, hF3, hq3, hR3, hrd3, hts3, hsl3⟩ | ⟨rfl, hno⟩
    · obtain ⟨y1, y2, y3⟩ := hrd3
      have HF3 := Lib.hid hF3
      have HR3 := Lib.hid hR3
      have HSL3 := Lib.hid hsl3
      obtain ⟨m1, hm1⟩ : ∃ m, m = xs1.length := ⟨_, rfl⟩
      have HM1 := Lib.hid hm1
      rw [← hm1]
      clear hF3 hR3 hsl3 hm1 y1 y3
      by_cases hend : q3 < s.size
      · have hno : ∀ T, ¬ IsF 0 s.data.toList T [] := fun T hT => by
          have := (HF3.out.det hT).2
          have e := congrArg List.length HR3.out
          rw [this, List.length_drop, ba_len, List.length_nil] at e
          omega
        have HNO := Lib.hid hno
        have hbb : (q3 : Int) < s.size := by omega
        clear hno
        go_wp2_with fail
        refine bodyPost_ret (v := .tuple #[fz, errV 5]) (by simp [results, Tryz.results38, go_sem, z1, z2, z3, zl2]) rfl ⟨?_, .inr (.inl ⟨by have := HBIG.out; omega, HNO.out, rfl⟩)⟩
        exact set3_below_al HZB.out _ _ _ _
      · have hbb : ¬ (q3 : Int) < s.size := by omega
        have hfin : IsF 0 s.data.toList (.mk l1 t1 xs1) [] := by
          have h := HF3.out
          have e : R3 = [] := by rw [← HR3.out]; exact List.drop_eq_nil_of_le (by rw [ba_len]; omega)
          rw [e] at h
          exact h
        have HFIN := Lib.hid hfin
        clear hfin
        go_wp2_with fail
        refine bodyPost_ret (v := .tuple #[fv l1 t1 (.slice a1 m1 c1), .nilIface]) (by simp [results, Tryz.results38, go_sem, z1, z2, z3, zl2]) rfl ⟨?_, .inr (.inr ⟨by have := HBIG.out; omega, l1, t1, xs1, a1, c1, by rw [← HM1.out], HFIN.out, hts3, ?_⟩)⟩
        · exact set3_below_al HZB.out _ _ _ _
        · have := HSL3.out
          rw [← HM1.out]
          rw [← HM1.out] at this
          exact set3_sl this (fun i hi => by have h : ((w.alloc (.cells #[.bool false, .string ⟨#[]⟩, .slice none 0 0] 61)).alloc (.cells #[.string s, .int .i64 0] 125)).heap.size ≤ i := hi; simp at h; omega) _ _ _ _
    · have HNO := Lib.hid hno
      clear hno
      go_wp2_with fail
      refine bodyPost_ret (v := .tuple #[fz, errV 5]) (by simp [results, Tryz.results38, go_sem, z1, z2, z3, zl2]) rfl ⟨?_, .inr (.inl ⟨by have := HBIG.out; omega, fun T => HNO.out T [], rfl⟩)⟩
      first | exact set3_below_al HZB.out _ _ _ _ | exact set3_below HZB.out _ _ _
end Go.Proofs.YtgjcblginkdinaaGreatDoor
set_option linter.unusedVariables false
namespace Go.Proofs.YtgjcblginkdinaaGreatDoor
open Go.ChangeShapes Go.WideShapes Go.ChangeAt Go.RowKit
open Go.Lib (itoa)

theorem num_any (n : Int) (w : World) (h0 : -9223372036854775808 ≤ n) (h1 : n ≤ 9223372036854775807) (ht : HasTab w) :
    Calls Tryz.prog 62 #[.int .i64 n] w fun e w' => e = .returned (fv false (tx (itoa n)) (.slice none 0 0)) ∧ Below w.heap.size w w' := by
  have hc := itoa_any n h0 h1 (w.alloc (.cells #[.bool false, .string ⟨#[]⟩, .slice none 0 0] 61)) (ht.below ((Below.refl _ _).alloc (Nat.le_refl _) _))
  have HC := Lib.hid hc
  clear hc
  go_enter Tryz.func62, Tryz.ntmps62
  go_wp2_with fail
  refine HC.out.mono ?_
  rintro e w1 ⟨rfl, hb1⟩
  go_wp2_with fail
  refine (text_any _ _).mono ?_
  rintro e w2 ⟨rfl, hb2⟩
  have ho : Off (fun _ => False) (w.alloc (.cells #[.bool false, .string ⟨#[]⟩, .slice none 0 0] 61)) w2 := (Off.of_below hb1).trans (Off.of_below hb2)
  obtain ⟨⟨z1, z2, z3⟩, zf, zl⟩ := cells3_off ho (fun h => h)
  have zf0 := zf 0
  have zf1 := zf 1
  have zf2 := zf 2
  have hb : Below w.heap.size w w2 := ((Below.refl _ _).alloc (Nat.le_refl _) _).trans (ho.below (fun i hi => hi.elim) (by simp))
  have HB := Lib.hid hb
  clear hb1 hb2 ho zf hb
  go_wp2_with fail
  refine bodyPost_ret (v := fv false (tx (itoa n)) (.slice none 0 0)) (by simp [results, Tryz.results62, go_sem, z1, z2, z3]) rfl ⟨rfl, ?_⟩
  exact ((HB.out.setCell (p := ⟨w.heap.size, 0, none⟩) (Nat.le_refl _) _).setCell (p := ⟨w.heap.size, 1, none⟩) (Nat.le_refl _) _).setCell (p := ⟨w.heap.size, 2, none⟩) (Nat.le_refl _) _

theorem Made.setItems {B : Nat} {w : World} {a : Option Addr} {n c : Nat} {es : List FE} {k : Nat} {l : Bool} {t : ByteArray} {ys : List Tm} {s s' : Value} (h : Made B w (.slice a n c) es) (hk : es[k]? = some (l, t, ys, s)) (hs : SlL (fun i => B ≤ i ∧ (Value.slice a n c).ownBlock ≠ some i) w s' ys) :
    ∃ g, a = some ⟨g, 0, none⟩ ∧ B ≤ g ∧ g < w.heap.size ∧ w.cell? ⟨g, k * 3, none⟩ = some (.bool l) ∧ w.cell? ⟨g, k * 3 + 1, none⟩ = some (.string t) ∧ w.cell? ⟨g, k * 3 + 2, none⟩ = some s ∧ w.frozen? ⟨g, k * 3 + 2, none⟩ = false ∧
      Made B (w.setCell ⟨g, k * 3 + 2, none⟩ s') (.slice a n c) (es.set k (l, t, ys, s')) := by
  have hkl := (List.getElem?_eq_some_iff.1 hk).1
  obtain ⟨h0, hr⟩ := h.row
  obtain ⟨b, cap, hv, h1, h2, h3, h4, h5, h6⟩ := h.row.pos (by omega)
  injection hv with e1 e2 e3
  subst e1
  subst e3
  obtain ⟨c1, c2, c3⟩ := fcells_at hk
  have hcap : k * 3 + 2 < c * 3 := by omega
  refine ⟨b, rfl, h1, h2, h6 _ _ c1, h6 _ _ c2, h6 _ _ c3, (h5 _ hcap).2, ⟨⟨?_, .inr ⟨b, c, by rw [List.length_set]; exact congrArg (fun m => Value.slice (some ⟨b, 0, none⟩) m c) e2, h1, by simpa [World.setCell] using h2, by rw [List.length_set]; exact h3, h4, fun j hj => ⟨?_, ?_⟩, fun j u hu => ?_⟩⟩, fun p hp => ?_⟩⟩
  · rw [fcells_len, List.length_set]
  · by_cases e : k * 3 + 2 = j
    · subst e
      rw [World.cell?_setCell_same _ _ _ (h6 _ _ c3)]; rfl
    · rw [World.cell?_setCell_other _ _ _ _ (fun h => e (by injection h))]
      exact (h5 j hj).1
  · rw [World.frozen?_setCell]; exact (h5 j hj).2
  · have hset : fcells (es.set k (l, t, ys, s')) = (fcells es).set (k * 3 + 2) s' := by
      have e1 : es = es.take k ++ [(l, t, ys, s)] ++ es.drop (k + 1) := by
        obtain ⟨_, e⟩ := List.getElem?_eq_some_iff.1 hk
        rw [List.append_assoc, List.singleton_append, ← e, List.getElem_cons_drop, List.take_append_drop]
      have hl : (es.take k).length = k := by rw [List.length_take]; omega
      have hl3 : (fcells (es.take k)).length = k * 3 := by rw [fcells_len, hl]
      have e2 : es.set k (l, t, ys, s') = es.take k ++ [(l, t, ys, s')] ++ es.drop (k + 1) := by
        rw [List.set_eq_take_append_cons_drop, if_pos hkl]; simp
      rw [e2]
      conv => rhs; rw [e1]
      rw [fcells_app, fcells_app, fcells_app, fcells_app, fcells_one, fcells_one, List.append_assoc, List.append_assoc, List.set_append_right _ _ (by omega), hl3, show k * 3 + 2 - k * 3 = 2 by omega]
      rfl
    rw [hset] at hu
    by_cases e : k * 3 + 2 = j
    · subst e
      rw [List.getElem?_set_self (by rw [fcells_len]; omega)] at hu
      rw [World.cell?_setCell_same _ _ _ (h6 _ _ c3)]
      exact hu
    · rw [List.getElem?_set_ne e] at hu
      rw [World.cell?_setCell_other _ _ _ _ (fun h => e (by injection h))]
      exact h6 j u hu
  · have hz : ∀ {x : Value} {zs : List Tm}, SlL (fun i => B ≤ i ∧ (Value.slice (some ⟨b, 0, none⟩) n c).ownBlock ≠ some i) w x zs → SlL (fun i => B ≤ i ∧ (Value.slice (some ⟨b, 0, none⟩) n c).ownBlock ≠ some i) (w.setCell ⟨b, k * 3 + 2, none⟩ s') x zs := fun hx => hx.carry fun i hi hh => ⟨Below.heap_setCell _ _ _ _ (fun e => hh.2 (by rw [e]; rfl)), hh⟩
    rcases List.mem_or_eq_of_mem_set hp with hp | hp
    · exact ⟨(h.sub p hp).1, hz (h.sub p hp).2⟩
    · subst hp
      exact ⟨(h.sub _ (List.mem_of_getElem? hk)).1, hz hs⟩

theorem map_set_tm {es : List FE} {k : Nat} {l : Bool} {t : ByteArray} {ys : List Tm} {s s' : Value} (hk : es[k]? = some (l, t, ys, s)) : (es.set k (l, t, ys, s')).map FE.tm = es.map FE.tm := by
  rw [List.map_set]
  have : (es.map FE.tm)[k]? = some (.mk l t ys) := by rw [List.getElem?_map, hk]; rfl
  obtain ⟨h, e⟩ := List.getElem?_eq_some_iff.1 this
  rw [show FE.tm (l, t, ys, s') = (es.map FE.tm)[k] from e.symm, List.set_getElem_self]

end Go.Proofs.YtgjcblginkdinaaGreatDoor
