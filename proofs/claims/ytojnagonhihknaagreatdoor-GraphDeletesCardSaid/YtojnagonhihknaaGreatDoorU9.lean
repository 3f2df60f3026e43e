/- Which form's bytes a list of bytes begins with: at most one's; lists and texts, step by step. Mathematics alone. What reading and making share. The contracts of List (of forms without items) and of Num. -/
import Derived.Test.YtojnagonhihknaaGreatDoorU4
import Derived.Test.YtojnagonhihknaaGreatDoorU5
import Derived.Test.YtojnagonhihknaaGreatDoorU8
set_option linter.unusedVariables false
namespace Go.Proofs.YtojnagonhihknaaGreatDoor
open Go.Lib

def IsF (d : Nat) (L : List UInt8) (T : Tm) (R : List UInt8) : Prop := T.ok = true ∧ d + T.depth ≤ 8 ∧ L = T.bytes ++ R

abbrev noText : ByteArray := ⟨#[]⟩
theorem size0 {t : ByteArray} (h : t.size = 0) : t = noText := by
  apply ba_ext
  rw [List.length_eq_zero_iff.1 (show t.data.toList.length = 0 by rw [ba_len]; exact h)]

theorem isF_list {d : Nat} {L : List UInt8} {T : Tm} {R : List UInt8} : IsF d (40 :: L) T R ↔ ∃ xs, T = .mk true noText xs ∧ Tm.oks xs = true ∧ d + (Tm.depths xs + 1) ≤ 8 ∧ L = Tm.bytess xs ++ 41 :: R := by
  constructor
  · rintro ⟨h1, h2, h3⟩
    obtain ⟨l, t, xs⟩ := T
    cases l with
    | true =>
      rw [Tm.ok] at h1
      rw [Tm.depth] at h2
      rw [Tm.bytes] at h3
      simp only [if_true, Bool.and_eq_true, decide_eq_true_eq, List.cons_append, List.cons.injEq, true_and, List.append_assoc, List.nil_append] at h1 h2 h3
      exact ⟨xs, by rw [size0 h1.1], h1.2, h2, h3⟩
    | false =>
      rw [Tm.bytes] at h3
      simp only [Bool.false_eq_true, if_false] at h3
      cases e : decDigits t.size with
      | nil => exact absurd e (decDigits_ne _)
      | cons c r =>
        rw [e] at h3
        simp only [List.cons_append, List.cons.injEq] at h3
        exact absurd (h3.1 ▸ decDigits_dig t.size c (by rw [e]; simp)) not_dig_40
  · rintro ⟨xs, rfl, h1, h2, rfl⟩
    refine ⟨?_, ?_, ?_⟩
    · rw [Tm.ok]; simp [h1]; rfl
    · rw [Tm.depth]; simpa using h2
    · rw [Tm.bytes]; simp

theorem split_items {r : List UInt8} : ∀ (ys xs : List Tm) (Lk : List UInt8), Tm.oks ys = true → Tm.oks xs = true → Tm.bytess ys ++ Lk = Tm.bytess xs ++ 41 :: r → ∃ zs, xs = ys ++ zs ∧ Lk = Tm.bytess zs ++ 41 :: r
  | [], xs, Lk, _, _, h => ⟨xs, rfl, by simpa [Tm.bytess] using h⟩
  | y :: ys, [], Lk, _, _, h => by
    obtain ⟨c, q, e, hc⟩ := Tm.head y
    simp only [Tm.bytess, e, List.nil_append, List.cons_append, List.cons.injEq] at h
    rcases hc with rfl | hc
    · exact absurd h.1 (by decide)
    · exact absurd (h.1 ▸ hc) not_dig_41
  | y :: ys, x :: xs, Lk, h1, h2, h => by
    simp only [Tm.oks, Bool.and_eq_true] at h1 h2
    simp only [Tm.bytess, List.append_assoc] at h
    obtain ⟨e1, e2⟩ := Tm.unique y x _ _ h1.1 h2.1 h
    obtain ⟨zs, e3, e4⟩ := split_items ys xs Lk h1.2 h2.2 e2
    exact ⟨zs, by rw [e1, e3]; rfl, e4⟩

structure Items (d : Nat) (L : List UInt8) (ys : List Tm) (Lk : List UInt8) : Prop where
  eq : L = Tm.bytess ys ++ Lk
  ok : Tm.oks ys = true
  deep : d + (Tm.depths ys + 1) ≤ 8

theorem Items.start {d : Nat} {L : List UInt8} (hd : d < 8) : Items d L [] L := ⟨by simp [Tm.bytess], rfl, by simp [Tm.depths]; omega⟩
theorem Items.next {d : Nat} {L Lk R : List UInt8} {ys : List Tm} {T : Tm} (h : Items d L ys Lk) (hf : IsF (d + 1) Lk T R) : Items d L (ys ++ [T]) R := by
  refine ⟨?_, ?_, ?_⟩
  · rw [h.eq, hf.2.2, Tm.bytess_app]; simp [Tm.bytess]
  · rw [Tm.oks_app, h.ok]; simp [Tm.oks, hf.1]
  · rw [Tm.depths_app]
    have : Tm.depths [T] = T.depth := by simp [Tm.depths]
    have := hf.2.1
    have := h.deep
    omega
theorem Items.done {d : Nat} {L R : List UInt8} {ys : List Tm} (h : Items d L ys (41 :: R)) : IsF d (40 :: L) (.mk true noText ys) R :=
  isF_list.2 ⟨ys, rfl, h.ok, h.deep, h.eq⟩
theorem Items.fail {d : Nat} {L Lk : List UInt8} {ys : List Tm} (h : Items d L ys Lk) (hn : ∀ R, Lk ≠ 41 :: R) (hf : ∀ T R, ¬ IsF (d + 1) Lk T R) : ∀ T R, ¬ IsF d (40 :: L) T R := by
  intro T R hT
  obtain ⟨xs, _, h1, h2, h3⟩ := isF_list.1 hT
  obtain ⟨zs, e1, e2⟩ := split_items ys xs Lk h.ok h1 (h.eq.symm.trans h3)
  cases zs with
  | nil => exact hn R (by simpa [Tm.bytess] using e2)
  | cons z zs =>
    refine hf z (Tm.bytess zs ++ 41 :: R) ⟨?_, ?_, ?_⟩
    · exact Tm.oks_iff.1 h1 z (by rw [e1]; simp)
    · have := Tm.depths_le.1 (Nat.le_refl (Tm.depths xs)) z (by rw [e1]; simp)
      omega
    · rw [e2]; simp [Tm.bytess]
end Go.Proofs.YtojnagonhihknaaGreatDoor
set_option linter.unusedVariables false
namespace Go.Proofs.YtojnagonhihknaaGreatDoor
open Go.ChangeShapes Go.WideShapes Go.ChangeAt Go.RowKit

abbrev errV (k : Int) : Value := .iface 67 (.int .i64 k)
theorem two_off {w wr : World} {x1 x2 x3 : Value} {o : Obj} {ty : TypeId} (h : Off (· = w.heap.size + 1) ((w.alloc (.cells #[x1, x2, x3] ty)).alloc o) wr) :
    (wr.cell? ⟨w.heap.size, 0, none⟩ = some x1 ∧ wr.cell? ⟨w.heap.size, 1, none⟩ = some x2 ∧ wr.cell? ⟨w.heap.size, 2, none⟩ = some x3) ∧ (∀ j, wr.frozen? ⟨w.heap.size, j, none⟩ = false) ∧ w.heap.size + 1 < wr.heap.size ∧ Below w.heap.size w wr := by
  have hlt : w.heap.size < ((w.alloc (.cells #[x1, x2, x3] ty)).alloc o).heap.size := by simp; omega
  have hb : ((w.alloc (.cells #[x1, x2, x3] ty)).alloc o).heap[w.heap.size]? = (w.alloc (.cells #[x1, x2, x3] ty)).heap[w.heap.size]? := Below.heap_alloc _ _ _ (by simp)
  have hc : ∀ j, wr.cell? ⟨w.heap.size, j, none⟩ = #[x1, x2, x3][j]? := fun j => (h.cell (p := ⟨w.heap.size, j, none⟩) hlt (by show ¬ w.heap.size = _; omega)).trans ((World.cell?_of_block (a := ⟨w.heap.size, j, none⟩) hb).trans (World.cell?_alloc_at _ _ _ _ rfl))
  refine ⟨⟨hc 0, hc 1, hc 2⟩, fun j => (h.frozen (p := ⟨w.heap.size, j, none⟩) hlt (by show ¬ w.heap.size = _; omega)).trans ((World.frozen?_of_block (a := ⟨w.heap.size, j, none⟩) hb).trans (World.frozen?_alloc_at _ _ _ _ rfl)), Nat.lt_of_lt_of_le (by simp) h.size, ?_⟩
  exact (((Below.refl _ _).alloc (Nat.le_refl _) _).alloc (by simp) _).trans (h.below (fun i hi => by omega) (by simp; omega))
theorem set3_below {w w3 : World} (h : Below w.heap.size w w3) (u0 u1 u2 : Value) : Below w.heap.size w (((w3.setCell ⟨w.heap.size, 0, none⟩ u0).setCell ⟨w.heap.size, 1, none⟩ u1).setCell ⟨w.heap.size, 2, none⟩ u2) :=
  ((h.setCell (p := ⟨w.heap.size, 0, none⟩) (Nat.le_refl _) _).setCell (p := ⟨w.heap.size, 1, none⟩) (Nat.le_refl _) _).setCell (p := ⟨w.heap.size, 2, none⟩) (Nat.le_refl _) _
end Go.Proofs.YtojnagonhihknaaGreatDoor
set_option linter.unusedVariables false
namespace Go.Proofs.YtojnagonhihknaaGreatDoor
open Go.ChangeShapes Go.WideShapes Go.ChangeAt Go.RowKit
open Go.Lib (itoa)

theorem num_any (n : Int) (w : World) (h0 : -9223372036854775808 ≤ n) (h1 : n ≤ 9223372036854775807) (ht : HasTab w) :
    Calls Tryz.prog 138 #[.int .i64 n] w fun e w' => e = .returned (fv false (tx (itoa n)) (.slice none 0 0)) ∧ Below w.heap.size w w' := by
  have hc := itoa_any n h0 h1 (w.alloc (.cells #[.bool false, .string ⟨#[]⟩, .slice none 0 0] 122)) (ht.below ((Below.refl _ _).alloc (Nat.le_refl _) _))
  have HC := Lib.hid hc
  clear hc
  go_enter Tryz.func138, Tryz.ntmps138
  go_wp2_with fail
  refine HC.out.mono ?_
  rintro e w1 ⟨rfl, hb1⟩
  go_wp2_with fail
  refine (text_any _ _).mono ?_
  rintro e w2 ⟨rfl, hb2⟩
  have ho : Off (fun _ => False) (w.alloc (.cells #[.bool false, .string ⟨#[]⟩, .slice none 0 0] 122)) w2 := (Off.of_below hb1).trans (Off.of_below hb2)
  obtain ⟨⟨z1, z2, z3⟩, zf, zl⟩ := cells3_off ho (fun h => h)
  have zf0 := zf 0
  have zf1 := zf 1
  have zf2 := zf 2
  have hb : Below w.heap.size w w2 := ((Below.refl _ _).alloc (Nat.le_refl _) _).trans (ho.below (fun i hi => hi.elim) (by simp))
  have HB := Lib.hid hb
  clear hb1 hb2 ho zf hb
  go_wp2_with fail
  refine bodyPost_ret (v := fv false (tx (itoa n)) (.slice none 0 0)) (by simp [results, Tryz.results138, go_sem, z1, z2, z3]) rfl ⟨rfl, ?_⟩
  exact ((HB.out.setCell (p := ⟨w.heap.size, 0, none⟩) (Nat.le_refl _) _).setCell (p := ⟨w.heap.size, 1, none⟩) (Nat.le_refl _) _).setCell (p := ⟨w.heap.size, 2, none⟩) (Nat.le_refl _) _

theorem Made.setItems {B : Nat} {w : World} {a : Option Addr} {n c : Nat} {es : List FE} {k : Nat} {l : Bool} {t : ByteArray} {ys : List Tm} {s s' : Value} (h : Made B w (.slice a n c) es) (hk : es[k]? = some (l, t, ys, s)) (hs : SlL (fun i => B ≤ i ∧ (Value.slice a n c).ownBlock ≠ some i) w s' ys) :
    ∃ g, a = some ⟨g, 0, none⟩ ∧ B ≤ g ∧ g < w.heap.size ∧ w.cell? ⟨g, k * 3, none⟩ = some (.bool l) ∧ w.cell? ⟨g, k * 3 + 1, none⟩ = some (.string t) ∧ w.cell? ⟨g, k * 3 + 2, none⟩ = some s ∧ w.frozen? ⟨g, k * 3 + 2, none⟩ = false ∧
      Made B (w.setCell ⟨g, k * 3 + 2, none⟩ s') (.slice a n c) (es.set k (l, t, ys, s')) := by
  have hkl := (List.getElem?_eq_some_iff.1 hk).1
  obtain ⟨h0, hr⟩ := h.row
  obtain ⟨b, cap, hv, h1, h2, h3, h4, h5, h6⟩ := h.row.pos (by omega)
  injection hv with e1 e2 e3
  subst e1
  subst e3
  obtain ⟨c1, c2, c3⟩ := fcells_at hk
  have hcap : k * 3 + 2 < c * 3 := by omega
  refine ⟨b, rfl, h1, h2, h6 _ _ c1, h6 _ _ c2, h6 _ _ c3, (h5 _ hcap).2, ⟨⟨?_, .inr ⟨b, c, by rw [List.length_set]; exact congrArg (fun m => Value.slice (some ⟨b, 0, none⟩) m c) e2, h1, by simpa [World.setCell] using h2, by rw [List.length_set]; exact h3, h4, fun j hj => ⟨?_, ?_⟩, fun j u hu => ?_⟩⟩, fun p hp => ?_⟩⟩
  · rw [fcells_len, List.length_set]
  · by_cases e : k * 3 + 2 = j
    · subst e
      rw [World.cell?_setCell_same _ _ _ (h6 _ _ c3)]; rfl
    · rw [World.cell?_setCell_other _ _ _ _ (fun h => e (by injection h))]
      exact (h5 j hj).1
  · rw [World.frozen?_setCell]; exact (h5 j hj).2
  · have hset : fcells (es.set k (l, t, ys, s')) = (fcells es).set (k * 3 + 2) s' := by
      have e1 : es = es.take k ++ [(l, t, ys, s)] ++ es.drop (k + 1) := by
        obtain ⟨_, e⟩ := List.getElem?_eq_some_iff.1 hk
        rw [List.append_assoc, List.singleton_append, ← e, List.getElem_cons_drop, List.take_append_drop]
      have hl : (es.take k).length = k := by rw [List.length_take]; omega
      have hl3 : (fcells (es.take k)).length = k * 3 := by rw [fcells_len, hl]
      have e2 : es.set k (l, t, ys, s') = es.take k ++ [(l, t, ys, s')] ++ es.drop (k + 1) := by
        rw [List.set_eq_take_append_cons_drop, if_pos hkl]; simp
      rw [e2]
      conv => rhs; rw [e1]
      rw [fcells_app, fcells_app, fcells_app, fcells_app, fcells_one, fcells_one, List.append_assoc, List.append_assoc, List.set_append_right _ _ (by omega), hl3, show k * 3 + 2 - k * 3 = 2 by omega]
      rfl
    rw [hset] at hu
    by_cases e : k * 3 + 2 = j
    · subst e
      rw [List.getElem?_set_self (by rw [fcells_len]; omega)] at hu
      rw [World.cell?_setCell_same _ _ _ (h6 _ _ c3)]
      exact hu
    · rw [List.getElem?_set_ne e] at hu
      rw [World.cell?_setCell_other _ _ _ _ (fun h => e (by injection h))]
      exact h6 j u hu
  · have hz : ∀ {x : Value} {zs : List Tm}, SlL (fun i => B ≤ i ∧ (Value.slice (some ⟨b, 0, none⟩) n c).ownBlock ≠ some i) w x zs → SlL (fun i => B ≤ i ∧ (Value.slice (some ⟨b, 0, none⟩) n c).ownBlock ≠ some i) (w.setCell ⟨b, k * 3 + 2, none⟩ s') x zs := fun hx => hx.carry fun i hi hh => ⟨Below.heap_setCell _ _ _ _ (fun e => hh.2 (by rw [e]; rfl)), hh⟩
    rcases List.mem_or_eq_of_mem_set hp with hp | hp
    · exact ⟨(h.sub p hp).1, hz (h.sub p hp).2⟩
    · subst hp
      exact ⟨(h.sub _ (List.mem_of_getElem? hk)).1, hz hs⟩

theorem map_set_tm {es : List FE} {k : Nat} {l : Bool} {t : ByteArray} {ys : List Tm} {s s' : Value} (hk : es[k]? = some (l, t, ys, s)) : (es.set k (l, t, ys, s')).map FE.tm = es.map FE.tm := by
  rw [List.map_set]
  have : (es.map FE.tm)[k]? = some (.mk l t ys) := by rw [List.getElem?_map, hk]; rfl
  obtain ⟨h, e⟩ := List.getElem?_eq_some_iff.1 this
  rw [show FE.tm (l, t, ys, s') = (es.map FE.tm)[k] from e.symm, List.set_getElem_self]

end Go.Proofs.YtojnagonhihknaaGreatDoor
