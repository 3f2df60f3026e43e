/- The contracts of Text: the program's and the document's. What reading and writing share. Lists of forms while they are made: the row of forms, and what each leads to. What reading and making share. -/
import Derived.Test.YthamfbfeokmhgaaGreatDoorU2
import Derived.Test.YthamfbfeokmhgaaGreatDoorU4
import Derived.Test.YthamfbfeokmhgaaGreatDoorU5
set_option linter.unusedVariables false
namespace Go.Proofs.YthamfbfeokmhgaaGreatDoor
open Go.ChangeShapes Go.WideShapes Go.ChangeAt Go.RowKit

theorem text_any (s : ByteArray) (w : World) :
    Calls Tryz.prog 51 #[.string s] w fun e w' => e = .returned (fv false s (.slice none 0 0)) ∧ Below w.heap.size w w' := by
  go_enter Tryz.func51, Tryz.ntmps51
  go_wp2_with fail
  exact bodyPost_ret (v := fv false s (.slice none 0 0)) (by simp [results, Tryz.results51, go_sem]) rfl ⟨rfl, (Below.refl _ _).alloc (Nat.le_refl _) _⟩
end Go.Proofs.YthamfbfeokmhgaaGreatDoor
set_option linter.unusedVariables false
namespace Go.Proofs.YthamfbfeokmhgaaGreatDoor
open Go.ChangeShapes Go.WideShapes Go.ChangeAt Go.RowKit

abbrev fz : Value := .agg #[.bool false, .string ⟨#[]⟩, .slice none 0 0]
theorem cells3_off {Z : Nat → Prop} {w wr : World} {x1 x2 x3 : Value} {ty : TypeId} (h : Off Z (w.alloc (.cells #[x1, x2, x3] ty)) wr) (hz : ¬ Z w.heap.size) :
    (wr.cell? ⟨w.heap.size, 0, none⟩ = some x1 ∧ wr.cell? ⟨w.heap.size, 1, none⟩ = some x2 ∧ wr.cell? ⟨w.heap.size, 2, none⟩ = some x3) ∧ (∀ j, wr.frozen? ⟨w.heap.size, j, none⟩ = false) ∧ w.heap.size < wr.heap.size := by
  have hlt : w.heap.size < (w.alloc (.cells #[x1, x2, x3] ty)).heap.size := by show _ < (w.heap.push _).size; simp
  have hc : ∀ j, wr.cell? ⟨w.heap.size, j, none⟩ = #[x1, x2, x3][j]? := fun j => (h.cell (p := ⟨w.heap.size, j, none⟩) hlt hz).trans (World.cell?_alloc_at _ _ _ _ rfl)
  exact ⟨⟨hc 0, hc 1, hc 2⟩, fun j => (h.frozen (p := ⟨w.heap.size, j, none⟩) hlt hz).trans (World.frozen?_alloc_at _ _ _ _ rfl), Nat.lt_of_lt_of_le hlt h.size⟩
theorem extract_list (s : ByteArray) (a b : Nat) : (s.extract a b).data.toList = (s.data.toList.drop a).take (b - a) := by
  rw [ByteArray.data_extract, Array.toList_extract, List.extract_eq_take_drop]
end Go.Proofs.YthamfbfeokmhgaaGreatDoor
set_option linter.unusedVariables false
namespace Go.Proofs.YthamfbfeokmhgaaGreatDoor
open Go.ChangeShapes Go.WideShapes Go.ChangeAt Go.RowKit

theorem Tryz.infoForm : (Tryz.prog.info? 101).map (fun i => (i.zero, i.size, i.bytes)) = some (some (.agg #[.bool false, .string ByteArray.empty, .slice none 0 0]), 3, 48) := by kernel_rfl

abbrev FE := Bool × ByteArray × List Tm × Value
abbrev FE.tm (p : FE) : Tm := .mk p.1 p.2.1 p.2.2.1
def fcells (es : List FE) : List Value := es.flatMap fun p => [.bool p.1, .string p.2.1, p.2.2.2]
theorem fcells_app (es fs : List FE) : fcells (es ++ fs) = fcells es ++ fcells fs := by simp [fcells]
theorem fcells_one (p : FE) : fcells [p] = [.bool p.1, .string p.2.1, p.2.2.2] := by simp [fcells]
theorem fcells_len (es : List FE) : (fcells es).length = es.length * 3 := by
  induction es with
  | nil => rfl
  | cons p r ih => rw [show p :: r = [p] ++ r from rfl, fcells_app, List.length_append, ih, fcells_one]; simp; omega
theorem fcells_at {es : List FE} {j : Nat} {p : FE} (h : es[j]? = some p) : (fcells es)[j * 3]? = some (.bool p.1) ∧ (fcells es)[j * 3 + 1]? = some (.string p.2.1) ∧ (fcells es)[j * 3 + 2]? = some p.2.2.2 := by
  obtain ⟨hj, e⟩ := List.getElem?_eq_some_iff.1 h
  have e1 : es = es.take j ++ [p] ++ es.drop (j + 1) := by
    rw [List.append_assoc, List.singleton_append, ← e, List.getElem_cons_drop, List.take_append_drop]
  have hl : (fcells (es.take j)).length = j * 3 := by rw [fcells_len, List.length_take]; omega
  rw [e1, fcells_app, fcells_app, fcells_one]
  refine ⟨?_, ?_, ?_⟩ <;> rw [List.append_assoc, List.getElem?_append_right (by omega), hl, List.getElem?_append_left (by simp; try omega)]
  · simp
  · rw [show j * 3 + 1 - j * 3 = 1 by omega]; rfl
  · rw [show j * 3 + 2 - j * 3 = 2 by omega]; rfl

structure Made (B : Nat) (w : World) (v : Value) (es : List FE) : Prop where
  row : Row 3 B w v es.length (fcells es)
  sub : ∀ p ∈ es, p.2.1.size ≤ 140737488355328 ∧ SlL (fun i => B ≤ i ∧ v.ownBlock ≠ some i) w p.2.2.2 p.2.2.1

theorem Made.nil (B : Nat) (w : World) : Made B w (.slice none 0 0) [] := ⟨Row.nil _ _ _, by simp⟩
theorem Made.below {B : Nat} {w w' : World} {v : Value} {es : List FE} (h : Made B w v es) (hb : Below w.heap.size w w') : Made B w' v es :=
  ⟨h.row.below hb, fun p hp => ⟨(h.sub p hp).1, (h.sub p hp).2.keep hb⟩⟩
theorem Made.off {B : Nat} {Z : Nat → Prop} {w w' : World} {v : Value} {es : List FE} (h : Made B w v es) (ho : Off Z w w') (hz : ∀ i, Z i → i < B) : Made B w' v es :=
  ⟨h.row.off ho fun b hb hzb => by have := hz b hzb; have := (h.row.lt b hb).1; omega,
   fun p hp => ⟨(h.sub p hp).1, (h.sub p hp).2.off ho fun i hi hzi => by have := hz i hzi; have := hi.1; omega⟩⟩
theorem Made.sl {B : Nat} {Z : Nat → Prop} {w : World} {v : Value} {es : List FE} (h : Made B w v es) (hz : ∀ i, B ≤ i → Z i) : SlL Z w v (es.map FE.tm) := by
  by_cases e : es = []
  · subst e
    obtain ⟨a, c, hv, h1, h2⟩ := h.row.form'
    rw [hv]
    exact .nil a c h2
  · obtain ⟨b, cap, hv, h1, h2, h3, h4, h5, h6⟩ := h.row.pos (List.length_pos_iff.2 e)
    rw [hv]
    have := SlL.of_row (Z := Z) (w := w) (b := b) (o := 0) (c := cap) (xs := es.map FE.tm) ⟨hz b h1, h2, fun j l t ys hj => by
      rw [List.getElem?_map] at hj
      obtain ⟨p, hp, hpe⟩ := Option.map_eq_some_iff.1 hj
      obtain ⟨l', t', ys', s'⟩ := p
      injection hpe with e1 e2 e3
      dsimp only at e1 e2 e3
      subst e1; subst e2; subst e3
      obtain ⟨c1, c2, c3⟩ := fcells_at hp
      obtain ⟨g1, g2⟩ := h.sub _ (List.mem_of_getElem? hp)
      have g3 : SlL Z w s' ys' := g2.mono fun i _ hi => hz i hi.1
      obtain ⟨a', c', es', _, _⟩ := g3.form
      rw [Nat.zero_add]
      refine ⟨a', c', h6 _ _ c1, h6 _ _ c2, ?_, g1, ?_⟩
      · rw [← es']; exact h6 _ _ c3
      · rw [← es']; exact g3⟩ (by simpa using e) (by rw [List.length_map]; exact h3) h4
    rw [List.length_map] at this
    exact this

theorem Made.push {B : Nat} {w w' : World} {v v' : Value} {es : List FE} {l : Bool} {t : ByteArray} {ys : List Tm} {s : Value} (h : Made B w v es) (hs : SlL (fun i => B ≤ i ∧ v.ownBlock ≠ some i) w s ys) (ht : t.size ≤ 140737488355328)
    (hr : Row 3 B w' v' (es.length + 1) (fcells es ++ [.bool l, .string t, s])) (ho : Off (fun i => v.ownBlock = some i) w w') (hw : v'.ownBlock = v.ownBlock ∨ v'.ownBlock = some w.heap.size) : Made B w' v' (es ++ [(l, t, ys, s)]) := by
  have hz : ∀ {x : Value} {zs : List Tm}, SlL (fun i => B ≤ i ∧ v.ownBlock ≠ some i) w x zs → SlL (fun i => B ≤ i ∧ v'.ownBlock ≠ some i) w' x zs := fun hx => hx.carry fun i hi ⟨h1, h2⟩ => ⟨ho.block i hi h2, h1, by
    rcases hw with e | e
    · rw [e]; exact h2
    · rw [e]; intro e2; injection e2 with e2; omega⟩
  refine ⟨?_, fun p hp => ?_⟩
  · rw [List.length_append, fcells_app, fcells_one]; exact hr
  · rcases List.mem_append.1 hp with hp | hp
    · exact ⟨(h.sub p hp).1, hz (h.sub p hp).2⟩
    · rw [List.mem_singleton] at hp
      subst hp
      exact ⟨ht, hz hs⟩
end Go.Proofs.YthamfbfeokmhgaaGreatDoor
set_option linter.unusedVariables false
namespace Go.Proofs.YthamfbfeokmhgaaGreatDoor
open Go.ChangeShapes Go.WideShapes Go.ChangeAt Go.RowKit

abbrev errV (k : Int) : Value := .iface 55 (.int .i64 k)
theorem two_off {w wr : World} {x1 x2 x3 : Value} {o : Obj} {ty : TypeId} (h : Off (· = w.heap.size + 1) ((w.alloc (.cells #[x1, x2, x3] ty)).alloc o) wr) :
    (wr.cell? ⟨w.heap.size, 0, none⟩ = some x1 ∧ wr.cell? ⟨w.heap.size, 1, none⟩ = some x2 ∧ wr.cell? ⟨w.heap.size, 2, none⟩ = some x3) ∧ (∀ j, wr.frozen? ⟨w.heap.size, j, none⟩ = false) ∧ w.heap.size + 1 < wr.heap.size ∧ Below w.heap.size w wr := by
  have hlt : w.heap.size < ((w.alloc (.cells #[x1, x2, x3] ty)).alloc o).heap.size := by simp; omega
  have hb : ((w.alloc (.cells #[x1, x2, x3] ty)).alloc o).heap[w.heap.size]? = (w.alloc (.cells #[x1, x2, x3] ty)).heap[w.heap.size]? := Below.heap_alloc _ _ _ (by simp)
  have hc : ∀ j, wr.cell? ⟨w.heap.size, j, none⟩ = #[x1, x2, x3][j]? := fun j => (h.cell (p := ⟨w.heap.size, j, none⟩) hlt (by show ¬ w.heap.size = _; omega)).trans ((World.cell?_of_block (a := ⟨w.heap.size, j, none⟩) hb).trans (World.cell?_alloc_at _ _ _ _ rfl))
  refine ⟨⟨hc 0, hc 1, hc 2⟩, fun j => (h.frozen (p := ⟨w.heap.size, j, none⟩) hlt (by show ¬ w.heap.size = _; omega)).trans ((World.frozen?_of_block (a := ⟨w.heap.size, j, none⟩) hb).trans (World.frozen?_alloc_at _ _ _ _ rfl)), Nat.lt_of_lt_of_le (by simp) h.size, ?_⟩
  exact (((Below.refl _ _).alloc (Nat.le_refl _) _).alloc (by simp) _).trans (h.below (fun i hi => by omega) (by simp; omega))
theorem set3_below {w w3 : World} (h : Below w.heap.size w w3) (u0 u1 u2 : Value) : Below w.heap.size w (((w3.setCell ⟨w.heap.size, 0, none⟩ u0).setCell ⟨w.heap.size, 1, none⟩ u1).setCell ⟨w.heap.size, 2, none⟩ u2) :=
  ((h.setCell (p := ⟨w.heap.size, 0, none⟩) (Nat.le_refl _) _).setCell (p := ⟨w.heap.size, 1, none⟩) (Nat.le_refl _) _).setCell (p := ⟨w.heap.size, 2, none⟩) (Nat.le_refl _) _
end Go.Proofs.YthamfbfeokmhgaaGreatDoor
