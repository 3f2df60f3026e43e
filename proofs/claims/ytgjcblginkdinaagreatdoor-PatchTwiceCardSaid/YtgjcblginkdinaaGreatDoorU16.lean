/- Lists of forms while they are made: the row of forms, and what each leads to. Patches in memory; the contracts of the checker's small functions. -/
import Derived.Test.YtgjcblginkdinaaGreatDoorU15
import Derived.Test.YtgjcblginkdinaaGreatDoorU2
set_option linter.unusedVariables false
namespace Go.Proofs.YtgjcblginkdinaaGreatDoor
open Go.ChangeShapes Go.WideShapes Go.ChangeAt Go.RowKit

theorem Tryz.infoForm : (Tryz.prog.info? 61).map (fun i => (i.zero, i.size, i.bytes)) = some (some (.agg #[.bool false, .string ByteArray.empty, .slice none 0 0]), 3, 48) := by kernel_rfl

abbrev FE := Bool × ByteArray × List Tm × Value
abbrev FE.tm (p : FE) : Tm := .mk p.1 p.2.1 p.2.2.1
def fcells (es : List FE) : List Value := es.flatMap fun p => [.bool p.1, .string p.2.1, p.2.2.2]
theorem fcells_app (es fs : List FE) : fcells (es ++ fs) = fcells es ++ fcells fs := by simp [fcells]
theorem fcells_one (p : FE) : fcells [p] = [.bool p.1, .string p.2.1, p.2.2.2] := by simp [fcells]
theorem fcells_len (es : List FE) : (fcells es).length = es.length * 3 := by
  induction es with
  | nil => rfl
  | cons p r ih => rw [show p :: r = [p] ++ r from rfl, fcells_app, List.length_append, ih, fcells_one]; simp; omega
theorem fcells_at {es : List FE} {j : Nat} {p : FE} (h : es[j]? = some p) : (fcells es)[j * 3]? = some (.bool p.1) ∧ (fcells es)[j * 3 + 1]? = some (.string p.2.1) ∧ (fcells es)[j * 3 + 2]? = some p.2.2.2 := by
  obtain ⟨hj, e⟩ := List.getElem?_eq_some_iff.1 h
  have e1 : es = es.take j ++ [p] ++ es.drop (j + 1) := by
    rw [List.append_assoc, List.singleton_append, ← e, List.getElem_cons_drop, List.take_append_drop]
  have hl : (fcells (es.take j)).length = j * 3 := by rw [fcells_len, List.length_take]; omega
  rw [e1, fcells_app, fcells_app, fcells_one]
  refine ⟨?_, ?_, ?_⟩ <;> rw [List.append_assoc, List.getElem?_append_right (by omega), hl, List.getElem?_append_left (by simp; try omega)]
  · simp
  · rw [show j * 3 + 1 - j * 3 = 1 by omega]; rfl
  · rw [show j * 3 + 2 - j * 3 = 2 by omega]; rfl

structure Made (B : Nat) (w : World) (v : Value) (es : List FE) : Prop where
  row : Row 3 B w v es.length (fcells es)
  sub : ∀ p ∈ es, p.2.1.size ≤ 140737488355328 ∧ SlL (fun i => B ≤ i ∧ v.ownBlock ≠ some i) w p.2.2.2 p.2.2.1

theorem Made.nil (B : Nat) (w : World) : Made B w (.slice none 0 0) [] := ⟨Row.nil _ _ _, by simp⟩
theorem Made.below {B : Nat} {w w' : World} {v : Value} {es : List FE} (h : Made B w v es) (hb : Below w.heap.size w w') : Made B w' v es :=
  ⟨h.row.below hb, fun p hp => ⟨(h.sub p hp).1, (h.sub p hp).2.keep hb⟩⟩
theorem Made.off {B : Nat} {Z : Nat → Prop} {w w' : World} {v : Value} {es : List FE} (h : Made B w v es) (ho : Off Z w w') (hz : ∀ i, Z i → i < B) : Made B w' v es :=
  ⟨h.row.off ho fun b hb hzb => by have := hz b hzb; have := (h.row.lt b hb).1; omega,
   fun p hp => ⟨(h.sub p hp).1, (h.sub p hp).2.off ho fun i hi hzi => by have := hz i hzi; have := hi.1; omega⟩⟩
theorem Made.sl {B : Nat} {Z : Nat → Prop} {w : World} {v : Value} {es : List FE} (h : Made B w v es) (hz : ∀ i, B ≤ i → Z i) : SlL Z w v (es.map FE.tm) := by
  by_cases e : es = []
  · subst e
    obtain ⟨a, c, hv, h1, h2⟩ := h.row.form'
    rw [hv]
    exact .nil a c h2
  · obtain ⟨b, cap, hv, h1, h2, h3, h4, h5, h6⟩ := h.row.pos (List.length_pos_iff.2 e)
    rw [hv]
    have := SlL.of_row (Z := Z) (w := w) (b := b) (o := 0) (c := cap) (xs := es.map FE.tm) ⟨hz b h1, h2, fun j l t ys hj => by
      rw [List.getElem?_map] at hj
      obtain ⟨p, hp, hpe⟩ := Option.map_eq_some_iff.1 hj
      obtain ⟨l', t', ys', s'⟩ := p
      injection hpe with e1 e2 e3
      dsimp only at e1 e2 e3
      subst e1; subst e2; subst e3
      obtain ⟨c1, c2, c3⟩ := fcells_at hp
      obtain ⟨g1, g2⟩ := h.sub _ (List.mem_of_getElem? hp)
      have g3 : SlL Z w s' ys' := g2.mono fun i _ hi => hz i hi.1
      obtain ⟨a', c', es', _, _⟩ := g3.form
      rw [Nat.zero_add]
      refine ⟨a', c', h6 _ _ c1, h6 _ _ c2, ?_, g1, ?_⟩
      · rw [← es']; exact h6 _ _ c3
      · rw [← es']; exact g3⟩ (by simpa using e) (by rw [List.length_map]; exact h3) h4
    rw [List.length_map] at this
    exact this

theorem Made.push {B : Nat} {w w' : World} {v v' : Value} {es : List FE} {l : Bool} {t : ByteArray} {ys : List Tm} {s : Value} (h : Made B w v es) (hs : SlL (fun i => B ≤ i ∧ v.ownBlock ≠ some i) w s ys) (ht : t.size ≤ 140737488355328)
    (hr : Row 3 B w' v' (es.length + 1) (fcells es ++ [.bool l, .string t, s])) (ho : Off (fun i => v.ownBlock = some i) w w') (hw : v'.ownBlock = v.ownBlock ∨ v'.ownBlock = some w.heap.size) : Made B w' v' (es ++ [(l, t, ys, s)]) := by
  have hz : ∀ {x : Value} {zs : List Tm}, SlL (fun i => B ≤ i ∧ v.ownBlock ≠ some i) w x zs → SlL (fun i => B ≤ i ∧ v'.ownBlock ≠ some i) w' x zs := fun hx => hx.carry fun i hi ⟨h1, h2⟩ => ⟨ho.block i hi h2, h1, by
    rcases hw with e | e
    · rw [e]; exact h2
    · rw [e]; intro e2; injection e2 with e2; omega⟩
  refine ⟨?_, fun p hp => ?_⟩
  · rw [List.length_append, fcells_app, fcells_one]; exact hr
  · rcases List.mem_append.1 hp with hp | hp
    · exact ⟨(h.sub p hp).1, hz (h.sub p hp).2⟩
    · rw [List.mem_singleton] at hp
      subst hp
      exact ⟨ht, hz hs⟩
end Go.Proofs.YtgjcblginkdinaaGreatDoor
set_option linter.unusedVariables false
namespace Go.Proofs.YtgjcblginkdinaaGreatDoor
open Go.ChangeShapes Go.WideShapes Go.ChangeAt Go.RowKit

abbrev rfV (r : Rf) : Value := .agg #[.int .i64 r.at_, .int .i64 r.n]
abbrev opV (x : Opp) (lv : Value) : Value := .agg #[.int .i64 x.kind, .int .i64 x.a.at_, .int .i64 x.a.n, .int .i64 x.b.at_, .int .i64 x.b.n, lv]
abbrev ptV (t : ByteArray) (dv ov : Value) : Value := .agg #[.string t, dv, ov]

def OCells (w : World) (b o : Nat) (xs : List Opp) : Prop :=
  b < w.heap.size ∧ ∀ j x, xs[j]? = some x → ∃ lv, w.cell? ⟨b, o + j * 6, none⟩ = some (.int .i64 x.kind) ∧ w.cell? ⟨b, o + j * 6 + 1, none⟩ = some (.int .i64 x.a.at_) ∧ w.cell? ⟨b, o + j * 6 + 2, none⟩ = some (.int .i64 x.a.n) ∧
    w.cell? ⟨b, o + j * 6 + 3, none⟩ = some (.int .i64 x.b.at_) ∧ w.cell? ⟨b, o + j * 6 + 4, none⟩ = some (.int .i64 x.b.n) ∧ w.cell? ⟨b, o + j * 6 + 5, none⟩ = some lv ∧ Reads w lv x.lines
def OReads (w : World) (v : Value) (xs : List Opp) : Prop :=
  (xs = [] ∧ ∃ a c, v = .slice a 0 c) ∨ (xs ≠ [] ∧ ∃ b o c, v = .slice (some ⟨b, o, none⟩) xs.length c ∧ xs.length ≤ c ∧ c ≤ 9223372036854775807 ∧ OCells w b o xs)
structure PReads (w : World) (t : ByteArray) (dv ov : Value) (p : Pt) : Prop where
  note : t = p.note
  deps : Reads w dv p.deps
  ops : OReads w ov p.ops

theorem OCells.below {w w' : World} {b o : Nat} {xs : List Opp} (h : OCells w b o xs) (hb : Below w.heap.size w w') : OCells w' b o xs := by
  refine ⟨Nat.lt_of_lt_of_le h.1 hb.size, fun j x hx => ?_⟩
  obtain ⟨lv, h0, h1, h2, h3, h4, h5, h6⟩ := h.2 j x hx
  have hc : ∀ k, w'.cell? ⟨b, k, none⟩ = w.cell? ⟨b, k, none⟩ := fun k => hb.cell (p := ⟨b, k, none⟩) h.1
  exact ⟨lv, (hc _).trans h0, (hc _).trans h1, (hc _).trans h2, (hc _).trans h3, (hc _).trans h4, (hc _).trans h5, h6.below hb⟩
theorem OReads.below {w w' : World} {v : Value} {xs : List Opp} (h : OReads w v xs) (hb : Below w.heap.size w w') : OReads w' v xs := by
  rcases h with h | ⟨hn, b, o, c, hv, hc, hm, hx⟩
  · exact .inl h
  · exact .inr ⟨hn, b, o, c, hv, hc, hm, hx.below hb⟩
theorem PReads.below {w w' : World} {t : ByteArray} {dv ov : Value} {p : Pt} (h : PReads w t dv ov p) (hb : Below w.heap.size w w') : PReads w' t dv ov p :=
  ⟨h.note, h.deps.below hb, h.ops.below hb⟩
theorem OReads.form {w : World} {v : Value} {xs : List Opp} (h : OReads w v xs) : ∃ a c, v = .slice a xs.length c ∧ xs.length ≤ 9223372036854775807 := by
  rcases h with ⟨rfl, a, c, rfl⟩ | ⟨hn, b, o, c, rfl, hc, hm, hx⟩
  · exact ⟨_, _, rfl, Nat.zero_le _⟩
  · exact ⟨_, _, rfl, by omega⟩
theorem Reads.form {w : World} {v : Value} {xs : Lb} (h : Reads w v xs) : ∃ a c, v = .slice a xs.length c ∧ xs.length ≤ 9223372036854775807 := by
  rcases h with ⟨rfl, a, c, rfl⟩ | ⟨hn, b, o, c, rfl, hc, hm, hx⟩
  · exact ⟨_, _, rfl, Nat.zero_le _⟩
  · exact ⟨_, _, rfl, by omega⟩
theorem OReads.at {w : World} {a : Option Addr} {n c : Nat} {xs : List Opp} (h : OReads w (.slice a n c) xs) {j : Nat} {x : Opp} (hx : xs[j]? = some x) : ∃ b o, a = some ⟨b, o, none⟩ ∧ n = xs.length ∧ OCells w b o xs := by
  rcases h with ⟨rfl, a', c', e⟩ | ⟨hn, b, o, c', e, hc, hm, hx'⟩
  · simp at hx
  · simp only [Value.slice.injEq] at e
    obtain ⟨rfl, rfl, rfl⟩ := e
    exact ⟨b, o, rfl, rfl, hx'⟩
theorem Reads.at {w : World} {a : Option Addr} {n c : Nat} {xs : Lb} (h : Reads w (.slice a n c) xs) {j : Nat} {x : ByteArray} (hx : xs[j]? = some x) : ∃ b o, a = some ⟨b, o, none⟩ ∧ n = xs.length ∧ Cells w b o xs := by
  rcases h with ⟨rfl, a', c', e⟩ | ⟨hn, b, o, c', e, hc, hm, hx'⟩
  · simp at hx
  · simp only [Value.slice.injEq] at e
    obtain ⟨rfl, rfl, rfl⟩ := e
    exact ⟨b, o, rfl, rfl, hx'⟩

structure Pt.fine (p : Pt) : Prop where
  wf : p.wf
  note : p.note.size ≤ 140737488355328
  deps : ∀ x ∈ p.deps, x.size ≤ 140737488355328
  ops : ∀ o ∈ p.ops, ∀ x ∈ o.lines, x.size ≤ 140737488355328

abbrev ckV (deps made : Nat) : Value := .agg #[.int .i64 (deps : Nat), .int .i64 (made : Nat)]

theorem eqI {a b : Int} (h : a = b) : (a == b) = true := by rw [h]; exact beq_self_eq_true b
theorem neI {a b : Int} (h : a ≠ b) : (a == b) = false := beq_eq_false_iff_ne.2 h

set_option maxHeartbeats 1000000 in
theorem pref_any (deps made : Nat) (r : Rf) (w : World) :
    Calls Tryz.prog 100 #[ckV deps made, rfV r] w fun e w' => e = .returned (.bool (refB deps made r)) ∧ Below w.heap.size w w' := by
  obtain ⟨x, y⟩ := r
  have hb2 : ∀ o1 o2, Below w.heap.size w ((w.alloc o1).alloc o2) := fun o1 o2 => ((Below.refl _ _).alloc (Nat.le_refl _) _).alloc (by simp) _
  have HB := Lib.hid hb2
  clear hb2
  by_cases h1 : x = -1
  · have hr : refB deps made ⟨x, y⟩ = (decide (y = 0) || decide (y = 1)) := by simp [refB, h1]
    rw [hr]
    subst h1
    clear hr
    go_enter Tryz.func100, Tryz.ntmps100
    go_wp2
    all_goals go_ret
    all_goals refine ⟨ret_bool ?_, HB.out _ _⟩
    all_goals (apply Bool.eq_iff_iff.2; simp; try omega)
  · have e1 := neI h1
    by_cases h2 : x = -2
    · have hr : refB deps made ⟨x, y⟩ = (decide (0 ≤ y) && decide (y < made)) := by simp [refB, h2]
      rw [hr]
      subst h2
      clear hr
      go_enter Tryz.func100, Tryz.ntmps100
      go_wp2
      all_goals go_ret
      all_goals refine ⟨ret_bool ?_, HB.out _ _⟩
      all_goals (apply Bool.eq_iff_iff.2; simp; try omega)
    · have e2 := neI h2
      have hr : refB deps made ⟨x, y⟩ = (decide (0 ≤ x) && decide (x < deps) && decide (0 ≤ y) && decide (y < 300)) := by simp [refB, h1, h2]
      rw [hr]
      clear hr
      go_enter Tryz.func100, Tryz.ntmps100
      go_wp2
      all_goals go_ret
      all_goals refine ⟨ret_bool ?_, HB.out _ _⟩
      all_goals (apply Bool.eq_iff_iff.2; simp; try omega)

theorem boxA1 {w wz : World} {x1 : Array Value} {t1 : TypeId} (h : Below (w.alloc (.cells x1 t1)).heap.size (w.alloc (.cells x1 t1)) wz) :
    (∀ j, wz.cell? ⟨w.heap.size, j, none⟩ = x1[j]?) ∧ Below w.heap.size w wz ∧ w.heap.size + 1 ≤ wz.heap.size := by
  have hs : (w.alloc (.cells x1 t1)).heap.size = w.heap.size + 1 := by simp
  refine ⟨fun j => (h.cell (p := ⟨w.heap.size, j, none⟩) (by rw [hs]; exact Nat.lt_succ_self _)).trans (World.cell?_alloc_at _ _ _ _ rfl), ((Below.refl _ _).alloc (Nat.le_refl _) _).trans (h.mono (by omega)), by have := h.size; omega⟩
theorem boxA2 {w wz : World} {x1 x2 : Array Value} {t1 t2 : TypeId} (h : Below ((w.alloc (.cells x1 t1)).alloc (.cells x2 t2)).heap.size ((w.alloc (.cells x1 t1)).alloc (.cells x2 t2)) wz) :
    (∀ j, wz.cell? ⟨w.heap.size, j, none⟩ = x1[j]?) ∧ (∀ j, wz.cell? ⟨w.heap.size + 1, j, none⟩ = x2[j]?) ∧ Below w.heap.size w wz ∧ w.heap.size + 2 ≤ wz.heap.size := by
  obtain ⟨h2, h1, h3⟩ := boxA1 h
  have hs : (w.alloc (.cells x1 t1)).heap.size = w.heap.size + 1 := by simp
  rw [hs] at h1 h2 h3
  obtain ⟨k1, k2, _⟩ := boxA1 (by rw [hs]; exact h1)
  exact ⟨k1, h2, k2, h3⟩
theorem boxA3 {w wz : World} {x1 x2 x3 : Array Value} {t1 t2 t3 : TypeId} (h : Below (((w.alloc (.cells x1 t1)).alloc (.cells x2 t2)).alloc (.cells x3 t3)).heap.size (((w.alloc (.cells x1 t1)).alloc (.cells x2 t2)).alloc (.cells x3 t3)) wz) :
    (∀ j, wz.cell? ⟨w.heap.size, j, none⟩ = x1[j]?) ∧ (∀ j, wz.cell? ⟨w.heap.size + 1, j, none⟩ = x2[j]?) ∧ (∀ j, wz.cell? ⟨w.heap.size + 2, j, none⟩ = x3[j]?) ∧ Below w.heap.size w wz ∧ w.heap.size + 3 ≤ wz.heap.size := by
  obtain ⟨h2, h1, h3⟩ := boxA1 h
  have hs : ((w.alloc (.cells x1 t1)).alloc (.cells x2 t2)).heap.size = w.heap.size + 2 := by simp
  rw [hs] at h1 h2 h3
  obtain ⟨k1, k2, k3, _⟩ := boxA2 (by rw [hs]; exact h1)
  exact ⟨k1, k2, h2, k3, h3⟩

set_option maxHeartbeats 2000000 in
theorem pbetween_any (deps made : Nat) (r s : Rf) (w : World) :
    Calls Tryz.prog 99 #[ckV deps made, rfV r, rfV s] w fun e w' => e = .returned (.bool (betwB deps made r s)) ∧ Below w.heap.size w w' := by
  have c1 := fun wz => pref_any deps made r wz
  have c2 := fun wz => pref_any deps made s wz
  obtain ⟨ra, hra⟩ : ∃ b, b = refB deps made r := ⟨_, rfl⟩
  obtain ⟨rb, hrb⟩ : ∃ b, b = refB deps made s := ⟨_, rfl⟩
  have hbw : betwB deps made r s = (ra && rb && decide (r ≠ s) && decide (r ≠ ⟨-1, 1⟩) && decide (s ≠ ⟨-1, 0⟩)) := by rw [hra, hrb]; rfl
  rw [← hra] at c1
  rw [← hrb] at c2
  rw [hbw]
  clear hra hrb hbw
  obtain ⟨x, y⟩ := r
  obtain ⟨u, v⟩ := s
  have C1 := Lib.hid c1
  have C2 := Lib.hid c2
  clear c1 c2
  go_enter Tryz.func99, Tryz.ntmps99
  go_wp2_with fail
  refine (C1.out _).mono ?_
  rintro e w1 ⟨rfl, hb1⟩
  obtain ⟨k1, k2, k3, kb, ks⟩ := boxA3 hb1
  have k10 := (k1 0).trans rfl
  have k11 := (k1 1).trans rfl
  have k20 := (k2 0).trans rfl
  have k21 := (k2 1).trans rfl
  have k30 := (k3 0).trans rfl
  have k31 := (k3 1).trans rfl
  have KB := Lib.hid kb
  have KS := Lib.hid ks
  clear hb1 k1 k2 k3 kb ks
  cases ra with
  | false =>
    go_wp2_with fail
    go_ret
    exact ⟨rfl, KB.out⟩
  | true =>
    go_wp2_with fail
    refine (C2.out _).mono ?_
    rintro e w2 ⟨rfl, hb2⟩
    have q : ∀ i j, i < w.heap.size + 3 → w2.cell? ⟨i, j, none⟩ = w1.cell? ⟨i, j, none⟩ := fun i j hi => hb2.cell (p := ⟨i, j, none⟩) (by have := KS.out; show i < _; omega)
    have g20 := (q _ _ (by omega)).trans k20
    have g21 := (q _ _ (by omega)).trans k21
    have g30 := (q _ _ (by omega)).trans k30
    have g31 := (q _ _ (by omega)).trans k31
    have KB2 := Lib.hid (KB.out.trans (hb2.mono (by have := KS.out; omega)))
    clear q hb2 k10 k11 k20 k21 k30 k31
    cases rb with
    | false =>
      go_wp2_with fail
      go_ret
      exact ⟨rfl, KB2.out⟩
    | true =>
      go_wp2_with fail
      all_goals go_ret
      all_goals refine ⟨ret_bool ?_, KB2.out⟩
      all_goals (apply Bool.eq_iff_iff.2; simp; try omega)
      all_goals trace_state
end Go.Proofs.YtgjcblginkdinaaGreatDoor
