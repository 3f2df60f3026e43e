/- Lists of forms while they are made: the row of forms, and what each leads to. Patches in memory; the contracts of the checker's small functions. An argument that is a patch, opened. -/
import Derived.Deep.Slices
import Derived.Deep.Fields
import Derived.Test.YtgjcblginkdinaaGreatDoorV0
import Derived.Test.YtgjcblginkdinaaGreatDoorV16
import Derived.Test.YtgjcblginkdinaaGreatDoorV3
import Derived.Test.YtgjcblginkdinaaGreatDoorV4
set_option linter.unusedVariables false
namespace Go.Proofs.YtgjcblginkdinaaGreatDoor
open Go.ChangeShapes Go.WideShapes Go.ChangeAt Go.RowKit

theorem Tryz.infoForm : (Tryz.prog.info? 61).map (fun i => (i.zero, i.size, i.bytes)) = some (some (.agg #[.bool false, .string ByteArray.empty, .slice none 0 0]), 3, 48) := by kernel_rfl

abbrev FE := Bool × ByteArray × List Tm × Value
abbrev FE.tm (p : FE) : Tm := .mk p.1 p.2.1 p.2.2.1
def fcells (es : List FE) : List Value := es.flatMap fun p => [.bool p.1, .string p.2.1, p.2.2.2]
theorem fcells_app (es fs : List FE) : fcells (es ++ fs) = fcells es ++ fcells fs := by simp [fcells]
theorem fcells_one (p : FE) : fcells [p] = [.bool p.1, .string p.2.1, p.2.2.2] := by simp [fcells]
theorem fcells_len (es : List FE) : (fcells es).length = es.length * 3 := by
  induction es with
  | nil => rfl
  | cons p r ih => rw [show p :: r = [p] ++ r from rfl, fcells_app, List.length_append, ih, fcells_one]; simp; omega
theorem fcells_at {es : List FE} {j : Nat} {p : FE} (h : es[j]? = some p) : (fcells es)[j * 3]? = some (.bool p.1) ∧ (fcells es)[j * 3 + 1]? = some (.string p.2.1) ∧ (fcells es)[j * 3 + 2]? = some p.2.2.2 := by
  obtain ⟨hj, e⟩ := List.getElem?_eq_some_iff.1 h
  have e1 : es = es.take j ++ [p] ++ es.drop (j + 1) := by
    rw [List.append_assoc, List.singleton_append, ← e, List.getElem_cons_drop, List.take_append_drop]
  have hl : (fcells (es.take j)).length = j * 3 := by rw [fcells_len, List.length_take]; omega
  rw [e1, fcells_app, fcells_app, fcells_one]
  refine ⟨?_, ?_, ?_⟩ <;> rw [List.append_assoc, List.getElem?_append_right (by omega), hl, List.getElem?_append_left (by simp; try omega)]
  · simp
  · rw [show j * 3 + 1 - j * 3 = 1 by omega]; rfl
  · rw [show j * 3 + 2 - j * 3 = 2 by omega]; rfl

structure Made (B : Nat) (w : World) (v : Value) (es : List FE) : Prop where
  row : Row 3 B w v es.length (fcells es)
  sub : ∀ p ∈ es, p.2.1.size ≤ 140737488355328 ∧ SlL (fun i => B ≤ i ∧ v.ownBlock ≠ some i) w p.2.2.2 p.2.2.1

theorem Made.nil (B : Nat) (w : World) : Made B w (.slice none 0 0) [] := ⟨Row.nil _ _ _, by simp⟩
theorem Made.below {B : Nat} {w w' : World} {v : Value} {es : List FE} (h : Made B w v es) (hb : Below w.heap.size w w') : Made B w' v es :=
  ⟨h.row.below hb, fun p hp => ⟨(h.sub p hp).1, (h.sub p hp).2.keep hb⟩⟩
theorem Made.off {B : Nat} {Z : Nat → Prop} {w w' : World} {v : Value} {es : List FE} (h : Made B w v es) (ho : Off Z w w') (hz : ∀ i, Z i → i < B) : Made B w' v es :=
  ⟨h.row.off ho fun b hb hzb => by have := hz b hzb; have := (h.row.lt b hb).1; omega,
   fun p hp => ⟨(h.sub p hp).1, (h.sub p hp).2.off ho fun i hi hzi => by have := hz i hzi; have := hi.1; omega⟩⟩
theorem Made.sl {B : Nat} {Z : Nat → Prop} {w : World} {v : Value} {es : List FE} (h : Made B w v es) (hz : ∀ i, B ≤ i → Z i) : SlL Z w v (es.map FE.tm) := by
  by_cases e : es = []
  · subst e
    obtain ⟨a, c, hv, h1, h2⟩ := h.row.form'
    rw [hv]
    exact .nil a c h2
  · obtain ⟨b, cap, hv, h1, h2, h3, h4, h5, h6⟩ := h.row.pos (List.length_pos_iff.2 e)
    rw [hv]
    have := SlL.of_row (Z := Z) (w := w) (b := b) (o := 0) (c := cap) (xs := es.map FE.tm) ⟨hz b h1, h2, fun j l t ys hj => by
      rw [List.getElem?_map] at hj
      obtain ⟨p, hp, hpe⟩ := Option.map_eq_some_iff.1 hj
      obtain ⟨l', t', ys', s'⟩ := p
      injection hpe with e1 e2 e3
      dsimp only at e1 e2 e3
      subst e1; subst e2; subst e3
      obtain ⟨c1, c2, c3⟩ := fcells_at hp
      obtain ⟨g1, g2⟩ := h.sub _ (List.mem_of_getElem? hp)
      have g3 : SlL Z w s' ys' := g2.mono fun i _ hi => hz i hi.1
      obtain ⟨a', c', es', _, _⟩ := g3.form
      rw [Nat.zero_add]
      refine ⟨a', c', h6 _ _ c1, h6 _ _ c2, ?_, g1, ?_⟩
      · rw [← es']; exact h6 _ _ c3
      · rw [← es']; exact g3⟩ (by simpa using e) (by rw [List.length_map]; exact h3) h4
    rw [List.length_map] at this
    exact this

theorem Made.push {B : Nat} {w w' : World} {v v' : Value} {es : List FE} {l : Bool} {t : ByteArray} {ys : List Tm} {s : Value} (h : Made B w v es) (hs : SlL (fun i => B ≤ i ∧ v.ownBlock ≠ some i) w s ys) (ht : t.size ≤ 140737488355328)
    (hr : Row 3 B w' v' (es.length + 1) (fcells es ++ [.bool l, .string t, s])) (ho : Off (fun i => v.ownBlock = some i) w w') (hw : v'.ownBlock = v.ownBlock ∨ v'.ownBlock = some w.heap.size) : Made B w' v' (es ++ [(l, t, ys, s)]) := by
  have hz : ∀ {x : Value} {zs : List Tm}, SlL (fun i => B ≤ i ∧ v.ownBlock ≠ some i) w x zs → SlL (fun i => B ≤ i ∧ v'.ownBlock ≠ some i) w' x zs := fun hx => hx.carry fun i hi ⟨h1, h2⟩ => ⟨ho.block i hi h2, h1, by
    rcases hw with e | e
    · rw [e]; exact h2
    · rw [e]; intro e2; injection e2 with e2; omega⟩
  refine ⟨?_, fun p hp => ?_⟩
  · rw [List.length_append, fcells_app, fcells_one]; exact hr
  · rcases List.mem_append.1 hp with hp | hp
    · exact ⟨(h.sub p hp).1, hz (h.sub p hp).2⟩
    · rw [List.mem_singleton] at hp
      subst hp
      exact ⟨ht, hz hs⟩
end Go.Proofs.YtgjcblginkdinaaGreatDoor
set_option linter.unusedVariables false
namespace Go.Proofs.YtgjcblginkdinaaGreatDoor
open Go.ChangeShapes Go.WideShapes Go.ChangeAt Go.RowKit

abbrev rfV (r : Rf) : Value := .agg #[.int .i64 r.at_, .int .i64 r.n]
abbrev opV (x : Opp) (lv : Value) : Value := .agg #[.int .i64 x.kind, .int .i64 x.a.at_, .int .i64 x.a.n, .int .i64 x.b.at_, .int .i64 x.b.n, lv]
abbrev ptV (t : ByteArray) (dv ov : Value) : Value := .agg #[.string t, dv, ov]

def OCells (w : World) (b o : Nat) (xs : List Opp) : Prop :=
  b < w.heap.size ∧ ∀ j x, xs[j]? = some x → ∃ lv, w.cell? ⟨b, o + j * 6, none⟩ = some (.int .i64 x.kind) ∧ w.cell? ⟨b, o + j * 6 + 1, none⟩ = some (.int .i64 x.a.at_) ∧ w.cell? ⟨b, o + j * 6 + 2, none⟩ = some (.int .i64 x.a.n) ∧
    w.cell? ⟨b, o + j * 6 + 3, none⟩ = some (.int .i64 x.b.at_) ∧ w.cell? ⟨b, o + j * 6 + 4, none⟩ = some (.int .i64 x.b.n) ∧ w.cell? ⟨b, o + j * 6 + 5, none⟩ = some lv ∧ Reads w lv x.lines
def OReads (w : World) (v : Value) (xs : List Opp) : Prop :=
  (xs = [] ∧ ∃ a c, v = .slice a 0 c) ∨ (xs ≠ [] ∧ ∃ b o c, v = .slice (some ⟨b, o, none⟩) xs.length c ∧ xs.length ≤ c ∧ c ≤ 9223372036854775807 ∧ OCells w b o xs)
structure PReads (w : World) (t : ByteArray) (dv ov : Value) (p : Pt) : Prop where
  note : t = p.note
  deps : Reads w dv p.deps
  ops : OReads w ov p.ops

theorem OCells.below {w w' : World} {b o : Nat} {xs : List Opp} (h : OCells w b o xs) (hb : Below w.heap.size w w') : OCells w' b o xs := by
  refine ⟨Nat.lt_of_lt_of_le h.1 hb.size, fun j x hx => ?_⟩
  obtain ⟨lv, h0, h1, h2, h3, h4, h5, h6⟩ := h.2 j x hx
  have hc : ∀ k, w'.cell? ⟨b, k, none⟩ = w.cell? ⟨b, k, none⟩ := fun k => hb.cell (p := ⟨b, k, none⟩) h.1
  exact ⟨lv, (hc _).trans h0, (hc _).trans h1, (hc _).trans h2, (hc _).trans h3, (hc _).trans h4, (hc _).trans h5, h6.below hb⟩
theorem OReads.below {w w' : World} {v : Value} {xs : List Opp} (h : OReads w v xs) (hb : Below w.heap.size w w') : OReads w' v xs := by
  rcases h with h | ⟨hn, b, o, c, hv, hc, hm, hx⟩
  · exact .inl h
  · exact .inr ⟨hn, b, o, c, hv, hc, hm, hx.below hb⟩
theorem PReads.below {w w' : World} {t : ByteArray} {dv ov : Value} {p : Pt} (h : PReads w t dv ov p) (hb : Below w.heap.size w w') : PReads w' t dv ov p :=
  ⟨h.note, h.deps.below hb, h.ops.below hb⟩
theorem OReads.form {w : World} {v : Value} {xs : List Opp} (h : OReads w v xs) : ∃ a c, v = .slice a xs.length c ∧ xs.length ≤ 9223372036854775807 := by
  rcases h with ⟨rfl, a, c, rfl⟩ | ⟨hn, b, o, c, rfl, hc, hm, hx⟩
  · exact ⟨_, _, rfl, Nat.zero_le _⟩
  · exact ⟨_, _, rfl, by omega⟩
theorem Reads.form {w : World} {v : Value} {xs : Lb} (h : Reads w v xs) : ∃ a c, v = .slice a xs.length c ∧ xs.length ≤ 9223372036854775807 := by
  rcases h with ⟨rfl, a, c, rfl⟩ | ⟨hn, b, o, c, rfl, hc, hm, hx⟩
  · exact ⟨_, _, rfl, Nat.zero_le _⟩
  · exact ⟨_, _, rfl, by omega⟩
theorem OReads.at {w : World} {a : Option Addr} {n c : Nat} {xs : List Opp} (h : OReads w (.slice a n c) xs) {j : Nat} {x : Opp} (hx : xs[j]? = some x) : ∃ b o, a = some ⟨b, o, none⟩ ∧ n = xs.length ∧ OCells w b o xs := by
  rcases h with ⟨rfl, a', c', e⟩ | ⟨hn, b, o, c', e, hc, hm, hx'⟩
  · simp at hx
  · simp only [Value.slice.injEq] at e
    obtain ⟨rfl, rfl, rfl⟩ := e
    exact ⟨b, o, rfl, rfl, hx'⟩
theorem Reads.at {w : World} {a : Option Addr} {n c : Nat} {xs : Lb} (h : Reads w (.slice a n c) xs) {j : Nat} {x : ByteArray} (hx : xs[j]? = some x) : ∃ b o, a = some ⟨b, o, none⟩ ∧ n = xs.length ∧ Cells w b o xs := by
  rcases h with ⟨rfl, a', c', e⟩ | ⟨hn, b, o, c', e, hc, hm, hx'⟩
  · simp at hx
  · simp only [Value.slice.injEq] at e
    obtain ⟨rfl, rfl, rfl⟩ := e
    exact ⟨b, o, rfl, rfl, hx'⟩

structure Pt.fine (p : Pt) : Prop where
  wf : p.wf
  note : p.note.size ≤ 140737488355328
  deps : ∀ x ∈ p.deps, x.size ≤ 140737488355328
  ops : ∀ o ∈ p.ops, ∀ x ∈ o.lines, x.size ≤ 140737488355328

abbrev ckV (deps made : Nat) : Value := .agg #[.int .i64 (deps : Nat), .int .i64 (made : Nat)]

theorem eqI {a b : Int} (h : a = b) : (a == b) = true := by rw [h]; exact beq_self_eq_true b
theorem neI {a b : Int} (h : a ≠ b) : (a == b) = false := beq_eq_false_iff_ne.2 h

set_option maxHeartbeats 1000000 in
theorem pref_any (deps made : Nat) (r : Rf) (w : World) :
    Calls Tryz.prog 100 #[ckV deps made, rfV r] w fun e w' => e = .returned (.bool (refB deps made r)) ∧ Below w.heap.size w w' := by
  obtain ⟨x, y⟩ := r
  have hb2 : ∀ o1 o2, Below w.heap.size w ((w.alloc o1).alloc o2) := fun o1 o2 => ((Below.refl _ _).alloc (Nat.le_refl _) _).alloc (by simp) _
  have HB := Lib.hid hb2
  clear hb2
  by_cases h1 : x = -1
  · have hr : refB deps made ⟨x, y⟩ = (decide (y = 0) || decide (y = 1)) := by simp [refB, h1]
    rw [hr]
    subst h1
    clear hr
    go_enter Tryz.func100, Tryz.ntmps100
    go_wp2
    all_goals go_ret
    all_goals refine ⟨ret_bool ?_, HB.out _ _⟩
    all_goals (apply Bool.eq_iff_iff.2; simp; try omega)
  · have e1 := neI h1
    by_cases h2 : x = -2
    · have hr : refB deps made ⟨x, y⟩ = (decide (0 ≤ y) && decide (y < made)) := by simp [refB, h2]
      rw [hr]
      subst h2
      clear hr
      go_enter Tryz.func100, Tryz.ntmps100
      go_wp2
      all_goals go_ret
      all_goals refine ⟨ret_bool ?_, HB.out _ _⟩
      all_goals (apply Bool.eq_iff_iff.2; simp; try omega)
    · have e2 := neI h2
      have hr : refB deps made ⟨x, y⟩ = (decide (0 ≤ x) && decide (x < deps) && decide (0 ≤ y) && decide (y < 300)) := by simp [refB, h1, h2]
      rw [hr]
      clear hr
      go_enter Tryz.func100, Tryz.ntmps100
      go_wp2
      all_goals go_ret
      all_goals refine ⟨ret_bool ?_, HB.out _ _⟩
      all_goals (apply Bool.eq_iff_iff.2; simp; try omega)

theorem boxA1 {w wz : World} {x1 : Array Value} {t1 : TypeId} (h : Below (w.alloc (.cells x1 t1)).heap.size (w.alloc (.cells x1 t1)) wz) :
    (∀ j, wz.cell? ⟨w.heap.size, j, none⟩ = x1[j]?) ∧ Below w.heap.size w wz ∧ w.heap.size + 1 ≤ wz.heap.size := by
  have hs : (w.alloc (.cells x1 t1)).heap.size = w.heap.size + 1 := by simp
  refine ⟨fun j => (h.cell (p := ⟨w.heap.size, j, none⟩) (by rw [hs]; exact Nat.lt_succ_self _)).trans (World.cell?_alloc_at _ _ _ _ rfl), ((Below.refl _ _).alloc (Nat.le_refl _) _).trans (h.mono (by omega)), by have := h.size; omega⟩
theorem boxA2 {w wz : World} {x1 x2 : Array Value} {t1 t2 : TypeId} (h : Below ((w.alloc (.cells x1 t1)).alloc (.cells x2 t2)).heap.size ((w.alloc (.cells x1 t1)).alloc (.cells x2 t2)) wz) :
    (∀ j, wz.cell? ⟨w.heap.size, j, none⟩ = x1[j]?) ∧ (∀ j, wz.cell? ⟨w.heap.size + 1, j, none⟩ = x2[j]?) ∧ Below w.heap.size w wz ∧ w.heap.size + 2 ≤ wz.heap.size := by
  obtain ⟨h2, h1, h3⟩ := boxA1 h
  have hs : (w.alloc (.cells x1 t1)).heap.size = w.heap.size + 1 := by simp
  rw [hs] at h1 h2 h3
  obtain ⟨k1, k2, _⟩ := boxA1 (by rw [hs]; exact h1)
  exact ⟨k1, h2, k2, h3⟩
theorem boxA3 {w wz : World} {x1 x2 x3 : Array Value} {t1 t2 t3 : TypeId} (h : Below (((w.alloc (.cells x1 t1)).alloc (.cells x2 t2)).alloc (.cells x3 t3)).heap.size (((w.alloc (.cells x1 t1)).alloc (.cells x2 t2)).alloc (.cells x3 t3)) wz) :
    (∀ j, wz.cell? ⟨w.heap.size, j, none⟩ = x1[j]?) ∧ (∀ j, wz.cell? ⟨w.heap.size + 1, j, none⟩ = x2[j]?) ∧ (∀ j, wz.cell? ⟨w.heap.size + 2, j, none⟩ = x3[j]?) ∧ Below w.heap.size w wz ∧ w.heap.size + 3 ≤ wz.heap.size := by
  obtain ⟨h2, h1, h3⟩ := boxA1 h
  have hs : ((w.alloc (.cells x1 t1)).alloc (.cells x2 t2)).heap.size = w.heap.size + 2 := by simp
  rw [hs] at h1 h2 h3
  obtain ⟨k1, k2, k3, _⟩ := boxA2 (by rw [hs]; exact h1)
  exact ⟨k1, k2, h2, k3, h3⟩

set_option maxHeartbeats 2000000 in
theorem pbetween_any (deps made : Nat) (r s : Rf) (w : World) :
    Calls Tryz.prog 99 #[ckV deps made, rfV r, rfV s] w fun e w' => e = .returned (.bool (betwB deps made r s)) ∧ Below w.heap.size w w' := by
  have c1 := fun wz => pref_any deps made r wz
  have c2 := fun wz => pref_any deps made s wz
  obtain ⟨ra, hra⟩ : ∃ b, b = refB deps made r := ⟨_, rfl⟩
  obtain ⟨rb, hrb⟩ : ∃ b, b = refB deps made s := ⟨_, rfl⟩
  have hbw : betwB deps made r s = (ra && rb && decide (r ≠ s) && decide (r ≠ ⟨-1, 1⟩) && decide (s ≠ ⟨-1, 0⟩)) := by rw [hra, hrb]; rfl
  rw [← hra] at c1
  rw [← hrb] at c2
  rw [hbw]
  clear hra hrb hbw
  obtain ⟨x, y⟩ := r
  obtain ⟨u, v⟩ := s
  have C1 := Lib.hid c1
  have C2 := Lib.hid c2
  clear c1 c2
  go_enter Tryz.func99, Tryz.ntmps99
  go_wp2_with fail
  refine (C1.out _).mono ?_
  rintro e w1 ⟨rfl, hb1⟩
  obtain ⟨k1, k2, k3, kb, ks⟩ := boxA3 hb1
  have k10 := (k1 0).trans rfl
  have k11 := (k1 1).trans rfl
  have k20 := (k2 0).trans rfl
  have k21 := (k2 1).trans rfl
  have k30 := (k3 0).trans rfl
  have k31 := (k3 1).trans rfl
  have KB := Lib.hid kb
  have KS := Lib.hid ks
  clear hb1 k1 k2 k3 kb ks
  cases ra with
  | false =>
    go_wp2_with fail
    go_ret
    exact ⟨rfl, KB.out⟩
  | true =>
    go_wp2_with fail
    refine (C2.out _).mono ?_
    rintro e w2 ⟨rfl, hb2⟩
    have q : ∀ i j, i < w.heap.size + 3 → w2.cell? ⟨i, j, none⟩ = w1.cell? ⟨i, j, none⟩ := fun i j hi => hb2.cell (p := ⟨i, j, none⟩) (by have := KS.out; show i < _; omega)
    have g20 := (q _ _ (by omega)).trans k20
    have g21 := (q _ _ (by omega)).trans k21
    have g30 := (q _ _ (by omega)).trans k30
    have g31 := (q _ _ (by omega)).trans k31
    have KB2 := Lib.hid (KB.out.trans (hb2.mono (by have := KS.out; omega)))
    clear q hb2 k10 k11 k20 k21 k30 k31
    cases rb with
    | false =>
      go_wp2_with fail
      go_ret
      exact ⟨rfl, KB2.out⟩
    | true =>
      go_wp2_with fail
      all_goals go_ret
      all_goals refine ⟨ret_bool ?_, KB2.out⟩
      all_goals (apply Bool.eq_iff_iff.2; simp; try omega)
      all_goals trace_state
end Go.Proofs.YtgjcblginkdinaaGreatDoor
set_option linter.unusedVariables false
namespace Go.Proofs.YtgjcblginkdinaaGreatDoor
open Go.ChangeShapes Go.WideShapes Go.ChangeAt Go.RowKit Go.Deep

theorem wfI_of {n : Int} (h : (Lit.int .i64 n).wf = true) : wfI n := by
  simp only [Lit.wf, Bool.and_eq_true, decide_eq_true_eq] at h
  exact h

theorem open_rd {H : Type} {enc : TypeId × Value → H} {P : Program} {W : World} {t e : TypeId} {fuel len : Nat} {a0 : Option Addr} {cap : Nat} {x : DataW H × List MemPlace}
    (ht : P.underlying t = some (.slice e)) (he : P.underlying e = some .string) (hc : P.cellsOf e = 1) (hb : 0 < P.bytesOf e) (hf : DataW.trod enc P W 0 (fun _ => true) true fuel t [.slice a0 len cap] = some x)
    (hw : ∀ n ∈ x.1.weights P t, n ≤ reachBytes) :
    ∃ xs : List ByteArray, Reads W (.slice a0 len cap) xs ∧ xs.length ≤ 140737488355328 ∧ ∀ x ∈ xs, x.size ≤ 140737488355328 := by
  have hreach : reachBytes ≤ 140737488355328 := by decide
  rcases open_strings ht he hc hf with ⟨hcs, hx⟩ | ⟨a, len', cap', ss, hcs, _, hl, hm, hz, hx, hcell, hsz⟩
  · simp at hcs
    obtain ⟨rfl, rfl, rfl⟩ := hcs
    exact ⟨[], .inl ⟨rfl, none, 0, rfl⟩, by simp, by simp⟩
  · simp at hcs
    obtain ⟨rfl, rfl, rfl⟩ := hcs
    have hd : x.1 = .slice (strs (ss.take len)) (strs (ss.drop len)) := by rw [hx]
    rw [hd] at hw
    simp only [if_true] at hz
    have hxl : (ss.take len).length = len := by simp; omega
    have hlen : len ≤ 140737488355328 := by
      have h1 := hw (((strs (H := H) (ss.take len)).length + (strs (H := H) (ss.drop len)).length) * P.bytesOf e) (by simp [DataW.weights, ht])
      have h2 : len ≤ (strs (H := H) (ss.take len)).length + (strs (H := H) (ss.drop len)).length := by simp [strs]; omega
      have h3 := Nat.le_mul_of_pos_right ((strs (H := H) (ss.take len)).length + (strs (H := H) (ss.drop len)).length) hb
      omega
    refine ⟨ss.take len, ?_, by omega, fun x hx => ?_⟩
    · by_cases h0 : len = 0
      · subst h0
        exact .inl ⟨by simp, _, cap, rfl⟩
      · obtain ⟨b, off, spot⟩ := a
        have hspot : spot = none := by simpa [Addr.add] using World.cell?_spot (hcell 0 (by omega))
        subst hspot
        refine .inr ⟨fun e => h0 (by rw [← hxl, e]; rfl), b, off, cap, by rw [hxl], by omega, by unfold maxLen at hm; omega, cell_lt (hcell 0 (by omega)), fun j x hx => ?_⟩
        have hj : j < len := by
          have := (List.getElem?_eq_some_iff.1 hx).1
          omega
        have hX' : ss.getD j ByteArray.empty = x := by
          rw [List.getElem?_take_of_lt hj] at hx
          simp [List.getD, hx]
        have hcj := hcell j (by omega)
        rw [hX'] at hcj
        have ha : (⟨b, off, none⟩ : Addr).add j = ⟨b, off + j, none⟩ := by unfold Addr.add; split <;> simp_all
        rw [← ha]
        exact hcj
    · have hmem : (DataW.lit (H := H) (.string x.data.toList)) ∈ strs (H := H) (ss.take len) := List.mem_map.2 ⟨x, hx, rfl⟩
      have h1 := hw x.data.toList.length (by
        simp only [DataW.weights, ht, List.mem_cons, List.mem_append]
        exact .inr (.inl (mem_weightsAll (by simp [DataW.weights]) hmem)))
      have h2 : x.data.toList.length = x.size := Array.length_toList
      omega

set_option maxRecDepth 100000 in
theorem open_rf {H : Type} {enc : TypeId × Value → H} {W : World} {fuel : Nat} {cs : List Value} {x : DataW H × List MemPlace} (h : DataW.trod enc Tryz.prog W 0 (fun _ => true) true fuel 54 cs = some x) :
    ∃ r : Rf, cs = [.int .i64 r.at_, .int .i64 r.n] ∧ r.wf := by
  have hu := Tryz.underlying54
  have hc2 : Tryz.prog.cellsOf 54 = 2 := by kernel_rfl
  have ci : Tryz.prog.cellsOf 3 = 1 := by kernel_rfl
  obtain ⟨xs, n, _, hx, hlen, hxl, hf⟩ := DataW.trod_struct hu h
  rw [hc2] at hlen
  obtain ⟨v0, v1, rfl⟩ : ∃ v0 v1, cs = [v0, v1] := by
    match cs, hlen with
    | [v0, v1], _ => exact ⟨v0, v1, rfl⟩
  obtain ⟨y0, y1, rfl⟩ : ∃ y0 y1, xs = [y0, y1] := by
    match xs, hxl with
    | [y0, y1], _ => exact ⟨y0, y1, rfl⟩
  have f0 : DataW.trod enc Tryz.prog W 0 (fun _ => true) true n 3 (([v0, v1].drop 0).take (Tryz.prog.cellsOf 3)) = [y0, y1][0]? := hf 0 _ rfl
  have f1 : DataW.trod enc Tryz.prog W 0 (fun _ => true) true n 3 (([v0, v1].drop 1).take (Tryz.prog.cellsOf 3)) = [y0, y1][1]? := hf 1 _ rfl
  rw [ci] at f0 f1
  obtain ⟨A, e0, -, w0⟩ := DataW.trod_int (k := .i64) (x := y0) Tryz.underlying3 (by simpa using f0)
  obtain ⟨C, e1, -, w1⟩ := DataW.trod_int (k := .i64) (x := y1) Tryz.underlying3 (by simpa using f1)
  refine ⟨⟨A, C⟩, ?_, wfI_of w0, wfI_of w1⟩
  have a0 : v0 = .int .i64 A := by simpa using e0
  have a1 : v1 = .int .i64 C := by simpa using e1
  rw [a0, a1]

set_option maxRecDepth 100000 in
theorem open_op {H : Type} {enc : TypeId × Value → H} {W : World} {fuel : Nat} {cs : List Value} {x : DataW H × List MemPlace} (h : DataW.trod enc Tryz.prog W 0 (fun _ => true) true fuel 56 cs = some x) (hw : ∀ n ∈ x.1.weights Tryz.prog 56, n ≤ reachBytes) :
    ∃ q : Opp × Value, cs = [.int .i64 q.1.kind, .int .i64 q.1.a.at_, .int .i64 q.1.a.n, .int .i64 q.1.b.at_, .int .i64 q.1.b.n, q.2] ∧ Reads W q.2 q.1.lines ∧ q.1.wf ∧ q.1.lines.length ≤ 140737488355328 ∧ ∀ x ∈ q.1.lines, x.size ≤ 140737488355328 := by
  have hu := Tryz.underlying56
  have hc6 : Tryz.prog.cellsOf 56 = 6 := by kernel_rfl
  have ci : Tryz.prog.cellsOf 3 = 1 := by kernel_rfl
  have cr : Tryz.prog.cellsOf 54 = 2 := by kernel_rfl
  have cl : Tryz.prog.cellsOf 22 = 1 := by kernel_rfl
  obtain ⟨xs, n, _, hx, hlen, hxl, hf⟩ := DataW.trod_struct hu h
  rw [hc6] at hlen
  obtain ⟨v0, v1, v2, v3, v4, v5, rfl⟩ : ∃ v0 v1 v2 v3 v4 v5, cs = [v0, v1, v2, v3, v4, v5] := by
    match cs, hlen with
    | [v0, v1, v2, v3, v4, v5], _ => exact ⟨v0, v1, v2, v3, v4, v5, rfl⟩
  obtain ⟨y0, y1, y2, y3, rfl⟩ : ∃ y0 y1 y2 y3, xs = [y0, y1, y2, y3] := by
    match xs, hxl with
    | [y0, y1, y2, y3], _ => exact ⟨y0, y1, y2, y3, rfl⟩
  have f0 : DataW.trod enc Tryz.prog W 0 (fun _ => true) true n 3 (([v0, v1, v2, v3, v4, v5].drop 0).take (Tryz.prog.cellsOf 3)) = [y0, y1, y2, y3][0]? := hf 0 _ rfl
  have f1 : DataW.trod enc Tryz.prog W 0 (fun _ => true) true n 54 (([v0, v1, v2, v3, v4, v5].drop 1).take (Tryz.prog.cellsOf 54)) = [y0, y1, y2, y3][1]? := hf 1 _ rfl
  have f2 : DataW.trod enc Tryz.prog W 0 (fun _ => true) true n 54 (([v0, v1, v2, v3, v4, v5].drop 3).take (Tryz.prog.cellsOf 54)) = [y0, y1, y2, y3][2]? := hf 2 _ rfl
  have f3 : DataW.trod enc Tryz.prog W 0 (fun _ => true) true n 22 (([v0, v1, v2, v3, v4, v5].drop 5).take (Tryz.prog.cellsOf 22)) = [y0, y1, y2, y3][3]? := hf 3 _ rfl
  rw [ci] at f0
  rw [cr] at f1 f2
  rw [cl] at f3
  obtain ⟨K, e0, -, w0⟩ := DataW.trod_int (k := .i64) (x := y0) Tryz.underlying3 (by simpa using f0)
  have f1' : DataW.trod enc Tryz.prog W 0 (fun _ => true) true n 54 [v1, v2] = some y1 := by simpa using f1
  have f2' : DataW.trod enc Tryz.prog W 0 (fun _ => true) true n 54 [v3, v4] = some y2 := by simpa using f2
  have f3' : DataW.trod enc Tryz.prog W 0 (fun _ => true) true n 22 [v5] = some y3 := by simpa using f3
  obtain ⟨r, e1, wr⟩ := open_rf f1'
  obtain ⟨s, e2, ws⟩ := open_rf f2'
  have ev : ∃ ao l c, v5 = .slice ao l c := by
    rcases open_slice Tryz.underlying22 f3' with ⟨e, _⟩ | ⟨a, l, c, _, _, _, _, e, _⟩
    · simp at e; exact ⟨_, _, _, e⟩
    · simp at e; exact ⟨_, _, _, e⟩
  obtain ⟨ao, l, c, rfl⟩ := ev
  have hw3 : ∀ n ∈ y3.1.weights Tryz.prog 22, n ≤ reachBytes := by
    intro k hk
    refine hw k ?_
    rw [hx]
    simp only [List.map_cons, List.map_nil, DataW.weights, hu]
    exact DataW.weights_mem_each (j := 3) rfl rfl k hk
  obtain ⟨ys, hs, hl, hz⟩ := open_rd Tryz.underlying22 Tryz.underlying9 (by kernel_rfl) (of_decide_eq_true (by kernel_rfl)) f3' hw3
  refine ⟨(⟨K, r, s, ys⟩, .slice ao l c), ?_, hs, ⟨wfI_of w0, wr, ws⟩, hl, hz⟩
  have a0 : v0 = .int .i64 K := by simpa using e0
  simp only [List.cons.injEq, and_true] at e1 e2
  rw [a0, e1.1, e1.2, e2.1, e2.2]

set_option maxRecDepth 100000 in
theorem open_opsA {H : Type} {enc : TypeId × Value → H} {W : World} {fuel len cap : Nat} {a0 : Option Addr} {x : DataW H × List MemPlace} (hf : DataW.trod enc Tryz.prog W 0 (fun _ => true) true fuel 23 [.slice a0 len cap] = some x)
    (hw : ∀ n ∈ x.1.weights Tryz.prog 23, n ≤ reachBytes) :
    ∃ os : List Opp, OReads W (.slice a0 len cap) os ∧ os.length ≤ 140737488355328 ∧ ∀ o ∈ os, o.wf ∧ o.lines.length ≤ 140737488355328 ∧ ∀ x ∈ o.lines, x.size ≤ 140737488355328 := by
  have hreach : reachBytes ≤ 140737488355328 := by decide
  have ht := Tryz.underlying23
  have hc6 : Tryz.prog.cellsOf 56 = 6 := by kernel_rfl
  have hby : 0 < Tryz.prog.bytesOf 56 := of_decide_eq_true (by kernel_rfl)
  rcases open_slice ht hf with ⟨hcs, hx⟩ | ⟨a, len', cap', m, n, D, Pl, hcs, _, hl, hm, hmm, hx, hi⟩
  · simp at hcs
    obtain ⟨rfl, rfl, rfl⟩ := hcs
    exact ⟨[], .inl ⟨rfl, _, _, rfl⟩, by simp, by simp⟩
  · simp at hcs
    obtain ⟨rfl, rfl, rfl⟩ := hcs
    have hd : x.1 = .slice ((List.range len).map D) ((List.range (m - len)).map fun j => D (len + j)) := by rw [hx]
    rw [hd] at hw
    simp only [if_true] at hmm
    subst hmm
    rw [hc6] at hi
    have hwd : ∀ i, i < len → ∀ k ∈ (D i).weights Tryz.prog 56, k ≤ reachBytes := by
      intro i hil k hk
      refine hw k ?_
      simp only [DataW.weights, ht, List.mem_cons, List.mem_append]
      exact .inr (.inl (mem_weightsAll hk (List.mem_map.2 ⟨i, List.mem_range.2 hil, rfl⟩)))
    have hel : ∀ i, i < len → ∃ q : Opp × Value, (W.cell? (a.add (i * 6)) = some (.int .i64 q.1.kind) ∧ W.cell? ((a.add (i * 6)).add 1) = some (.int .i64 q.1.a.at_) ∧ W.cell? ((a.add (i * 6)).add 2) = some (.int .i64 q.1.a.n) ∧ W.cell? ((a.add (i * 6)).add 3) = some (.int .i64 q.1.b.at_) ∧ W.cell? ((a.add (i * 6)).add 4) = some (.int .i64 q.1.b.n) ∧ W.cell? ((a.add (i * 6)).add 5) = some q.2) ∧
        Reads W q.2 q.1.lines ∧ q.1.wf ∧ q.1.lines.length ≤ 140737488355328 ∧ ∀ x ∈ q.1.lines, x.size ≤ 140737488355328 := by
      intro i hil
      obtain ⟨cs', hc, ht'⟩ := hi i (by omega)
      obtain ⟨q, rfl, hs⟩ := open_op ht' (hwd i hil)
      obtain ⟨_, _, hat⟩ := World.cells?_some hc
      have h0 := hat 0 (by omega)
      have h1 := hat 1 (by omega)
      have h2 := hat 2 (by omega)
      have h3 := hat 3 (by omega)
      have h4 := hat 4 (by omega)
      have h5 := hat 5 (by omega)
      rw [show (a.add (i * 6)).add 0 = a.add (i * 6) by rw [Go.Deep.add_add]; rfl] at h0
      exact ⟨q, ⟨h0, h1, h2, h3, h4, h5⟩, hs⟩
    obtain ⟨ps, hpl, hps⟩ := list_of _ len hel
    have hlen : len ≤ 140737488355328 := by
      have h1 := hw _ (by simp only [DataW.weights, ht]; exact List.mem_cons_self)
      have h2 : len ≤ ((List.range len).map D).length + ((List.range (m - len)).map fun j => D (len + j)).length := by simp
      have h3 := Nat.le_mul_of_pos_right (((List.range len).map D).length + ((List.range (m - len)).map fun j => D (len + j)).length) hby
      omega
    refine ⟨ps.map (·.1), ?_, by rw [List.length_map]; omega, fun k hk => ?_⟩
    · by_cases e : ps = []
      · left
        subst e
        simp at hpl
        subst hpl
        exact ⟨rfl, _, _, rfl⟩
      · right
        have hpos : 0 < len := by
          rcases Nat.eq_zero_or_pos len with h | h
          · exact absurd (List.length_eq_zero_iff.1 (by omega)) e
          · exact h
        obtain ⟨b, off, spot⟩ := a
        have h00 := (hps 0 (ps[0]'(by omega)) (by simp)).1.1
        have hspot : spot = none := by simpa [Addr.add] using World.cell?_spot h00
        subst hspot
        have hadd : ∀ (o k : Nat), (⟨b, o, none⟩ : Addr).add k = ⟨b, o + k, none⟩ := fun o k => Addr.add_lit ..
        refine ⟨by simpa using e, b, off, m, by rw [List.length_map, hpl], by rw [List.length_map]; omega, by unfold maxLen at hm; omega, ?_, fun j z hz => ?_⟩
        · rw [hadd] at h00
          exact cell_lt (o := off + 0 * 6) h00
        · rw [List.getElem?_map] at hz
          obtain ⟨q, hq, rfl⟩ := Option.map_eq_some_iff.1 hz
          obtain ⟨⟨c0, c1, c2, c3, c4, c5⟩, hs, _⟩ := hps j q hq
          rw [hadd] at c0
          rw [hadd, hadd] at c1 c2 c3 c4 c5
          exact ⟨q.2, c0, c1, c2, c3, c4, c5, hs⟩
    · obtain ⟨q, hq, rfl⟩ := List.mem_map.1 hk
      obtain ⟨j, hj, e⟩ := List.mem_iff_getElem.1 hq
      exact (hps j q (by rw [← e]; simp)).2.2

set_option maxRecDepth 100000 in
theorem open_ptArg {H : Type} {enc : TypeId × Value → H} {W : World} {b0 : Nat} {r : Reach} {v : Value} {d : DataW H} {pl : List MemPlace}
    (hval : Value.okWide Tryz.prog W r b0 25 v) (h : DataW.Trod enc Tryz.prog W 0 (fun _ => true) true 25 v d pl) (hw : ∀ n ∈ d.weights Tryz.prog 25, n ≤ reachBytes) :
    ∃ (p : Pt) (dv ov : Value), v = ptV p.note dv ov ∧ PReads W p.note dv ov p ∧ p.fine ∧ p.deps.length ≤ 140737488355328 ∧ p.ops.length ≤ 140737488355328 ∧ ∀ o ∈ p.ops, o.lines.length ≤ 140737488355328 := by
  have hreach : reachBytes ≤ 140737488355328 := by decide
  obtain ⟨cs, rfl, -⟩ := okWide_struct Tryz.underlying25 hval
  obtain ⟨fuel, hf0⟩ := h
  have hu := Tryz.underlying25
  have hc3 : Tryz.prog.cellsOf 25 = 3 := by kernel_rfl
  have cs1 : Tryz.prog.cellsOf 9 = 1 := by kernel_rfl
  have cl : Tryz.prog.cellsOf 22 = 1 := by kernel_rfl
  have co : Tryz.prog.cellsOf 23 = 1 := by kernel_rfl
  obtain ⟨xs, n, _, hx, hlen, hxl, hf⟩ := DataW.trod_struct hu hf0
  rw [hc3] at hlen
  obtain ⟨v0, v1, v2, hcs⟩ : ∃ v0 v1 v2, (Value.agg cs).cells.toList = [v0, v1, v2] := by
    match (Value.agg cs).cells.toList, hlen with
    | [v0, v1, v2], _ => exact ⟨v0, v1, v2, rfl⟩
  rw [hcs] at hf
  obtain ⟨y0, y1, y2, rfl⟩ : ∃ y0 y1 y2, xs = [y0, y1, y2] := by
    match xs, hxl with
    | [y0, y1, y2], _ => exact ⟨y0, y1, y2, rfl⟩
  have f0 : DataW.trod enc Tryz.prog W 0 (fun _ => true) true n 9 (([v0, v1, v2].drop 0).take (Tryz.prog.cellsOf 9)) = [y0, y1, y2][0]? := hf 0 _ rfl
  have f1 : DataW.trod enc Tryz.prog W 0 (fun _ => true) true n 22 (([v0, v1, v2].drop 1).take (Tryz.prog.cellsOf 22)) = [y0, y1, y2][1]? := hf 1 _ rfl
  have f2 : DataW.trod enc Tryz.prog W 0 (fun _ => true) true n 23 (([v0, v1, v2].drop 2).take (Tryz.prog.cellsOf 23)) = [y0, y1, y2][2]? := hf 2 _ rfl
  rw [cs1] at f0
  rw [cl] at f1
  rw [co] at f2
  obtain ⟨t, e0, ex0, -⟩ := DataW.trod_string (x := y0) Tryz.underlying9 (by simpa using f0)
  have f1' : DataW.trod enc Tryz.prog W 0 (fun _ => true) true n 22 [v1] = some y1 := by simpa using f1
  have f2' : DataW.trod enc Tryz.prog W 0 (fun _ => true) true n 23 [v2] = some y2 := by simpa using f2
  have ev1 : ∃ ao l c, v1 = .slice ao l c := by
    rcases open_slice Tryz.underlying22 f1' with ⟨e, _⟩ | ⟨a, l, c, _, _, _, _, e, _⟩
    · simp at e; exact ⟨_, _, _, e⟩
    · simp at e; exact ⟨_, _, _, e⟩
  have ev2 : ∃ ao l c, v2 = .slice ao l c := by
    rcases open_slice Tryz.underlying23 f2' with ⟨e, _⟩ | ⟨a, l, c, _, _, _, _, e, _⟩
    · simp at e; exact ⟨_, _, _, e⟩
    · simp at e; exact ⟨_, _, _, e⟩
  obtain ⟨a1, l1, c1, rfl⟩ := ev1
  obtain ⟨a2, l2, c2, rfl⟩ := ev2
  have hdx : d = .agg [y0.1, y1.1, y2.1] := (Prod.mk.inj hx).1
  have hwj : ∀ (j : Nat) (ty : TypeId) (d' : DataW H), [9, 22, 23][j]? = some ty → [y0.1, y1.1, y2.1][j]? = some d' → ∀ k ∈ d'.weights Tryz.prog ty, k ≤ reachBytes := by
    intro j ty d' hj hd k hk
    refine hw k ?_
    rw [hdx]
    simp only [DataW.weights, hu]
    exact DataW.weights_mem_each (j := j) hj hd k hk
  obtain ⟨ds, hds, hdl, hdz⟩ := open_rd Tryz.underlying22 Tryz.underlying9 (by kernel_rfl) (of_decide_eq_true (by kernel_rfl)) f1' (hwj 1 _ _ rfl rfl)
  obtain ⟨os, hos, hol, hoz⟩ := open_opsA f2' (hwj 2 _ _ rfl rfl)
  have hts : t.size ≤ reachBytes := by
    have := hwj 0 _ _ rfl rfl t.data.toList.length (by rw [ex0]; simp [DataW.weights])
    have h2 : t.data.toList.length = t.size := Array.length_toList
    omega
  refine ⟨⟨t, ds, os⟩, .slice a1 l1 c1, .slice a2 l2 c2, ?_, ⟨rfl, hds, hos⟩, ⟨fun o ho => (hoz o ho).1, by show t.size ≤ _; omega, hdz, fun o ho => (hoz o ho).2.2⟩, hdl, hol, fun o ho => (hoz o ho).2.1⟩
  have a0 : v0 = .string t := by simpa using e0
  have : cs = #[.string t, .slice a1 l1 c1, .slice a2 l2 c2] := by
    apply Array.ext'
    rw [a0] at hcs
    simpa [Value.cells] using hcs
  rw [this]
end Go.Proofs.YtgjcblginkdinaaGreatDoor
