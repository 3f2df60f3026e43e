/- One, two and three boxes made in a row. Patches in memory; the contracts of the checker's small functions. The contracts of the checker's lines and op, of rising and of sound. The contracts of rising, of the checker's op and of sound. -/
import Derived.Lib.IndexLaws
import Derived.Laws.Cover1
import Derived.Sort.Walk0
import Derived.Test.YtojnagonhihknaaGreatDoorShelf
import Derived.Test.YtojnagonhihknaaGreatDoorU11
import Derived.Test.YtojnagonhihknaaGreatDoorU12
import Derived.Test.YtojnagonhihknaaGreatDoorU3
import Derived.Test.YtojnagonhihknaaGreatDoorU5
set_option linter.unusedVariables false
namespace Go.Proofs.YtojnagonhihknaaGreatDoor
open Go.ChangeShapes Go.WideShapes Go.ChangeAt Go.RowKit

theorem boxA1 {w wz : World} {x1 : Array Value} {t1 : TypeId} (h : Below (w.alloc (.cells x1 t1)).heap.size (w.alloc (.cells x1 t1)) wz) :
    (∀ j, wz.cell? ⟨w.heap.size, j, none⟩ = x1[j]?) ∧ Below w.heap.size w wz ∧ w.heap.size + 1 ≤ wz.heap.size := by
  have hs : (w.alloc (.cells x1 t1)).heap.size = w.heap.size + 1 := by simp
  refine ⟨fun j => (h.cell (p := ⟨w.heap.size, j, none⟩) (by rw [hs]; exact Nat.lt_succ_self _)).trans (World.cell?_alloc_at _ _ _ _ rfl), ((Below.refl _ _).alloc (Nat.le_refl _) _).trans (h.mono (by omega)), by have := h.size; omega⟩
theorem boxA2 {w wz : World} {x1 x2 : Array Value} {t1 t2 : TypeId} (h : Below ((w.alloc (.cells x1 t1)).alloc (.cells x2 t2)).heap.size ((w.alloc (.cells x1 t1)).alloc (.cells x2 t2)) wz) :
    (∀ j, wz.cell? ⟨w.heap.size, j, none⟩ = x1[j]?) ∧ (∀ j, wz.cell? ⟨w.heap.size + 1, j, none⟩ = x2[j]?) ∧ Below w.heap.size w wz ∧ w.heap.size + 2 ≤ wz.heap.size := by
  obtain ⟨h2, h1, h3⟩ := boxA1 h
  have hs : (w.alloc (.cells x1 t1)).heap.size = w.heap.size + 1 := by simp
  rw [hs] at h1 h2 h3
  obtain ⟨k1, k2, _⟩ := boxA1 (by rw [hs]; exact h1)
  exact ⟨k1, h2, k2, h3⟩
theorem boxA3 {w wz : World} {x1 x2 x3 : Array Value} {t1 t2 t3 : TypeId} (h : Below (((w.alloc (.cells x1 t1)).alloc (.cells x2 t2)).alloc (.cells x3 t3)).heap.size (((w.alloc (.cells x1 t1)).alloc (.cells x2 t2)).alloc (.cells x3 t3)) wz) :
    (∀ j, wz.cell? ⟨w.heap.size, j, none⟩ = x1[j]?) ∧ (∀ j, wz.cell? ⟨w.heap.size + 1, j, none⟩ = x2[j]?) ∧ (∀ j, wz.cell? ⟨w.heap.size + 2, j, none⟩ = x3[j]?) ∧ Below w.heap.size w wz ∧ w.heap.size + 3 ≤ wz.heap.size := by
  obtain ⟨h2, h1, h3⟩ := boxA1 h
  have hs : ((w.alloc (.cells x1 t1)).alloc (.cells x2 t2)).heap.size = w.heap.size + 2 := by simp
  rw [hs] at h1 h2 h3
  obtain ⟨k1, k2, k3, _⟩ := boxA2 (by rw [hs]; exact h1)
  exact ⟨k1, k2, h2, k3, h3⟩
end Go.Proofs.YtojnagonhihknaaGreatDoor
set_option linter.unusedVariables false
namespace Go.Proofs.YtojnagonhihknaaGreatDoor
open Go.ChangeShapes Go.WideShapes Go.ChangeAt Go.RowKit

abbrev rfV (r : Rf) : Value := .agg #[.int .i64 r.at_, .int .i64 r.n]
abbrev opV (x : Opp) (lv : Value) : Value := .agg #[.int .i64 x.kind, .int .i64 x.a.at_, .int .i64 x.a.n, .int .i64 x.b.at_, .int .i64 x.b.n, lv]
abbrev ptV (t : ByteArray) (dv ov : Value) : Value := .agg #[.string t, dv, ov]

def OCells (w : World) (b o : Nat) (xs : List Opp) : Prop :=
  b < w.heap.size ∧ ∀ j x, xs[j]? = some x → ∃ lv, w.cell? ⟨b, o + j * 6, none⟩ = some (.int .i64 x.kind) ∧ w.cell? ⟨b, o + j * 6 + 1, none⟩ = some (.int .i64 x.a.at_) ∧ w.cell? ⟨b, o + j * 6 + 2, none⟩ = some (.int .i64 x.a.n) ∧
    w.cell? ⟨b, o + j * 6 + 3, none⟩ = some (.int .i64 x.b.at_) ∧ w.cell? ⟨b, o + j * 6 + 4, none⟩ = some (.int .i64 x.b.n) ∧ w.cell? ⟨b, o + j * 6 + 5, none⟩ = some lv ∧ Reads w lv x.lines
def OReads (w : World) (v : Value) (xs : List Opp) : Prop :=
  (xs = [] ∧ ∃ a c, v = .slice a 0 c) ∨ (xs ≠ [] ∧ ∃ b o c, v = .slice (some ⟨b, o, none⟩) xs.length c ∧ xs.length ≤ c ∧ c ≤ 9223372036854775807 ∧ OCells w b o xs)
structure PReads (w : World) (t : ByteArray) (dv ov : Value) (p : Pt) : Prop where
  note : t = p.note
  deps : Reads w dv p.deps
  ops : OReads w ov p.ops

theorem OCells.below {w w' : World} {b o : Nat} {xs : List Opp} (h : OCells w b o xs) (hb : Below w.heap.size w w') : OCells w' b o xs := by
  refine ⟨Nat.lt_of_lt_of_le h.1 hb.size, fun j x hx => ?_⟩
  obtain ⟨lv, h0, h1, h2, h3, h4, h5, h6⟩ := h.2 j x hx
  have hc : ∀ k, w'.cell? ⟨b, k, none⟩ = w.cell? ⟨b, k, none⟩ := fun k => hb.cell (p := ⟨b, k, none⟩) h.1
  exact ⟨lv, (hc _).trans h0, (hc _).trans h1, (hc _).trans h2, (hc _).trans h3, (hc _).trans h4, (hc _).trans h5, h6.below hb⟩
theorem OReads.below {w w' : World} {v : Value} {xs : List Opp} (h : OReads w v xs) (hb : Below w.heap.size w w') : OReads w' v xs := by
  rcases h with h | ⟨hn, b, o, c, hv, hc, hm, hx⟩
  · exact .inl h
  · exact .inr ⟨hn, b, o, c, hv, hc, hm, hx.below hb⟩
theorem PReads.below {w w' : World} {t : ByteArray} {dv ov : Value} {p : Pt} (h : PReads w t dv ov p) (hb : Below w.heap.size w w') : PReads w' t dv ov p :=
  ⟨h.note, h.deps.below hb, h.ops.below hb⟩
theorem OReads.form {w : World} {v : Value} {xs : List Opp} (h : OReads w v xs) : ∃ a c, v = .slice a xs.length c ∧ xs.length ≤ 9223372036854775807 := by
  rcases h with ⟨rfl, a, c, rfl⟩ | ⟨hn, b, o, c, rfl, hc, hm, hx⟩
  · exact ⟨_, _, rfl, Nat.zero_le _⟩
  · exact ⟨_, _, rfl, by omega⟩
theorem OReads.at {w : World} {a : Option Addr} {n c : Nat} {xs : List Opp} (h : OReads w (.slice a n c) xs) {j : Nat} {x : Opp} (hx : xs[j]? = some x) : ∃ b o, a = some ⟨b, o, none⟩ ∧ n = xs.length ∧ OCells w b o xs := by
  rcases h with ⟨rfl, a', c', e⟩ | ⟨hn, b, o, c', e, hc, hm, hx'⟩
  · simp at hx
  · simp only [Value.slice.injEq] at e
    obtain ⟨rfl, rfl, rfl⟩ := e
    exact ⟨b, o, rfl, rfl, hx'⟩
structure Pt.fine (p : Pt) : Prop where
  wf : p.wf
  note : p.note.size ≤ 140737488355328
  deps : ∀ x ∈ p.deps, x.size ≤ 140737488355328
  ops : ∀ o ∈ p.ops, ∀ x ∈ o.lines, x.size ≤ 140737488355328

abbrev ckV (deps made : Nat) : Value := .agg #[.int .i64 (deps : Nat), .int .i64 (made : Nat)]

theorem neI {a b : Int} (h : a ≠ b) : (a == b) = false := beq_eq_false_iff_ne.2 h

set_option maxHeartbeats 1000000 in
theorem pref_any (deps made : Nat) (r : Rf) (w : World) :
    Calls Tryz.prog 168 #[ckV deps made, rfV r] w fun e w' => e = .returned (.bool (refB deps made r)) ∧ Below w.heap.size w w' := by
  obtain ⟨x, y⟩ := r
  have hb2 : ∀ o1 o2, Below w.heap.size w ((w.alloc o1).alloc o2) := fun o1 o2 => ((Below.refl _ _).alloc (Nat.le_refl _) _).alloc (by simp) _
  have HB := Lib.hid hb2
  clear hb2
  by_cases h1 : x = -1
  · have hr : refB deps made ⟨x, y⟩ = (decide (y = 0) || decide (y = 1)) := by simp [refB, h1]
    rw [hr]
    subst h1
    clear hr
    go_enter Tryz.func168, Tryz.ntmps168
    go_wp2
    all_goals go_ret
    all_goals refine ⟨ret_bool ?_, HB.out _ _⟩
    all_goals (apply Bool.eq_iff_iff.2; simp; try omega)
  · have e1 := neI h1
    by_cases h2 : x = -2
    · have hr : refB deps made ⟨x, y⟩ = (decide (0 ≤ y) && decide (y < made)) := by simp [refB, h2]
      rw [hr]
      subst h2
      clear hr
      go_enter Tryz.func168, Tryz.ntmps168
      go_wp2
      all_goals go_ret
      all_goals refine ⟨ret_bool ?_, HB.out _ _⟩
      all_goals (apply Bool.eq_iff_iff.2; simp; try omega)
    · have e2 := neI h2
      have hr : refB deps made ⟨x, y⟩ = (decide (0 ≤ x) && decide (x < deps) && decide (0 ≤ y) && decide (y < 300)) := by simp [refB, h1, h2]
      rw [hr]
      clear hr
      go_enter Tryz.func168, Tryz.ntmps168
      go_wp2
      all_goals go_ret
      all_goals refine ⟨ret_bool ?_, HB.out _ _⟩
      all_goals (apply Bool.eq_iff_iff.2; simp; try omega)

set_option maxHeartbeats 2000000 in
theorem pbetween_any (deps made : Nat) (r s : Rf) (w : World) :
    Calls Tryz.prog 167 #[ckV deps made, rfV r, rfV s] w fun e w' => e = .returned (.bool (betwB deps made r s)) ∧ Below w.heap.size w w' := by
  have c1 := fun wz => pref_any deps made r wz
  have c2 := fun wz => pref_any deps made s wz
  obtain ⟨ra, hra⟩ : ∃ b, b = refB deps made r := ⟨_, rfl⟩
  obtain ⟨rb, hrb⟩ : ∃ b, b = refB deps made s := ⟨_, rfl⟩
  have hbw : betwB deps made r s = (ra && rb && decide (r ≠ s) && decide (r ≠ ⟨-1, 1⟩) && decide (s ≠ ⟨-1, 0⟩)) := by rw [hra, hrb]; rfl
  rw [← hra] at c1
  rw [← hrb] at c2
  rw [hbw]
  clear hra hrb hbw
  obtain ⟨x, y⟩ := r
  obtain ⟨u, v⟩ := s
  have C1 := Lib.hid c1
  have C2 := Lib.hid c2
  clear c1 c2
  go_enter Tryz.func167, Tryz.ntmps167
  go_wp2_with fail
  refine (C1.out _).mono ?_
  rintro e w1 ⟨rfl, hb1⟩
  obtain ⟨k1, k2, k3, kb, ks⟩ := boxA3 hb1
  have k10 := (k1 0).trans rfl
  have k11 := (k1 1).trans rfl
  have k20 := (k2 0).trans rfl
  have k21 := (k2 1).trans rfl
  have k30 := (k3 0).trans rfl
  have k31 := (k3 1).trans rfl
  have KB := Lib.hid kb
  have KS := Lib.hid ks
  clear hb1 k1 k2 k3 kb ks
  cases ra with
  | false =>
    go_wp2_with fail
    go_ret
    exact ⟨rfl, KB.out⟩
  | true =>
    go_wp2_with fail
    refine (C2.out _).mono ?_
    rintro e w2 ⟨rfl, hb2⟩
    have q : ∀ i j, i < w.heap.size + 3 → w2.cell? ⟨i, j, none⟩ = w1.cell? ⟨i, j, none⟩ := fun i j hi => hb2.cell (p := ⟨i, j, none⟩) (by have := KS.out; show i < _; omega)
    have g20 := (q _ _ (by omega)).trans k20
    have g21 := (q _ _ (by omega)).trans k21
    have g30 := (q _ _ (by omega)).trans k30
    have g31 := (q _ _ (by omega)).trans k31
    have KB2 := Lib.hid (KB.out.trans (hb2.mono (by have := KS.out; omega)))
    clear q hb2 k10 k11 k20 k21 k30 k31
    cases rb with
    | false =>
      go_wp2_with fail
      go_ret
      exact ⟨rfl, KB2.out⟩
    | true =>
      go_wp2_with fail
      all_goals go_ret
      all_goals refine ⟨ret_bool ?_, KB2.out⟩
      all_goals (apply Bool.eq_iff_iff.2; simp; try omega)
      all_goals trace_state
end Go.Proofs.YtojnagonhihknaaGreatDoor
set_option linter.unusedVariables false
namespace Go.Proofs.YtojnagonhihknaaGreatDoor
open Go.ChangeShapes Go.WideShapes Go.ChangeAt Go.RowKit

theorem contains_ten (s : ByteArray) : decide (0 ≤ Lib.indexByte s.data.toList 10) = s.data.toList.contains 10 := by
  have h := Lib.indexByte_ge s.data.toList 10
  by_cases hc : 0 ≤ Lib.indexByte s.data.toList 10
  · rw [decide_eq_true hc]
    obtain ⟨o, ho⟩ : ∃ o : Nat, Lib.indexByte s.data.toList 10 = o := ⟨(Lib.indexByte s.data.toList 10).toNat, by omega⟩
    have := List.mem_of_getElem? (Lib.indexByte_some ho).1
    exact (List.contains_iff_mem.2 this).symm
  · rw [decide_eq_false hc]
    have h1 := Lib.indexByte_none (l := s.data.toList) (c := 10) (by omega)
    symm
    rw [Bool.eq_false_iff]
    intro hm
    obtain ⟨k, hk⟩ := List.mem_iff_getElem?.1 (List.contains_iff_mem.1 hm)
    exact h1 k hk

theorem all_step {α : Type} {f : α → Bool} {l : List α} {k : Nat} {x : α} (h : (l.take k).all f = true) (hx : l[k]? = some x) (hf : f x = true) : (l.take (k + 1)).all f = true := by
  rw [take_snoc hx, List.all_append, h]; simp [hf]
theorem all_end {α : Type} {f : α → Bool} {l : List α} {k : Nat} (h : (l.take k).all f = true) (hk : l.length ≤ k) : l.all f = true := by
  rwa [List.take_of_length_le hk] at h
theorem all_no {α : Type} {f : α → Bool} {l : List α} {k : Nat} {x : α} (hx : l[k]? = some x) (hf : f x = false) : l.all f = false := by
  rw [List.all_eq_false]
  exact ⟨x, List.mem_of_getElem? hx, by rw [hf]; simp⟩

set_option maxHeartbeats 2000000 in
set_option maxRecDepth 100000 in
theorem plines_any (deps made : Nat) (xs : Lb) (v : Value) (w : World) (hm : made ≤ 300) (hr : Reads w v xs) (hs : ∀ x ∈ xs, x.size ≤ 140737488355328) :
    Calls Tryz.prog 166 #[ckV deps made, v] w fun e w' => e = .returned (.bool (decide (xs.length ≠ 0) && decide (xs.length + made ≤ 300) && xs.all lineB)) ∧ Below w.heap.size w w' := by
  obtain ⟨a, c, rfl, hn⟩ := hr.form
  obtain ⟨n, hnn⟩ : ∃ n, n = xs.length := ⟨_, rfl⟩
  have hb0 : ∀ o, Below w.heap.size w (w.alloc o) := fun o => (Below.refl _ _).alloc (Nat.le_refl _) _
  rw [← hnn] at hr hn ⊢
  have HN := Lib.hid hnn
  have HR := Lib.hid hr
  have HS := Lib.hid hs
  have HB0 := Lib.hid hb0
  clear hnn hr hs hb0
  by_cases h0 : n = 0
  · subst h0
    go_enter Tryz.func166, Tryz.ntmps166
    go_wp2_with fail
    all_goals go_ret
    all_goals exact ⟨rfl, HB0.out _⟩
  · have e1 : ((n : Int) == 0) = false := by simp [h0]
    have e3 : IntKind.i64.wrap (300 - (made : Int)) = 300 - (made : Int) := IntWalk.i64_in _ (by omega)
    by_cases h3 : n + made ≤ 300
    · have e2 : ¬ (300 - (made : Int) < n) := by omega
      go_enter Tryz.func166, Tryz.ntmps166
      go_wp2_with fail
      go_loopw [20] (fun i wr => ∃ k : Nat, k ≤ n ∧ i = .int .i64 k ∧ Below (w.heap.size + 1) (w.alloc (.cells #[.int .i64 (deps : Nat), .int .i64 (made : Nat)] 222)) wr ∧ Hid ((xs.take k).all lineB = true)) (fun i _ => n - (intOf i).toNat)
      case atStart => exact ⟨0, Nat.zero_le _, rfl, Below.refl _ _, Lib.hid (by simp)⟩
      case round =>
        obtain ⟨k, hk, rfl, hb, HA⟩ := hrel
        have hbb : Below w.heap.size w wr := (HB0.out _).trans (hb.mono (Nat.le_succ _))
        have HB := Lib.hid hb
        have HBB := Lib.hid hbb
        clear hb hbb
        by_cases hlt : k < n
        · obtain ⟨x, hx⟩ : ∃ x, xs[k]? = some x := ⟨xs[k]'(by rw [← HN.out]; exact hlt), by simp⟩
          obtain ⟨b, o, rfl, hnl, hcl⟩ := HR.out.at hx
          clear hnl
          have hcell := ((hcl.below HBB.out).2 k x hx)
          have hsx := HS.out x (List.mem_of_getElem? hx)
          have HX := Lib.hid hx
          clear hx hcl
          by_cases g1 : 500 < x.size
          · have g1' : (500 : Int) < x.size := by omega
            go_wp2_with fail
            all_goals go_ret
            all_goals refine ⟨ret_bool ?_, HBB.out⟩
            all_goals (rw [all_no HX.out (by simp [lineB]; omega)]; simp)
          · have g1' : ¬ (500 : Int) < x.size := by omega
            have c1 := Tryz.strings_Contains_one x 10 wr
            rw [contains_ten] at c1
            have c2 := marker_any x wr (by omega)
            have hlb : lineB x = (!x.data.toList.contains 10 && !mk x.data.toList) := by unfold lineB; rw [decide_eq_true (by omega : x.size ≤ 500), Bool.true_and]
            obtain ⟨p, hp⟩ : ∃ p, p = x.data.toList.contains 10 := ⟨_, rfl⟩
            obtain ⟨q, hq⟩ : ∃ q, q = mk x.data.toList := ⟨_, rfl⟩
            rw [← hp] at c1 hlb
            rw [← hq] at c2 hlb
            have C1 := Lib.hid c1
            have C2 := Lib.hid c2
            have HLB := Lib.hid hlb
            clear c1 c2 hp hq hlb
            cases p with
            | true =>
              go_wp2_with (first | (go_at_call 182; refine C1.out.mono ?_; rintro e w2 ⟨rfl, rfl⟩) | (go_at_call 183; refine C2.out.mono ?_; rintro e w2 ⟨rfl, rfl⟩))
              all_goals go_ret
              all_goals refine ⟨ret_bool ?_, HBB.out⟩
              all_goals (rw [all_no HX.out (by rw [HLB.out]; rfl)]; simp)
            | false =>
              cases q with
              | true =>
                go_wp2_with (first | (go_at_call 182; refine C1.out.mono ?_; rintro e w2 ⟨rfl, rfl⟩) | (go_at_call 183; refine C2.out.mono ?_; rintro e w2 ⟨rfl, rfl⟩))
                all_goals go_ret
                all_goals refine ⟨ret_bool ?_, HBB.out⟩
                all_goals (rw [all_no HX.out (by rw [HLB.out]; rfl)]; simp)
              | false =>
                go_wp2_with (first | (go_at_call 182; refine C1.out.mono ?_; rintro e w2 ⟨rfl, rfl⟩) | (go_at_call 183; refine C2.out.mono ?_; rintro e w2 ⟨rfl, rfl⟩))
                exact ⟨⟨k + 1, by omega, by go_num, HB.out, Lib.hid (all_step HA.out HX.out (by rw [HLB.out]; rfl))⟩, by simp [intOf]; omega⟩
        · go_wp2
          go_ret
          refine ⟨ret_bool ?_, HBB.out⟩
          rw [all_end HA.out (by rw [← HN.out]; omega)]
          simp [h0, h3]
    · have e2 : (300 - (made : Int) < n) := by omega
      go_enter Tryz.func166, Tryz.ntmps166
      go_wp2_with fail
      all_goals go_ret
      all_goals exact ⟨ret_bool (by simp [h3]), HB0.out _⟩
end Go.Proofs.YtojnagonhihknaaGreatDoor
set_option linter.unusedVariables false
namespace Go.Proofs.YtojnagonhihknaaGreatDoor
open Go.ChangeShapes Go.WideShapes Go.ChangeAt Go.RowKit

theorem right_all (s : ByteArray) (w : World) :
    Calls Tryz.prog 165 #[.string s] w fun e w' => e = .returned (.bool (rightL s.data.toList)) ∧ Below w.heap.size w w' := by
  by_cases h64 : s.size = 64
  · exact right_any s w (by omega)
  · have t1 : ((s.size : Int) == 64) = false := by rw [beq_eq_false_iff_ne]; omega
    have hl : s.data.toList.length = s.size := Array.length_toList
    have e1 : rightL s.data.toList = false := by rw [rightL, hl]; simp [h64]
    rw [e1]
    clear hl e1
    go_enter Tryz.func165, Tryz.ntmps165
    go_wp2
    go_ret
    exact ⟨rfl, Below.refl _ _⟩

theorem le_iff (x y : ByteArray) : (Op.bytesLess x.toList y.toList || x.toList == y.toList) = true ↔ x.data.toList ≤ y.data.toList := by
  rw [Go.Proofs.bytesLess_eq, ByteArray.toList_eq, ByteArray.toList_eq]
  simp only [Bool.or_eq_true, decide_eq_true_eq, beq_iff_eq]
  constructor
  · rintro (h | h)
    · exact List.le_of_lt h
    · rw [h]; exact List.le_refl _
  · intro h
    by_cases e : x.data.toList < y.data.toList
    · exact .inl e
    · exact .inr (List.le_antisymm h (List.not_lt.1 e))

theorem ris_no {d : Lb} {k : Nat} {x : ByteArray} (hx : d[k]? = some x) (h : ¬ (rightL x.data.toList = true ∧ ∀ i y, k = i + 1 → d[i]? = some y → ¬ x.data.toList ≤ y.data.toList)) : risB d = false := by
  rw [Bool.eq_false_iff]
  intro hb
  exact h ((risB_iff.1 hb).2 k (List.getElem?_eq_some_iff.1 hx).1 x hx)
theorem ris_step {d : Lb} {k : Nat} {x : ByteArray} (h : Ris d k) (hx : d[k]? = some x) (h1 : rightL x.data.toList = true) (h2 : ∀ i y, k = i + 1 → d[i]? = some y → ¬ x.data.toList ≤ y.data.toList) : Ris d (k + 1) := by
  intro j hj z hz
  by_cases e : j = k
  · subst e
    rw [hx] at hz
    injection hz with hz
    subst hz
    exact ⟨h1, h2⟩
  · exact h j (by omega) z hz

set_option maxHeartbeats 2000000 in
set_option maxRecDepth 100000 in
theorem prising_any (d : Lb) (v : Value) (w : World) (hr : Reads w v d) :
    Calls Tryz.prog 133 #[v] w fun e w' => e = .returned (.bool (risB d)) ∧ Below w.heap.size w w' := by
  obtain ⟨a, c, rfl, hn⟩ := hr.form
  obtain ⟨n, hnn⟩ : ∃ n, n = d.length := ⟨_, rfl⟩
  rw [← hnn] at hr hn ⊢
  have HN := Lib.hid hnn
  have HR := Lib.hid hr
  clear hnn hr
  by_cases h64 : 64 < n
  · have e1 : (64 : Int) < n := by omega
    go_enter Tryz.func133, Tryz.ntmps133
    go_wp2_with fail
    go_ret
    refine ⟨ret_bool ?_, Below.refl _ _⟩
    symm
    rw [Bool.eq_false_iff]
    intro hb
    have := (risB_iff.1 hb).1
    have := HN.out
    omega
  · have e1 : ¬ (64 : Int) < n := by omega
    go_enter Tryz.func133, Tryz.ntmps133
    go_wp2_with fail
    go_loopw [10] (fun i wr => ∃ k : Nat, k ≤ n ∧ i = .int .i64 k ∧ Below w.heap.size w wr ∧ Hid (Ris d k)) (fun i _ => n - (intOf i).toNat)
    case atStart => exact ⟨0, Nat.zero_le _, rfl, Below.refl _ _, Lib.hid (fun j hj => absurd hj (Nat.not_lt_zero _))⟩
    case round =>
      obtain ⟨k, hk, rfl, hb, HA⟩ := hrel
      have HB := Lib.hid hb
      clear hb
      by_cases hlt : k < n
      · obtain ⟨x, hx⟩ : ∃ x, d[k]? = some x := ⟨d[k]'(by rw [← HN.out]; exact hlt), by simp⟩
        obtain ⟨b, o, rfl, hnl, hcl⟩ := HR.out.at hx
        clear hnl
        have hcell := (hcl.below HB.out).2 k x hx
        have hcr := right_all x wr
        obtain ⟨r, hrr⟩ : ∃ r, r = rightL x.data.toList := ⟨_, rfl⟩
        rw [← hrr] at hcr
        have HX := Lib.hid hx
        have HCL := Lib.hid hcl
        have HRR := Lib.hid hrr
        have HCR := Lib.hid hcr
        clear hx hcl hrr hcr
        cases r with
        | false =>
          go_wp2_with (go_at_call 165; refine HCR.out.mono ?_; rintro e w2 ⟨rfl, hb2⟩; have HB2 := Lib.hid (HB.out.trans (hb2.mono HB.out.size)); clear hb2)
          all_goals go_ret
          all_goals refine ⟨ret_bool ?_, HB2.out⟩
          all_goals (rw [ris_no HX.out (fun h => by rw [← HRR.out] at h; cases h.1)])
        | true =>
          by_cases hk0 : k = 0
          · have p1 : ¬ (0 : Int) < (k : Int) := by omega
            have HK0 := Lib.hid hk0
            clear hk0
            go_wp2_with (go_at_call 165; refine HCR.out.mono ?_; rintro e w2 ⟨rfl, hb2⟩; have HB2 := Lib.hid (HB.out.trans (hb2.mono HB.out.size)); clear hb2)
            exact ⟨⟨k + 1, by omega, by go_num, HB2.out, Lib.hid (ris_step HA.out HX.out HRR.out.symm (fun i y e => by have := HK0.out; omega))⟩, by simp [intOf]; omega⟩
          · obtain ⟨j, hj⟩ : ∃ j, k = j + 1 := ⟨k - 1, by omega⟩
            obtain ⟨y, hy⟩ : ∃ y, d[j]? = some y := ⟨d[j]'(by rw [← HN.out]; omega), by simp⟩
            have hcy := (HCL.out.below HB.out).2 j y hy
            obtain ⟨q, hq⟩ : ∃ q, (Op.bytesLess x.toList y.toList || x.toList == y.toList) = q := ⟨_, rfl⟩
            have p1 : (0 : Int) < (k : Int) := by omega
            have p2 : IntKind.i64.wrap ((k : Int) - 1) = (j : Int) := by rw [show (k : Int) - 1 = (j : Int) by omega]; exact IntWalk.i64_in _ (by omega)
            have p3 : (j : Int) < n := by omega
            have hle := le_iff x y
            rw [hq] at hle
            have HLE := Lib.hid hle
            have HY := Lib.hid hy
            have HJ := Lib.hid hj
            clear hy hj hk0 hle
            cases q with
            | true =>
              go_wp2_with (go_at_call 165; refine HCR.out.mono ?_; rintro e w2 ⟨rfl, hb2⟩; have hcy2 := (hb2.cell (p := ⟨b, o + j, none⟩) (cell_lt hcy)).trans hcy; have HB2 := Lib.hid (HB.out.trans (hb2.mono HB.out.size)); clear hb2)
              all_goals go_ret
              all_goals refine ⟨ret_bool ?_, HB2.out⟩
              all_goals (rw [ris_no HX.out (fun h => h.2 j y HJ.out HY.out (HLE.out.1 trivial))])
            | false =>
              go_wp2_with (go_at_call 165; refine HCR.out.mono ?_; rintro e w2 ⟨rfl, hb2⟩; have hcy2 := (hb2.cell (p := ⟨b, o + j, none⟩) (cell_lt hcy)).trans hcy; have HB2 := Lib.hid (HB.out.trans (hb2.mono HB.out.size)); clear hb2)
              refine ⟨⟨k + 1, by omega, by go_num, HB2.out, Lib.hid (ris_step HA.out HX.out HRR.out.symm (fun i z e hz hle => ?_))⟩, by simp [intOf]; omega⟩
              have e1 : i = j := by have := HJ.out; omega
              subst e1
              rw [HY.out] at hz
              injection hz with hz
              subst hz
              exact Bool.false_ne_true (HLE.out.2 hle)
      · have hke : n ≤ k := by omega
        have hrs : risB d = true := risB_iff.2 ⟨by rw [← HN.out]; omega, fun j hj x hx => HA.out j (by have := HN.out; omega) x hx⟩
        have HRS := Lib.hid hrs
        clear hrs hke
        go_wp2
        go_ret
        exact ⟨ret_bool HRS.out.symm, HB.out⟩
end Go.Proofs.YtojnagonhihknaaGreatDoor
