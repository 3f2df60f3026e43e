/- Memory of hunks while they are made: the row of hunks, and each hunk's own row of lines. -/
import Derived.Test.YteppgjdkoakpeaaDoorRetrace
set_option linter.unusedVariables false
namespace Go.Proofs.YteppgjdkoakpeaaDoor
open Go.ChangeShapes Go.WideShapes Go.ChangeAt Go.RowKit

theorem Tryd.infoHunk : (Tryd.prog.info? 26).map (fun i => (i.zero, i.size, i.bytes)) = some (some (.agg #[.int .i64 0, .int .i64 0, .slice none 0 0]), 3, 40) := by kernel_rfl
theorem Tryd.infoStr : (Tryd.prog.info? 9).map (fun i => (i.zero, i.size, i.bytes)) = some (some (.string ByteArray.empty), 1, 16) := by kernel_rfl

def hcells (ps : List (Hk × Value)) : List Value := ps.flatMap fun p => [.int .i64 p.1.at_, .int .i64 p.1.cut, p.2]
theorem hcells_append (ps qs : List (Hk × Value)) : hcells (ps ++ qs) = hcells ps ++ hcells qs := by simp [hcells]
theorem hcells_one (p : Hk × Value) : hcells [p] = [.int .i64 p.1.at_, .int .i64 p.1.cut, p.2] := by simp [hcells]
theorem hcells_length (ps : List (Hk × Value)) : (hcells ps).length = ps.length * 3 := by
  induction ps with
  | nil => rfl
  | cons p r ih => rw [show p :: r = [p] ++ r from rfl, hcells_append, List.length_append, ih, hcells_one]; simp; omega

theorem hcells_at {ps : List (Hk × Value)} {j : Nat} {p : Hk × Value} (h : ps[j]? = some p) : (hcells ps)[j * 3]? = some (.int .i64 p.1.at_) ∧ (hcells ps)[j * 3 + 1]? = some (.int .i64 p.1.cut) ∧ (hcells ps)[j * 3 + 2]? = some p.2 := by
  obtain ⟨hj, e⟩ := List.getElem?_eq_some_iff.1 h
  have e1 : ps = ps.take j ++ [p] ++ ps.drop (j + 1) := by
    rw [List.append_assoc, List.singleton_append, ← e, List.getElem_cons_drop, List.take_append_drop]
  have hl : (hcells (ps.take j)).length = j * 3 := by rw [hcells_length, List.length_take]; omega
  rw [e1, hcells_append, hcells_append, hcells_one]
  refine ⟨?_, ?_, ?_⟩ <;> rw [List.append_assoc, List.getElem?_append_right (by omega), hl, List.getElem?_append_left (by simp; try omega)]
  · simp
  · rw [show j * 3 + 1 - j * 3 = 1 by omega]; rfl
  · rw [show j * 3 + 2 - j * 3 = 2 by omega]; rfl

theorem hcells_set1 (init : List (Hk × Value)) (k : Hk) (pv : Value) (c : Int) : (hcells (init ++ [(k, pv)])).set (init.length * 3 + 1) (.int .i64 c) = hcells (init ++ [({ k with cut := c }, pv)]) := by
  rw [hcells_append, hcells_append, List.set_append_right _ _ (by rw [hcells_length]; omega), hcells_length, hcells_one, hcells_one, show init.length * 3 + 1 - init.length * 3 = 1 by omega]
  rfl
theorem hcells_set2 (init : List (Hk × Value)) (k k' : Hk) (pv pv' : Value) (h1 : k'.at_ = k.at_) (h2 : k'.cut = k.cut) : (hcells (init ++ [(k, pv)])).set (init.length * 3 + 2) pv' = hcells (init ++ [(k', pv')]) := by
  rw [hcells_append, hcells_append, List.set_append_right _ _ (by rw [hcells_length]; omega), hcells_length, hcells_one, hcells_one, show init.length * 3 + 2 - init.length * 3 = 2 by omega, h1, h2]
  rfl

/-- Outside of the blocks Z nothing has turned. -/
structure Off (Z : Nat → Prop) (w w' : World) : Prop where
  os : w'.os = w.os
  tape : w'.tape = w.tape
  output : w'.output = w.output
  size : w.heap.size ≤ w'.heap.size
  block : ∀ i, i < w.heap.size → ¬ Z i → w'.heap[i]? = w.heap[i]?

theorem Off.refl (Z : Nat → Prop) (w : World) : Off Z w w := ⟨rfl, rfl, rfl, Nat.le_refl _, fun _ _ _ => rfl⟩
theorem Off.trans {Z : Nat → Prop} {a b c : World} (h : Off Z a b) (k : Off Z b c) : Off Z a c :=
  ⟨k.os.trans h.os, k.tape.trans h.tape, k.output.trans h.output, Nat.le_trans h.size k.size, fun i hi hz => (k.block i (Nat.lt_of_lt_of_le hi h.size) hz).trans (h.block i hi hz)⟩
theorem Off.drew {Z : Nat → Prop} {a b : World} (h : Off Z a b) : Off Z a b.drew := ⟨h.os, h.tape, h.output, h.size, h.block⟩
theorem Off.drewN {Z : Nat → Prop} {a b : World} {n : Nat} (h : Off Z a b) : Off Z a (b.drewN n) := ⟨h.os, h.tape, h.output, h.size, h.block⟩
theorem Off.grown {Z : Nat → Prop} {a b c : World} {row : Option Nat} (h : Off Z a b) (hg : b.grownBy c row) (hz : ∀ k, row = some k → Z k) : Off Z a c :=
  h.trans ⟨hg.os, hg.tape, hg.output, hg.size, fun i hi hn => hg.block i hi (fun e => hn (hz i e.symm))⟩
theorem Off.alloc {Z : Nat → Prop} {a b : World} (h : Off Z a b) (o : Obj) : Off Z a (b.alloc o) := h.grown (World.grownBy_alloc b o none) (by simp)
theorem Off.below {Z : Nat → Prop} {a b : World} {B : Nat} (h : Off Z a b) (hz : ∀ i, Z i → B ≤ i) (hB : B ≤ a.heap.size) : Below B a b :=
  ⟨h.os, h.tape, h.output, h.size, fun i hi => h.block i (by omega) (fun z => by have := hz i z; omega)⟩
theorem Off.mono {Z Z' : Nat → Prop} {a b : World} (h : Off Z a b) (hz : ∀ i, Z i → Z' i) : Off Z' a b := ⟨h.os, h.tape, h.output, h.size, fun i hi hn => h.block i hi (fun z => hn (hz i z))⟩

/-- Rows of unlike elements lie in unlike blocks. -/
theorem own_ne {w : World} {base base' size size' n n' : Nat} {e e' : TypeId} {v v' : Value} {xs xs' : List Value} (h : w.ownsRow base e size v n xs) (h' : w.ownsRow base' e' size' v' n' xs') (hne : e ≠ e') : v.ownBlock = none ∨ v.ownBlock ≠ v'.ownBlock := by
  rcases h.2 with ⟨rfl, _⟩ | ⟨g, cap, cur, rfl, _, hg, _⟩
  · left; rfl
  · right
    intro e1
    rcases h'.2 with ⟨rfl, _⟩ | ⟨g', cap', cur', rfl, _, hg', _⟩
    · simp [Value.ownBlock] at e1
    · simp [Value.ownBlock] at e1
      subst e1
      rw [hg] at hg'
      simp only [Option.some.injEq, Obj.cells.injEq] at hg'
      exact hne hg'.2.1

/-- The hunks ps, each with the slice of its lines, are the call's own, in blocks Z. -/
structure OwnP (Z : Nat → Prop) (base : Nat) (w : World) (hv : Value) (ps : List (Hk × Value)) : Prop where
  row : w.ownsRow base 26 3 hv ps.length (hcells ps)
  zrow : ∀ g, hv.ownBlock = some g → Z g
  puts : ∀ p ∈ ps, w.ownsRow base 9 1 p.2 p.1.put.length (p.1.put.map .string) ∧ ∀ g, p.2.ownBlock = some g → Z g
  sep : ∀ init l, ps = init ++ [l] → ∀ p ∈ init, p.2.ownBlock = none ∨ p.2.ownBlock ≠ l.2.ownBlock

theorem OwnP.nil (Z : Nat → Prop) (base : Nat) (w : World) : OwnP Z base w (.slice none 0 0) [] :=
  ⟨World.ownsRow_nil _ _ _ _, by simp [Value.ownBlock], by simp, fun init l h => by simp at h⟩

theorem OwnP.grown {Z : Nat → Prop} {base : Nat} {w w' : World} {hv : Value} {ps : List (Hk × Value)} (h : OwnP Z base w hv ps) (hg : w.grownBy w' none) : OwnP Z base w' hv ps := by
  have hne : ∀ v : Value, v.ownBlock = none ∨ v.ownBlock ≠ none := fun v => by cases v.ownBlock <;> simp
  exact ⟨h.row.kept hg (hne _), h.zrow, fun p hp => ⟨(h.puts p hp).1.kept hg (hne _), (h.puts p hp).2⟩, h.sep⟩
theorem OwnP.alloc {Z : Nat → Prop} {base : Nat} {w : World} {hv : Value} {ps : List (Hk × Value)} (h : OwnP Z base w hv ps) (o : Obj) : OwnP Z base (w.alloc o) hv ps := h.grown (World.grownBy_alloc w o none)
theorem OwnP.drew {Z : Nat → Prop} {base : Nat} {w : World} {hv : Value} {ps : List (Hk × Value)} (h : OwnP Z base w hv ps) : OwnP Z base w.drew hv ps := ⟨h.row, h.zrow, h.puts, h.sep⟩
theorem OwnP.drewN {Z : Nat → Prop} {base n : Nat} {w : World} {hv : Value} {ps : List (Hk × Value)} (h : OwnP Z base w hv ps) : OwnP Z base (w.drewN n) hv ps := ⟨h.row, h.zrow, h.puts, h.sep⟩
theorem OwnP.mono {Z Z' : Nat → Prop} {base : Nat} {w : World} {hv : Value} {ps : List (Hk × Value)} (h : OwnP Z base w hv ps) (hz : ∀ i, base ≤ i → i < w.heap.size → Z i → Z' i) : OwnP Z' base w hv ps :=
  ⟨h.row, fun g hg => hz g (h.row.lt g hg).1 (h.row.lt g hg).2 (h.zrow g hg), fun p hp => ⟨(h.puts p hp).1, fun g hg => hz g ((h.puts p hp).1.lt g hg).1 ((h.puts p hp).1.lt g hg).2 ((h.puts p hp).2 g hg)⟩, h.sep⟩

theorem OwnP.below {Z : Nat → Prop} {base B : Nat} {w w' : World} {hv : Value} {ps : List (Hk × Value)} (h : OwnP Z base w hv ps) (hb : Below w.heap.size w w') : OwnP Z base w' hv ps :=
  h.grown ⟨hb.os, hb.tape, hb.output, hb.size, fun k hk _ => hb.block k hk⟩

theorem OwnP.push {Z : Nat → Prop} {base : Nat} {w w' : World} {hv : Value} {ps : List (Hk × Value)} (h : OwnP Z base w hv ps) {g cap : Nat} {k : Hk} (hk : k.put = [])
    (hown : w'.ownsRow base 26 3 (.slice (some ⟨g, 0, none⟩) (ps.length + 1) cap) (ps.length + 1) (hcells ps ++ [.int .i64 k.at_, .int .i64 k.cut, .slice none 0 0])) (hg : w.grownBy w' hv.ownBlock) (hat : hv.ownBlock = some g ∨ g = w.heap.size) (hZ : ∀ i, w.heap.size ≤ i → Z i) :
    OwnP Z base w' (.slice (some ⟨g, 0, none⟩) (ps.length + 1) cap) (ps ++ [(k, .slice none 0 0)]) := by
  refine ⟨?_, ?_, ?_, ?_⟩
  · rw [hcells_append, hcells_one, List.length_append]; exact hown
  · intro i hi
    have : g = i := by simpa [Value.ownBlock] using hi
    subst this
    rcases hat with e | e
    · exact h.zrow g e
    · exact hZ g (by omega)
  · intro p hp
    rcases List.mem_append.1 hp with hp | hp
    · exact ⟨(h.puts p hp).1.kept hg (own_ne (h.puts p hp).1 h.row (by decide)), (h.puts p hp).2⟩
    · have : p = (k, .slice none 0 0) := by simpa using hp
      subst this
      rw [hk]
      exact ⟨World.ownsRow_nil _ _ _ _, by simp [Value.ownBlock]⟩
  · intro init l e p hp
    have e2 := List.append_inj' e rfl
    have : l = (k, .slice none 0 0) := by simpa using e2.2.symm
    subst this
    cases hb : p.2.ownBlock with
    | none => left; rfl
    | some i => right; simp [Value.ownBlock]

theorem OwnP.setCut {Z : Nat → Prop} {base g cap : Nat} {w : World} {init : List (Hk × Value)} {k : Hk} {pv : Value} {n : Nat} (h : OwnP Z base w (.slice (some ⟨g, 0, none⟩) n cap) (init ++ [(k, pv)])) (hn : n = init.length + 1) (c : Int) :
    OwnP Z base (w.setCell ⟨g, init.length * 3 + 1, none⟩ (.int .i64 c)) (.slice (some ⟨g, 0, none⟩) n cap) (init ++ [({ k with cut := c }, pv)]) ∧ w.grownBy (w.setCell ⟨g, init.length * 3 + 1, none⟩ (.int .i64 c)) (some g) := by
  have hrow := h.row
  rw [List.length_append, List.length_singleton, ← hn] at hrow
  obtain ⟨h1, h2⟩ := hrow.stored (init.length * 3 + 1) (.int .i64 c)
  rw [hcells_set1] at h1
  refine ⟨⟨by rw [List.length_append, List.length_singleton, ← hn]; exact h1, h.zrow, ?_, ?_⟩, h2⟩
  · intro p hp
    have hk : ∀ q ∈ init ++ [(k, pv)], (w.setCell ⟨g, init.length * 3 + 1, none⟩ (.int .i64 c)).ownsRow base 9 1 q.2 q.1.put.length (q.1.put.map .string) ∧ ∀ g, q.2.ownBlock = some g → Z g :=
      fun q hq => ⟨(h.puts q hq).1.kept h2 (own_ne (h.puts q hq).1 h.row (by decide)), (h.puts q hq).2⟩
    rcases List.mem_append.1 hp with hp | hp
    · exact hk p (List.mem_append_left _ hp)
    · have : p = ({ k with cut := c }, pv) := by simpa using hp
      subst this
      exact hk (k, pv) (by simp)
  · intro i l e p hp
    have e2 := List.append_inj' e rfl
    have : l = ({ k with cut := c }, pv) := by simpa using e2.2.symm
    subst this
    rw [← e2.1] at hp
    exact h.sep init (k, pv) rfl p hp

theorem OwnP.setPut {Z : Nat → Prop} {base g cap : Nat} {w w5 : World} {init : List (Hk × Value)} {k : Hk} {pv : Value} {n : Nat} (h : OwnP Z base w (.slice (some ⟨g, 0, none⟩) n cap) (init ++ [(k, pv)])) (hn : n = init.length + 1)
    {g' cap' : Nat} {u : ByteArray} (hown : w5.ownsRow base 9 1 (.slice (some ⟨g', 0, none⟩) (k.put.length + 1) cap') (k.put.length + 1) (k.put.map .string ++ [.string u])) (hg : w.grownBy w5 pv.ownBlock) (hat : pv.ownBlock = some g' ∨ g' = w.heap.size)
    (hZ : ∀ i, w.heap.size ≤ i → Z i) :
    OwnP Z base (w5.setCell ⟨g, init.length * 3 + 2, none⟩ (.slice (some ⟨g', 0, none⟩) (k.put.length + 1) cap')) (.slice (some ⟨g, 0, none⟩) n cap) (init ++ [({ k with put := k.put ++ [u] }, .slice (some ⟨g', 0, none⟩) (k.put.length + 1) cap')]) ∧
      w5.grownBy (w5.setCell ⟨g, init.length * 3 + 2, none⟩ (.slice (some ⟨g', 0, none⟩) (k.put.length + 1) cap')) (some g) := by
  have hrow := h.row
  rw [List.length_append, List.length_singleton, ← hn] at hrow
  have hlast := h.puts (k, pv) (by simp)
  have hrow5 := hrow.kept hg (own_ne hrow hlast.1 (by decide))
  obtain ⟨h1, h2⟩ := hrow5.stored (init.length * 3 + 2) (.slice (some ⟨g', 0, none⟩) (k.put.length + 1) cap')
  rw [hcells_set2 init k { k with put := k.put ++ [u] } pv _ rfl rfl] at h1
  refine ⟨⟨by rw [List.length_append, List.length_singleton, ← hn]; exact h1, h.zrow, ?_, ?_⟩, h2⟩
  · intro p hp
    rcases List.mem_append.1 hp with hp | hp
    · have hp' := h.puts p (List.mem_append_left _ hp)
      have hp5 := hp'.1.kept hg (h.sep init (k, pv) rfl p hp)
      exact ⟨hp5.kept h2 (own_ne hp5 hrow5 (by decide)), hp'.2⟩
    · have : p = ({ k with put := k.put ++ [u] }, .slice (some ⟨g', 0, none⟩) (k.put.length + 1) cap') := by simpa using hp
      subst this
      refine ⟨?_, ?_⟩
      · have := hown.kept h2 (own_ne hown hrow5 (by decide))
        simpa using this
      · intro i hi
        have : g' = i := by simpa [Value.ownBlock] using hi
        subst this
        rcases hat with e | e
        · exact hlast.2 g' e
        · exact hZ g' (by omega)
  · intro i l e p hp
    have e2 := List.append_inj' e rfl
    have : l = ({ k with put := k.put ++ [u] }, .slice (some ⟨g', 0, none⟩) (k.put.length + 1) cap') := by simpa using e2.2.symm
    subst this
    rw [← e2.1] at hp
    have hs := h.sep init (k, pv) rfl p hp
    rcases hs with hs | hs
    · exact .inl hs
    · right
      rcases hat with e | e
      · rw [e] at hs; exact hs
      · intro e'
        have hlt := (h.puts p (List.mem_append_left _ hp)).1.lt g' (by rw [e']; rfl)
        omega
end Go.Proofs.YteppgjdkoakpeaaDoor
