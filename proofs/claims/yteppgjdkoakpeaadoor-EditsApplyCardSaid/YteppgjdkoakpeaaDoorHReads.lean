/- Hunks that are read. -/
import Derived.Test.YteppgjdkoakpeaaDoorJoinFn
import Derived.Test.YteppgjdkoakpeaaDoorTail
import Derived.Test.YteppgjdkoakpeaaDoorDiffMath
set_option linter.unusedVariables false
namespace Go.Proofs.YteppgjdkoakpeaaDoor
open Go.ChangeShapes Go.WideShapes Go.ChangeAt Go.RowKit

/-- From block b, offset o on lie the hunks ps, each with the slice of its lines. -/
def HCells (w : World) (b o : Nat) (ps : List (Hk × Value)) : Prop :=
  b < w.heap.size ∧ ∀ (j : Nat) p, ps[j]? = some p → w.cell? ⟨b, o + j * 3, none⟩ = some (.int .i64 p.1.at_) ∧ w.cell? ⟨b, o + j * 3 + 1, none⟩ = some (.int .i64 p.1.cut) ∧ w.cell? ⟨b, o + j * 3 + 2, none⟩ = some p.2 ∧ Sl w p.2 p.1.put

/-- The slice value v reads as the hunks hs. -/
def HReads (w : World) (v : Value) (hs : List Hk) : Prop :=
  ∃ ps : List (Hk × Value), ps.map (·.1) = hs ∧ ((ps = [] ∧ ∃ a c, v = .slice a 0 c) ∨ (ps ≠ [] ∧ ∃ b o c, v = .slice (some ⟨b, o, none⟩) ps.length c ∧ ps.length ≤ c ∧ c ≤ 9223372036854775807 ∧ HCells w b o ps))

theorem HCells.below {w w' : World} {b o : Nat} {ps : List (Hk × Value)} (h : HCells w b o ps) (hb : Below w.heap.size w w') : HCells w' b o ps :=
  ⟨Nat.lt_of_lt_of_le h.1 hb.size, fun j p hp => by
    obtain ⟨c1, c2, c3, c4⟩ := h.2 j p hp
    exact ⟨(hb.cell (p := ⟨b, o + j * 3, none⟩) h.1).trans c1, (hb.cell (p := ⟨b, o + j * 3 + 1, none⟩) h.1).trans c2, (hb.cell (p := ⟨b, o + j * 3 + 2, none⟩) h.1).trans c3, c4.below hb⟩⟩
theorem HReads.below {w w' : World} {v : Value} {hs : List Hk} (h : HReads w v hs) (hb : Below w.heap.size w w') : HReads w' v hs := by
  obtain ⟨ps, e, h | ⟨hn, b, o, c, hv, h1, h2, h3⟩⟩ := h
  · exact ⟨ps, e, .inl h⟩
  · exact ⟨ps, e, .inr ⟨hn, b, o, c, hv, h1, h2, h3.below hb⟩⟩
theorem HReads.drewN {w : World} {v : Value} {hs : List Hk} {n : Nat} (h : HReads w v hs) : HReads (w.drewN n) v hs := h
theorem HReads.len {w : World} {v : Value} {hs : List Hk} (h : HReads w v hs) : ∃ a c, v = .slice a hs.length c ∧ hs.length ≤ 9223372036854775807 := by
  obtain ⟨ps, rfl, ⟨rfl, a, c, rfl⟩ | ⟨hn, b, o, c, rfl, h1, h2, h3⟩⟩ := h
  · exact ⟨a, c, rfl, by simp⟩
  · exact ⟨_, c, by rw [List.length_map], by rw [List.length_map]; omega⟩

theorem own_sl {w : World} {base : Nat} {v : Value} {n : Nat} {xs : Ls} (h : w.ownsRow base 9 1 v n (xs.map .string)) : Sl w v xs := by
  have hl : xs.length = n := by have := h.1; simpa using this
  subst hl
  rcases h.2 with ⟨rfl, h0⟩ | ⟨g, cap, cur, rfl, hb, hg, hnc, hm, hs, ht⟩
  · exact .inl ⟨rfl, List.length_eq_zero_iff.1 h0⟩
  · refine .inr ⟨_, cap, rfl, hnc, by unfold maxLen at hm; omega, fun _ => ⟨g, 0, rfl, (Array.getElem?_eq_some_iff.1 hg).1, fun j x hx => ?_⟩⟩
    have hj : j < xs.length := (List.getElem?_eq_some_iff.1 hx).1
    have := h.cellAt j (by omega)
    rw [Nat.zero_add, this]
    simp [hx]

theorem OwnP.reads {Z : Nat → Prop} {base : Nat} {w : World} {hv : Value} {ps : List (Hk × Value)} (h : OwnP Z base w hv ps) : HReads w hv (ps.map (·.1)) := by
  refine ⟨ps, rfl, ?_⟩
  by_cases e : ps = []
  · subst e
    rcases h.row.2 with ⟨rfl, _⟩ | ⟨g, cap, cur, rfl, _⟩
    · exact .inl ⟨rfl, _, _, rfl⟩
    · exact .inl ⟨rfl, _, _, rfl⟩
  · right
    have hr := h.row
    rcases hr.2 with ⟨rfl, h0⟩ | ⟨g, cap, cur, rfl, hb, hg, hnc, hm, hs, ht⟩
    · exact absurd (List.length_eq_zero_iff.1 h0) e
    · refine ⟨e, g, 0, cap, rfl, hnc, by unfold maxLen at hm; omega, (Array.getElem?_eq_some_iff.1 hg).1, fun j p hp => ?_⟩
      have hj : j < ps.length := (List.getElem?_eq_some_iff.1 hp).1
      obtain ⟨c1, c2, c3⟩ := hcells_at hp
      rw [Nat.zero_add, hr.cellAt _ (by omega), hr.cellAt _ (by omega), hr.cellAt _ (by omega)]
      exact ⟨c1, c2, c3, own_sl (h.puts p (List.mem_of_getElem? hp)).1⟩
end Go.Proofs.YteppgjdkoakpeaaDoor
