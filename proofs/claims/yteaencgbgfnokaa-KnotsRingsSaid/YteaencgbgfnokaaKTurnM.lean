/- Edges in another order, told twice, turned about; the source that a literal has laid, in a world that draws. -/
import Derived.Test.YteaencgbgfnokaaKSame
import Derived.Deep.RegionLaw
set_option linter.unusedVariables false
namespace Go.Proofs.Yteaencgbgfnokaa
open Go.ChangeShapes Go.WideShapes Go.ChangeAt Go.RowKit

def othL (es : Ed) (r : Nat) : Ed := (es.drop r).reverse.flatMap fun e => [e, e]
def bakL (es : Ed) (r : Nat) : Ed := (es.drop r).reverse.map fun e => (e.2, e.1)
theorem drop_step {es : Ed} {k : Nat} {e : Int × Int} (h : es[k]? = some e) : (es.drop k).reverse = (es.drop (k + 1)).reverse ++ [e] := by
  obtain ⟨hk, he⟩ := List.getElem?_eq_some_iff.1 h
  rw [List.drop_eq_getElem_cons hk, he, List.reverse_cons]
theorem othL_step {es : Ed} {k : Nat} {e : Int × Int} (h : es[k]? = some e) : othL es k = othL es (k + 1) ++ [e, e] := by
  unfold othL
  rw [drop_step h, List.flatMap_append]
  rfl
theorem bakL_step {es : Ed} {k : Nat} {e : Int × Int} (h : es[k]? = some e) : bakL es k = bakL es (k + 1) ++ [(e.2, e.1)] := by
  unfold bakL
  rw [drop_step h, List.map_append]
  rfl
theorem othL_len (es : Ed) (r : Nat) : (othL es r).length = 2 * (es.length - r) := by
  have : ∀ l : Ed, (l.flatMap fun e => [e, e]).length = 2 * l.length := by
    intro l
    induction l with
    | nil => rfl
    | cons a l ih => rw [List.flatMap_cons, List.length_append, ih, List.length_cons]; simp; omega
  unfold othL
  rw [this, List.length_reverse, List.length_drop]
theorem bakL_len (es : Ed) (r : Nat) : (bakL es r).length = es.length - r := by simp [bakL]
theorem mem_toN {n : Int} {es : Ed} {e : Nat × Nat} : e ∈ toN (amongL n es) ↔ ∃ x ∈ es, rightP n x = true ∧ e = (x.1.toNat, x.2.toNat) := by
  unfold toN amongL
  simp only [List.mem_map, List.mem_filter]
  constructor
  · rintro ⟨x, ⟨h1, h2⟩, h3⟩; exact ⟨x, h1, h2, h3.symm⟩
  · rintro ⟨x, h1, h2, h3⟩; exact ⟨x, ⟨h1, h2⟩, h3.symm⟩
theorem oth_same (n : Int) (es : Ed) (e : Nat × Nat) : e ∈ toN (amongL n es) ↔ e ∈ toN (amongL n (othL es 0)) := by
  have : ∀ x, x ∈ othL es 0 ↔ x ∈ es := by
    intro x
    simp [othL]
  rw [mem_toN, mem_toN]
  simp only [this]
theorem bak_turn (n : Int) (es : Ed) (a b : Nat) : EdR (toN (amongL n es)) a b ↔ EdR (toN (amongL n (bakL es 0))) b a := by
  unfold EdR
  rw [mem_toN, mem_toN]
  constructor
  · rintro ⟨x, h1, h2, h3⟩
    refine ⟨(x.2, x.1), by simp [bakL]; exact ⟨_, _, h1, rfl, rfl⟩, ?_, ?_⟩
    · have := rightP_iff.1 h2
      exact rightP_iff.2 ⟨this.2.1, this.1, this.2.2.2, this.2.2.1⟩
    · injection h3 with e1 e2
      rw [e1, e2]
  · rintro ⟨x, h1, h2, h3⟩
    obtain ⟨x0, h4, rfl⟩ := List.mem_map.1 h1
    rw [List.mem_reverse, List.drop_zero] at h4
    refine ⟨x0, h4, ?_, ?_⟩
    · have := rightP_iff.1 h2
      exact rightP_iff.2 ⟨this.2.1, this.1, this.2.2.2, this.2.2.1⟩
    · injection h3 with e1 e2
      rw [e1, e2]

theorem src_newD {P : Program} {w : World} {k : Nat} {t e : TypeId} (ht : P.underlying t = some (.slice e)) (us : List Value) (c : Nat) (t1 : TypeId) (m : Nat) (hl : us.length = m * k) (h1 : ∀ u ∈ us, u.oneCell' = true) :
    Src P k t (.slice (some ⟨w.heap.size, 0, none⟩) m c) m us (w.alloc (.cells us.toArray t1)).drew :=
  Src.ofSlice _ ht _ m c us hl (fun j u hj => by
    have e2 : (⟨w.heap.size, 0, none⟩ : Addr).add j = ⟨w.heap.size, j, none⟩ := by unfold Addr.add; split <;> simp_all
    rw [e2]
    show (w.alloc (.cells us.toArray t1)).cell? _ = _
    rw [World.cell?_alloc_at _ _ _ _ rfl]
    simpa using hj) h1
end Go.Proofs.Yteaencgbgfnokaa
