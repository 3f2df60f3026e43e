/- The contract of the document's Right. -/
import Derived.Test.YtgjcblginkdinaaGreatDoorU26
import Derived.Test.YtgjcblginkdinaaGreatDoorU3
import Derived.Test.YtgjcblginkdinaaGreatDoorU35
set_option linter.unusedVariables false
namespace Go.Proofs.YtgjcblginkdinaaGreatDoor
open Go.ChangeShapes Go.WideShapes Go.ChangeAt Go.RowKit
open Go.Lib (itoa)

theorem textss_all {α : Type} (f : α → Tm) (g : α → Nat) : ∀ (l : List α), (∀ x ∈ l, (f x).texts ≤ g x) → Tm.textss (l.map f) ≤ (l.map g).sum
  | [], _ => by simp [Tm.textss]
  | x :: r, h => by
    have ih := textss_all f g r (fun y hy => h y (by simp [hy]))
    have := h x (by simp)
    simp only [List.map_cons, Tm.textss, List.sum_cons]
    omega
theorem txT_texts (t : ByteArray) : (txT t).texts = t.size := by simp [txT, Tm.texts, Tm.textss]
theorem liT_texts (xs : List Tm) : (liT xs).texts = Tm.textss xs := by
  unfold liT
  rw [Tm.texts]
  have : noText.size = 0 := rfl
  omega
theorem nuT_texts {n : Int} (h : wfI n) : (nuT n).texts ≤ 21 := by
  unfold nuT
  rw [txT_texts]
  have h3 := Lib.itoa_length_le n h.1 h.2
  show (itoa n).toArray.size ≤ 21
  rw [List.size_toArray]
  exact h3
theorem rfT_texts {r : Rf} (h : r.wf) : (rfT r).texts ≤ 42 := by
  have h1 := nuT_texts h.1
  have h2 := nuT_texts h.2
  unfold rfT
  rw [liT_texts]
  simp only [Tm.textss]
  omega
theorem sum_const {α : Type} (l : List α) (c : Nat) : (l.map fun _ => c).sum = c * l.length := by
  induction l with
  | nil => simp
  | cons x r ih => rw [List.map_cons, List.sum_cons, ih, List.length_cons, Nat.mul_add]; omega
theorem tsT_texts (l : Lb) (c : Nat) (h : ∀ x ∈ l, x.size ≤ c) : (tsT l).texts ≤ c * l.length := by
  unfold tsT
  rw [liT_texts]
  refine Nat.le_trans (textss_all txT (fun _ => c) l (fun x hx => by rw [txT_texts]; exact h x hx)) ?_
  rw [sum_const]; exact Nat.le_refl _
theorem opT_texts {o : Opp} (h : o.wf) (hl : ∀ x ∈ o.lines, x.size ≤ 500) : (opT o).texts ≤ 105 + 500 * o.lines.length := by
  have h1 := nuT_texts h.1
  have h2 := rfT_texts h.2.1
  have h3 := rfT_texts h.2.2
  have h4 := tsT_texts o.lines 500 hl
  unfold opT
  rw [liT_texts]
  simp only [Tm.textss]
  omega
theorem ops_texts : ∀ (l : List Opp), (∀ o ∈ l, o.wf) → (∀ o ∈ l, ∀ x ∈ o.lines, x.size ≤ 500) → Tm.textss (l.map opT) ≤ 105 * l.length + 500 * linesN l
  | [], _, _ => by simp [Tm.textss]
  | o :: r, h, k => by
    have ih := ops_texts r (fun y hy => h y (by simp [hy])) (fun y hy => k y (by simp [hy]))
    have h1 := opT_texts (h o (by simp)) (k o (by simp))
    simp only [List.map_cons, Tm.textss, linesN, List.length_cons]
    omega
theorem ptT_texts {p : Pt} (hw : p.wf) (hn : p.note.size ≤ 100) (hd : ∀ x ∈ p.deps, x.size ≤ 64) (hl : ∀ o ∈ p.ops, ∀ x ∈ o.lines, x.size ≤ 500) : (ptT p).texts ≤ 107 + 64 * p.deps.length + 105 * p.ops.length + 500 * linesN p.ops := by
  have h1 := tsT_texts p.deps 64 hd
  have h2 := ops_texts p.ops hw hl
  unfold ptT
  rw [liT_texts]
  simp only [Tm.textss, txT_texts, liT_texts]
  have : headB.size = 7 := rfl
  omega
theorem rightP_of {p : Pt} (h1 : p.note.size ≤ 100) (h2 : p.ops.length ≤ 400) (h3 : risB p.deps = true) (h4 : opsR p.deps.length 0 p.ops = true) (h5 : madeN p.ops ≤ 300) : rightP p = decide ((ptT p).bytes.length ≤ 65536) := by
  have hs : soundB p = true := sound_yes h1 h2 h3 ((opsB_iff _ _ 0 (by omega)).2 ⟨h4, by omega⟩)
  unfold rightP
  rw [hs, Bool.true_and]
abbrev RtS (w : World) (t : ByteArray) (dv ov : Value) (W : World) : Prop := (W.cell? ⟨w.heap.size, 0, none⟩ = some (.string t) ∧ W.cell? ⟨w.heap.size, 1, none⟩ = some dv ∧ W.cell? ⟨w.heap.size, 2, none⟩ = some ov) ∧ Below w.heap.size w W
theorem rt_call {w W W2 : World} {t : ByteArray} {dv ov : Value} (hb : Below W.heap.size W W2) (h : RtS w t dv ov W) : RtS w t dv ov W2 := by
  obtain ⟨⟨a0, a1, a2⟩, hB⟩ := h
  have c : ∀ q j u, W.cell? ⟨q, j, none⟩ = some u → W2.cell? ⟨q, j, none⟩ = some u := fun q j u hu => (hb.cell (p := ⟨q, j, none⟩) (cell_lt hu)).trans hu
  exact ⟨⟨c _ _ _ a0, c _ _ _ a1, c _ _ _ a2⟩, hB.trans (hb.mono hB.size)⟩
theorem rt_new (w : World) (t : ByteArray) (dv ov : Value) (ty : TypeId) : RtS w t dv ov (w.alloc (.cells #[.string t, dv, ov] ty)) :=
  ⟨⟨World.cell?_alloc_at _ _ _ _ rfl, World.cell?_alloc_at _ _ _ _ rfl, World.cell?_alloc_at _ _ _ _ rfl⟩, (Below.refl _ _).alloc (Nat.le_refl _) _⟩

end Go.Proofs.YtgjcblginkdinaaGreatDoor
