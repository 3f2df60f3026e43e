/- Elements of a slice of named patches that a call has made. -/
import Derived.Test.YtaemegcemmcgdaaSet
set_option linter.unusedVariables false
namespace Go.Proofs.Ytaemegcemmcgdaa
open Go.ChangeShapes Go.WideShapes Go.ChangeAt Go.RowKit

/-- An element's parts. -/
structure El where
  nm : ByteArray
  nt : ByteArray
  da : Option Addr
  dc : Nat
  oa : Option Addr
  ol : Nat
  oc : Nat
  deps : Lb
def El.cells (x : El) : List Value := [.string x.nm, .string x.nt, .slice x.da x.deps.length x.dc, .slice x.oa x.ol x.oc]
def El.key (x : El) : ByteArray × Lb := (x.nm, x.deps)
theorem el_at : ∀ (els : List El) (j : Nat) (x : El), els[j]? = some x → ∀ i, i < 4 → (els.flatMap El.cells)[j * 4 + i]? = x.cells[i]?
  | [], j, x, h, _, _ => by simp at h
  | y :: r, 0, x, h, i, hi => by
    simp only [List.getElem?_cons_zero, Option.some.injEq] at h
    subst h
    rw [List.flatMap_cons, Nat.zero_mul, Nat.zero_add, List.getElem?_append_left (by simpa [El.cells] using hi)]
  | y :: r, j + 1, x, h, i, hi => by
    rw [List.getElem?_cons_succ] at h
    have hl : y.cells.length = 4 := rfl
    rw [List.flatMap_cons, List.getElem?_append_right (by rw [hl]; omega), hl, show (j + 1) * 4 + i - 4 = j * 4 + i by omega]
    exact el_at r j x h i hi
theorem els_len (els : List El) : (els.flatMap El.cells).length = els.length * 4 := by
  induction els with
  | nil => rfl
  | cons x r ih =>
    rw [List.flatMap_cons, List.length_append, ih, List.length_cons]
    have hl : x.cells.length = 4 := rfl
    omega
theorem els_reads {B : Nat} {w : World} {v : Value} {els : List El} (h : Row 4 B w v els.length (els.flatMap El.cells)) (hr : ∀ x ∈ els, Reads w (.slice x.da x.deps.length x.dc) x.deps) : SReads w v (els.map El.key) := by
  by_cases e : els = []
  · subst e
    obtain ⟨a, c, rfl⟩ := h.form
    exact .inl ⟨rfl, a, c, rfl⟩
  · have hp : 0 < els.length := by
      cases els with
      | nil => exact absurd rfl e
      | cons _ _ => simp
    obtain ⟨b, cap, rfl, hB, hb, hc, hm, hf, hx⟩ := h.pos hp
    refine .inr ⟨by simpa using e, b, 0, cap, by rw [List.length_map], by rw [List.length_map]; exact hc, by unfold maxLen at hm; omega, hb, fun j p hj => ?_⟩
    rw [List.getElem?_map] at hj
    obtain ⟨x, hx1, rfl⟩ := Option.map_eq_some_iff.1 hj
    have c := fun i hi => hx (j * 4 + i) _ ((el_at els j x hx1 i hi).trans (List.getElem?_eq_getElem (show i < x.cells.length from hi)))
    refine ⟨x.nt, .slice x.da x.deps.length x.dc, x.oa, x.ol, x.oc, ?_, ?_, ?_, ?_, hr x (List.mem_of_getElem? hx1)⟩
    · rw [Nat.zero_add]; exact c 0 (by omega)
    · rw [Nat.zero_add]; exact c 1 (by omega)
    · rw [Nat.zero_add]; exact c 2 (by omega)
    · rw [Nat.zero_add]; exact c 3 (by omega)
theorem infoN6 : (Try.prog.info? 34).map (fun i => (i.zero, i.size, i.bytes)) = some (some (.agg #[.string ByteArray.empty, .string ByteArray.empty, .slice none 0 0, .slice none 0 0]), 4, 80) := by kernel_rfl
end Go.Proofs.Ytaemegcemmcgdaa
