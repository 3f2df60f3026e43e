/- A name put into its place among rising names. Mathematics alone. -/
import Derived.Test.YteaencgbgfnokaaDoorM3
set_option linter.unusedVariables false
namespace Go.Proofs.YteaencgbgfnokaaDoor

def stepA (x : ByteArray) (st : Lb × Bool) (y : ByteArray) : Lb × Bool :=
  if st.2 = false ∧ x.data.toList < y.data.toList then (st.1 ++ [x] ++ [y], true) else (st.1 ++ [y], st.2)
def runA (x : ByteArray) (l : Lb) : Lb × Bool := l.foldl (stepA x) ([], false)
def addB (l : Lb) (x : ByteArray) : Lb := if 0 ≤ Lib.idxOfS l x then l else if (runA x l).2 then (runA x l).1 else (runA x l).1 ++ [x]

theorem runA_snoc (x : ByteArray) (l : Lb) (y : ByteArray) : runA x (l ++ [y]) = stepA x (runA x l) y := by simp [runA, List.foldl_append]
theorem runA_take {x : ByteArray} {l : Lb} {k : Nat} {y : ByteArray} (h : l[k]? = some y) : runA x (l.take (k + 1)) = stepA x (runA x (l.take k)) y := by
  rw [List.take_add_one, h]; exact runA_snoc x _ y

def AInv (x : ByteArray) (l : Lb) (st : Lb × Bool) : Prop :=
  (st.2 = false ∧ st.1 = l ∧ ∀ y ∈ l, ¬ x.data.toList < y.data.toList) ∨
  (st.2 = true ∧ ∃ a h t, l = a ++ h :: t ∧ st.1 = a ++ x :: h :: t ∧ (∀ y ∈ a, ¬ x.data.toList < y.data.toList) ∧ x.data.toList < h.data.toList)
theorem runA_inv (x : ByteArray) : ∀ (n : Nat) (l : Lb), l.length = n → AInv x l (runA x l)
  | 0, l, h => by
    obtain rfl := List.length_eq_zero_iff.1 h
    exact .inl ⟨rfl, rfl, by simp⟩
  | n + 1, l, h => by
    rcases eq_nil_or_snoc l with rfl | ⟨ys, y, rfl⟩
    · simp at h
    · have ih := runA_inv x n ys (by simpa using h)
      rw [runA_snoc]
      generalize runA x ys = st at ih
      obtain ⟨o, d⟩ := st
      rcases ih with ⟨hd, ho, hn⟩ | ⟨hd, a, hh, t, hl, ho, hn, hx⟩
      · simp only at hd ho
        subst hd; subst ho
        by_cases hxy : x.data.toList < y.data.toList
        · unfold stepA
          rw [if_pos ⟨rfl, hxy⟩]
          exact .inr ⟨rfl, o, y, [], rfl, by simp, hn, hxy⟩
        · unfold stepA
          rw [if_neg (fun k => hxy k.2)]
          refine .inl ⟨rfl, rfl, fun z hz => ?_⟩
          rcases List.mem_append.1 hz with hz | hz
          · exact hn z hz
          · rw [List.mem_singleton] at hz; subst hz; exact hxy
      · simp only at hd ho
        subst hd; subst ho; subst hl
        unfold stepA
        rw [if_neg (by simp)]
        exact .inr ⟨rfl, a, hh, t ++ [y], by simp, by simp, hn, hx⟩

theorem runA_len (x : ByteArray) (l : Lb) : (runA x l).1.length = l.length + (if (runA x l).2 then 1 else 0) := by
  rcases runA_inv x l.length l rfl with ⟨hd, ho, _⟩ | ⟨hd, a, h, t, hl, ho, _, _⟩
  · rw [hd, ho]; simp
  · rw [hd, ho, hl]; simp; omega
abbrev AscB (l : Lb) : Prop := Asc (l.map fun s => s.data.toList)
theorem idx_mem {l : Lb} {x : ByteArray} : 0 ≤ Lib.idxOfS l x ↔ x ∈ l := by
  constructor
  · intro h
    apply Classical.byContradiction
    intro hn
    have := idx_miss (ls := l) (x := x) (fun j hj e => hn (List.mem_of_getElem? e))
    omega
  · intro h
    obtain ⟨n, hn⟩ : ∃ n, n = l.findIdx? (fun y => decide (y = x)) := ⟨_, rfl⟩
    cases n with
    | none =>
      have := (List.findIdx?_eq_none_iff.1 hn.symm) x h
      simp at this
    | some k =>
      rw [eq_comm, List.findIdx?_eq_some_iff_getElem] at hn
      obtain ⟨hk, h1, h2⟩ := hn
      rw [idx_hit (ls := l) (x := x) (k := k) (by rw [List.getElem?_eq_getElem hk]; exact congrArg some (of_decide_eq_true h1)) (fun j hj e => by
        have hjl : j < l.length := by omega
        have := h2 j hj
        rw [List.getElem?_eq_getElem hjl] at e
        injection e with e
        simp [e] at this)]
      omega
theorem data_ne {x y : ByteArray} (h : x ≠ y) : x.data.toList ≠ y.data.toList := fun e => h (by rw [← tx_data x, ← tx_data y, e])
theorem lt_of_not {x y : ByteArray} (h : ¬ x.data.toList < y.data.toList) (hn : x ≠ y) : y.data.toList < x.data.toList := by
  refine bs_lt.2 ⟨List.not_lt.1 h, fun e => data_ne hn e.symm⟩
theorem addB_mem (l : Lb) (x y : ByteArray) : y ∈ addB l x ↔ y = x ∨ y ∈ l := by
  unfold addB
  split
  · rename_i h
    have := idx_mem.1 h
    constructor
    · exact .inr
    · rintro (rfl | h)
      · exact this
      · exact h
  · rcases runA_inv x l.length l rfl with ⟨hd, ho, _⟩ | ⟨hd, a, h, t, hl, ho, _, _⟩
    · rw [hd, ho]; simp [or_comm]
    · rw [hd, ho, hl]
      simp only [if_true, List.mem_append, List.mem_cons]
      constructor
      · rintro (h | rfl | h)
        · exact .inr (.inl h)
        · exact .inl rfl
        · exact .inr (.inr h)
      · rintro (rfl | h | h)
        · exact .inr (.inl rfl)
        · exact .inl h
        · exact .inr (.inr h)
theorem addB_asc {l : Lb} (x : ByteArray) (h : AscB l) : AscB (addB l x) := by
  unfold addB
  split
  · exact h
  · rename_i hx
    have hne : ∀ y ∈ l, x ≠ y := fun y hy e => hx (idx_mem.2 (e ▸ hy))
    rcases runA_inv x l.length l rfl with ⟨hd, ho, hn⟩ | ⟨hd, a, hh, t, hl, ho, hn, hlt⟩
    · rw [hd, ho]
      simp only [Bool.false_eq_true, if_false]
      unfold AscB Asc at *
      rw [List.map_append, List.pairwise_append]
      refine ⟨h, by simp, fun u hu v hv => ?_⟩
      obtain ⟨y, hy, rfl⟩ := List.mem_map.1 hu
      simp only [List.map_cons, List.map_nil, List.mem_singleton] at hv
      subst hv
      exact lt_of_not (hn y hy) (hne y hy)
    · rw [hd, ho]
      subst hl
      simp only [if_true]
      unfold AscB Asc at *
      rw [List.map_append, List.pairwise_append, List.map_cons] at h ⊢
      obtain ⟨h1, h2, h3⟩ := h
      rw [List.pairwise_cons] at h2
      refine ⟨h1, ?_, fun u hu v hv => ?_⟩
      · rw [List.pairwise_cons]
        refine ⟨fun v hv => ?_, ?_⟩
        · rw [List.map_cons, List.mem_cons] at hv
          rcases hv with rfl | hv
          · exact hlt
          · exact bs_lt_trans hlt (h2.1 v hv)
        · rw [List.map_cons, List.pairwise_cons]; exact h2
      · rw [List.mem_cons] at hv
        rcases hv with rfl | hv
        · obtain ⟨y, hy, rfl⟩ := List.mem_map.1 hu
          exact lt_of_not (hn y hy) (hne y (by simp [hy]))
        · exact h3 u hu v (by simpa using hv)

theorem ascB_unique {l m : Lb} (h1 : AscB l) (h2 : AscB m) (h : ∀ x, x ∈ l ↔ x ∈ m) : l = m := by
  have := asc_unique h1 h2 (fun x => by
    simp only [List.mem_map]
    constructor
    · rintro ⟨y, hy, rfl⟩; exact ⟨y, (h y).1 hy, rfl⟩
    · rintro ⟨y, hy, rfl⟩; exact ⟨y, (h y).2 hy, rfl⟩)
  exact map_inj_on (fun s : ByteArray => s.data.toList) (fun _ => True) (fun x y _ _ e => by
    rw [← tx_data x, ← tx_data y]; exact congrArg tx e) l m (fun _ _ => trivial) (fun _ _ => trivial) this
end Go.Proofs.YteaencgbgfnokaaDoor
