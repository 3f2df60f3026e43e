/- Tables of truths in memory: a slice of slices of truths, each row in a block of its own. No function of the program is named here. -/
import Derived.Test.YteaencgbgfnokaaKnB
set_option linter.unusedVariables false
namespace Go.Proofs.Yteaencgbgfnokaa
open Go.ChangeShapes Go.WideShapes Go.ChangeAt Go.RowKit

def slv (rb : Nat → Nat) (m n : Nat) : List Value := (List.range n).map fun i => .slice (some ⟨rb i, 0, none⟩) m m
theorem slv_len (rb : Nat → Nat) (m n : Nat) : (slv rb m n).length = n := by simp [slv]
theorem slv_at (rb : Nat → Nat) (m : Nat) {n i : Nat} (h : i < n) : (slv rb m n)[i]? = some (.slice (some ⟨rb i, 0, none⟩) m m) := by simp [slv, h]
theorem slv_snoc (rb : Nat → Nat) (m n b : Nat) : slv (upd rb n b) m (n + 1) = slv rb m n ++ [.slice (some ⟨b, 0, none⟩) m m] := by
  unfold slv
  rw [List.range_succ, List.map_append]
  congr 1
  · exact List.map_congr_left fun i hi => by rw [upd_other _ _ (fun e => by have := List.mem_range.1 hi; omega)]
  · simp [upd_same]
def tbv (f : Nat → Bool) (m : Nat) : List Value := (List.range m).map fun j => .bool (f j)
theorem tbv_len (f : Nat → Bool) (m : Nat) : (tbv f m).length = m := by simp [tbv]
theorem tbv_at (f : Nat → Bool) {m j : Nat} (h : j < m) : (tbv f m)[j]? = some (.bool (f j)) := by simp [tbv, h]
theorem tbv_congr {f g : Nat → Bool} {m : Nat} (h : ∀ j, j < m → f j = g j) : tbv f m = tbv g m := List.map_congr_left fun j hj => by rw [h j (List.mem_range.1 hj)]
theorem tbv_set (f g : Nat → Bool) {m j : Nat} (h : j < m) (x : Bool) (hg : ∀ i, i < m → g i = if i = j then x else f i) : (tbv f m).set j (.bool x) = tbv g m := by
  apply List.ext_getElem?
  intro u
  by_cases hu : u < m
  · by_cases e : j = u
    · subst e
      rw [List.getElem?_set_self (by rw [tbv_len]; exact h), tbv_at _ hu, hg _ hu, if_pos rfl]
    · rw [List.getElem?_set_ne e, tbv_at _ hu, tbv_at _ hu, hg _ hu, if_neg (fun x => e x.symm)]
  · rw [List.getElem?_eq_none (by rw [List.length_set, tbv_len]; omega), List.getElem?_eq_none (by rw [tbv_len]; omega)]
theorem tbv_false (m : Nat) : tbv (fun _ => false) m = List.replicate m (.bool false) := by
  apply List.ext_getElem?
  intro u
  by_cases hu : u < m
  · rw [tbv_at _ hu, List.getElem?_replicate_of_lt hu]
  · rw [List.getElem?_eq_none (by rw [tbv_len]; omega), List.getElem?_eq_none (by simp; omega)]
theorem made_boolk {w : World} {m B : Nat} (hm : m ≤ 1000000) (hB : B ≤ w.heap.size) (t : TypeId) : Row 1 B (w.alloc (.cells (madeCells #[.bool false] m) t)) (.slice (some ⟨w.heap.size, 0, none⟩) m m) m (tbv (fun _ => false) m) :=
  row_new hB (by rw [tbv_len]; omega) (Nat.le_refl _) (by unfold maxLen; omega) (by simp [size_madeCells]) (.inl rfl) (fun j u hu => by
    have hj : j < m := by have := (List.getElem?_eq_some_iff.1 hu).1; rw [tbv_len] at this; exact this
    rw [tbv_at _ hj] at hu
    cases hu
    simp [madeCells, hj, Nat.mod_one])

/-- n rows of m truths each. -/
structure Tab (B : Nat) (w : World) (v : Value) (n m : Nat) (rb : Nat → Nat) (T : Nat → Nat → Bool) : Prop where
  r : Row 1 B w v n (slv rb m n)
  c : ∀ i, i < n → Row 1 B w (.slice (some ⟨rb i, 0, none⟩) m m) m (tbv (T i) m)
  o : ∀ i, i < n → v.ownBlock ≠ some (rb i)
  d : ∀ i k, i < n → k < n → rb i = rb k → i = k
theorem Tab.nil (B m : Nat) (w : World) (rb : Nat → Nat) (T : Nat → Nat → Bool) : Tab B w (.slice none 0 0) 0 m rb T :=
  ⟨Row.nil _ _ _, fun i h => absurd h (Nat.not_lt_zero _), fun i h => absurd h (Nat.not_lt_zero _), fun i k h => absurd h (Nat.not_lt_zero _)⟩
theorem Tab.below {B n m : Nat} {w w' : World} {v : Value} {rb : Nat → Nat} {T : Nat → Nat → Bool} (h : Tab B w v n m rb T) (hb : Below w.heap.size w w') : Tab B w' v n m rb T :=
  ⟨h.r.below hb, fun i hi => (h.c i hi).below hb, h.o, h.d⟩
theorem Tab.drew {B n m : Nat} {w : World} {v : Value} {rb : Nat → Nat} {T : Nat → Nat → Bool} (h : Tab B w v n m rb T) : Tab B w.drew v n m rb T := ⟨h.r.drew, fun i hi => (h.c i hi).drew, h.o, h.d⟩
theorem Tab.lt {B n m i : Nat} {w : World} {v : Value} {rb : Nat → Nat} {T : Nat → Nat → Bool} (h : Tab B w v n m rb T) (hi : i < n) : B ≤ rb i ∧ rb i < w.heap.size := (h.c i hi).lt (rb i) rfl
/-- One row more, all of it false. -/
theorem Tab.push {B n m : Nat} {w w1 : World} {v v1 : Value} {rb : Nat → Nat} {T : Nat → Nat → Bool} {o : Obj} (h : Tab B w v n m rb T) (h1 : Row 1 B (w.alloc o) (.slice (some ⟨w.heap.size, 0, none⟩) m m) m (tbv (fun _ => false) m))
    (hr : Row 1 B w1 v1 (n + 1) (slv rb m n ++ [.slice (some ⟨w.heap.size, 0, none⟩) m m]))
    (ho : Off (fun i => v.ownBlock = some i) (w.alloc o) w1) (hv : v1.ownBlock = v.ownBlock ∨ ∃ k, v1.ownBlock = some k ∧ w.heap.size < k) :
    Tab B w1 v1 (n + 1) m (upd rb n w.heap.size) (fun i j => if i = n then false else T i j) := by
  have hv0 : ∀ b, v.ownBlock = some b → b < w.heap.size := fun b hb => (h.r.lt b hb).2
  refine ⟨by rw [slv_snoc]; exact hr, fun i hi => ?_, fun i hi e => ?_, fun i k hi hk e => ?_⟩
  · by_cases he : i = n
    · subst he
      rw [upd_same]
      have e : tbv (fun j => if i = i then false else T i j) m = tbv (fun _ => false) m := tbv_congr fun j _ => by simp
      rw [e]
      exact h1.off ho (fun b hb e2 => by
        have : b = w.heap.size := by simp [Value.ownBlock] at hb; exact hb.symm
        have := hv0 b e2
        omega)
    · rw [upd_other _ _ he]
      have e2 : tbv (fun j => if i = n then false else T i j) m = tbv (T i) m := tbv_congr fun j _ => by simp [he]
      rw [e2]
      exact ((h.c i (by omega)).alloc _).off ho (fun b hb e3 => h.o i (by omega) (by rw [e3]; exact hb.symm))
  · by_cases he : i = n
    · subst he
      rw [upd_same] at e
      rcases hv with hv | ⟨k, hk, hlt⟩
      · rw [hv] at e
        have := hv0 _ e
        omega
      · rw [hk] at e
        injection e with e
        omega
    · rw [upd_other _ _ he] at e
      rcases hv with hv | ⟨k, hk, hlt⟩
      · rw [hv] at e
        exact h.o i (by omega) e
      · rw [hk] at e
        injection e with e
        have := (h.lt (i := i) (by omega)).2
        omega
  · by_cases h1 : i = n <;> by_cases h2 : k = n
    · omega
    · subst h1
      rw [upd_same, upd_other _ _ h2] at e
      have := (h.lt (i := k) (by omega)).2
      omega
    · subst h2
      rw [upd_same, upd_other _ _ h1] at e
      have := (h.lt (i := i) (by omega)).2
      omega
    · rw [upd_other _ _ h1, upd_other _ _ h2] at e
      exact h.d i k (by omega) (by omega) e
/-- A store into a row. -/
theorem Tab.set {B n m i j : Nat} {w : World} {v : Value} {rb : Nat → Nat} {T T' : Nat → Nat → Bool} (h : Tab B w v n m rb T) (hi : i < n) (hj : j < m) (x : Bool) (hT : ∀ a b, a < n → b < m → T' a b = if a = i ∧ b = j then x else T a b) :
    Tab B (w.setCell ⟨rb i, j, none⟩ (.bool x)) v n m rb T' := by
  refine ⟨h.r.setOther (h.o i hi) _, fun k hk => ?_, h.o, h.d⟩
  by_cases he : k = i
  · subst he
    have h1 := (h.c k hk).put (j := j) (by rw [tbv_len]; exact hj) (.bool x)
    rw [tbv_set (T k) (T' k) hj x (fun b hb => by rw [hT k b hk hb]; simp)] at h1
    exact h1
  · have h1 := (h.c k hk).setOther (p := ⟨rb i, j, none⟩) (fun e => he (h.d k i hk hi (by injection e))) (.bool x)
    rw [tbv_congr (g := T' k) (fun b hb => by rw [hT k b hk hb, if_neg (fun e => he e.1)])] at h1
    exact h1
theorem Tab.congr {B n m : Nat} {w : World} {v : Value} {rb : Nat → Nat} {T T' : Nat → Nat → Bool} (h : Tab B w v n m rb T) (hT : ∀ a b, a < n → b < m → T' a b = T a b) : Tab B w v n m rb T' :=
  ⟨h.r, fun i hi => by rw [tbv_congr (f := T' i) (g := T i) (fun b hb => hT i b hi hb)]; exact h.c i hi, h.o, h.d⟩
/-- What a walk reads of it. -/
theorem Tab.form {B n m : Nat} {w : World} {v : Value} {rb : Nat → Nat} {T : Nat → Nat → Bool} (h : Tab B w v n m rb T) (hn : 0 < n) : ∃ b c, v = .slice (some ⟨b, 0, none⟩) n c ∧ n ≤ c ∧ c ≤ maxLen := by
  obtain ⟨b, c, h1, _, _, h4, h5, _⟩ := h.r.pos hn
  exact ⟨b, c, h1, h4, h5⟩
theorem Tab.row {B n m b c i : Nat} {w : World} {rb : Nat → Nat} {T : Nat → Nat → Bool} (h : Tab B w (.slice (some ⟨b, 0, none⟩) n c) n m rb T) (hi : i < n) : w.cell? ⟨b, i, none⟩ = some (.slice (some ⟨rb i, 0, none⟩) m m) := (h.r.cellF (slv_at rb m hi)).1
theorem Tab.cell {B n m i j : Nat} {w : World} {v : Value} {rb : Nat → Nat} {T : Nat → Nat → Bool} (h : Tab B w v n m rb T) (hi : i < n) (hj : j < m) : w.cell? ⟨rb i, j, none⟩ = some (.bool (T i j)) ∧ w.frozen? ⟨rb i, j, none⟩ = false := by
  have h1 := (h.c i hi).cellF (tbv_at (T i) hj)
  exact ⟨h1.1, h1.2.1⟩
theorem Tab.stored {B n m i j : Nat} {w0 w : World} {v : Value} {rb : Nat → Nat} {T : Nat → Nat → Bool} (h : Tab B w v n m rb T) (hi : i < n) (hb : Below B w0 w) (x : Value) : Below B w0 (w.setCell ⟨rb i, j, none⟩ x) :=
  hb.setCell (h.lt hi).1 x
end Go.Proofs.Yteaencgbgfnokaa
