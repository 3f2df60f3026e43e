/- Mathematics: how long the hunt takes; the document's closure; things that all come from others make a ring. -/
import Derived.Test.YteaencgbgfnokaaKnotM
set_option linter.unusedVariables false
namespace Go.Proofs.Yteaencgbgfnokaa

def sumK (f : Nat → Nat) (m : Nat) : Nat := ((List.range m).map f).sum
theorem sumK_succ (f : Nat → Nat) (m : Nat) : sumK f (m + 1) = sumK f m + f m := by simp [sumK, List.range_succ]
theorem sumK_le {f g : Nat → Nat} : ∀ {m : Nat}, (∀ u, u < m → f u ≤ g u) → sumK f m ≤ sumK g m
  | 0, _ => by simp [sumK]
  | m + 1, h => by
    rw [sumK_succ, sumK_succ]
    have := sumK_le (m := m) (fun u hu => h u (by omega))
    have := h m (by omega)
    omega
theorem sumK_lt {f g : Nat → Nat} {v k : Nat} : ∀ {m : Nat}, v < m → (∀ u, u < m → u ≠ v → f u ≤ g u) → f v + k ≤ g v → sumK f m + k ≤ sumK g m
  | 0, hv, _, _ => absurd hv (by omega)
  | m + 1, hv, h, hk => by
    rw [sumK_succ, sumK_succ]
    by_cases e : v = m
    · subst e
      have := sumK_le (f := f) (g := g) (m := v) (fun u hu => h u (by omega) (by omega))
      omega
    · have := sumK_lt (f := f) (g := g) (v := v) (k := k) (m := m) (by omega) (fun u hu hne => h u (by omega) hne) hk
      have := h m (by omega) (fun x => e x.symm)
      omega
/-- What is left to do: of each thing that is not met its edges and two; of each stop what is left of it and one. -/
def measK (m : Nat) (adj : Nat → List Nat) (bk : Nat → Nat) (st : List Stp) : Nat := sumK (fun v => if bk v = 0 then (adj v).length + 2 else 0) m + (st.map fun s => s.l.length + 1).sum
theorem meas_enter {m : Nat} {adj : Nat → List Nat} {bk : Nat → Nat} {st : List Stp} {v p x : Nat} (hv : v < m) (h0 : bk v = 0) (hx : x ≠ 0) : measK m adj (upd bk v x) (⟨v, p, adj v⟩ :: st) + 1 ≤ measK m adj bk st := by
  unfold measK
  have := sumK_lt (f := fun u => if upd bk v x u = 0 then (adj u).length + 2 else 0) (g := fun u => if bk u = 0 then (adj u).length + 2 else 0) (v := v) (k := (adj v).length + 2) (m := m) hv
    (fun u _ hne => by simp [upd_other _ _ hne]) (by simp [upd_same, hx, h0])
  simp only [List.map_cons, List.sum_cons]
  omega
theorem meas_along {m : Nat} {adj : Nat → List Nat} {bk : Nat → Nat} {rest : List Stp} {c p d x : Nat} {l : List Nat} (h0 : bk c ≠ 0) (hx : x ≠ 0) : measK m adj (upd bk c x) (⟨c, p, l⟩ :: rest) + 1 ≤ measK m adj bk (⟨c, p, d :: l⟩ :: rest) := by
  unfold measK
  have := sumK_le (f := fun u => if upd bk c x u = 0 then (adj u).length + 2 else 0) (g := fun u => if bk u = 0 then (adj u).length + 2 else 0) (m := m) (fun u _ => by
    by_cases e : u = c
    · subst e; simp [upd_same, hx]
    · simp [upd_other _ _ e])
  simp only [List.map_cons, List.sum_cons, List.length_cons]
  omega
theorem meas_leave {m : Nat} {adj : Nat → List Nat} {bk bk' : Nat → Nat} {rest : List Stp} {s : Stp} (h : ∀ u, u < m → bk' u = 0 → bk u = 0) : measK m adj bk' rest + 1 ≤ measK m adj bk (s :: rest) := by
  unfold measK
  have := sumK_le (f := fun u => if bk' u = 0 then (adj u).length + 2 else 0) (g := fun u => if bk u = 0 then (adj u).length + 2 else 0) (m := m) (fun u hu => by
    by_cases e : bk' u = 0
    · simp [e, h u hu e]
    · simp [e])
  simp only [List.map_cons, List.sum_cons]
  omega

/-- A walk whose steps between are below k. -/
def Via (E : Nat → Nat → Prop) : Nat → Nat → Nat → Prop
  | 0, i, j => E i j
  | k + 1, i, j => Via E k i j ∨ (Via E k i k ∧ Via E k k j)
theorem via_walk {E : Nat → Nat → Prop} : ∀ {k i j : Nat}, Via E k i j → Walk E i j
  | 0, i, j, h => .one h
  | k + 1, i, j, h => by
    rcases h with h | ⟨h, t⟩
    · exact via_walk h
    · exact (via_walk h).trans (via_walk t)
theorem via_mid {E : Nat → Nat → Prop} : ∀ {k i d j : Nat}, d < k → Via E k i d → Via E k d j → Via E k i j
  | 0, _, _, _, h, _, _ => absurd h (by omega)
  | k + 1, i, d, j, hd, h, t => by
    by_cases e : d = k
    · subst e
      have h1 : Via E d i d := by
        rcases h with h | ⟨h, _⟩ <;> exact h
      have t1 : Via E d d j := by
        rcases t with t | ⟨_, t⟩ <;> exact t
      exact .inr ⟨h1, t1⟩
    · have hk : d < k := by omega
      rcases h with h | ⟨h1, h2⟩
      · rcases t with t | ⟨t1, t2⟩
        · exact .inl (via_mid hk h t)
        · exact .inr ⟨via_mid hk h t1, t2⟩
      · rcases t with t | ⟨t1, t2⟩
        · exact .inr ⟨h1, via_mid hk h2 t⟩
        · exact .inr ⟨h1, t2⟩
theorem via_up {E : Nat → Nat → Prop} {i j : Nat} (h : E i j) : ∀ k, Via E k i j
  | 0 => h
  | k + 1 => .inl (via_up h k)
theorem walk_via {E : Nat → Nat → Prop} {n : Nat} (hE : ∀ a b, E a b → b < n) {i j : Nat} (h : Walk E i j) : Via E n i j := by
  induction h with
  | one h => exact via_up h n
  | more h _ ih => exact via_mid (hE _ _ h) (via_up h n) ih
theorem via_iff {E : Nat → Nat → Prop} {n : Nat} (hE : ∀ a b, E a b → b < n) (i j : Nat) : Via E n i j ↔ Walk E i j := ⟨via_walk, walk_via hE⟩

/-- Where each of some things has one of them ahead of it, one of them comes to itself. -/
theorem ring_of {E : Nat → Nat → Prop} {P : Nat → Prop} {n : Nat} (hn : ∀ v, P v → v < n) (hP : ∀ v, P v → ∃ u, P u ∧ E u v) {v : Nat} (hv : P v) : ∃ u, P u ∧ Walk E u u := by
  have key : ∀ k, ∃ l : List Nat, l.length = k + 1 ∧ (∀ x ∈ l, P x) ∧ (∀ (i j : Nat) x y, i < j → l[i]? = some x → l[j]? = some y → Walk E x y) := by
    intro k
    induction k with
    | zero => exact ⟨[v], rfl, by simp [hv], fun i j x y hij _ hy => by
        have := (List.getElem?_eq_some_iff.1 hy).1
        simp at this
        omega⟩
    | succ k ih =>
      obtain ⟨l, hl, h1, h2⟩ := ih
      cases l with
      | nil => simp at hl
      | cons a l =>
        obtain ⟨u, hu, he⟩ := hP a (h1 a (by simp))
        refine ⟨u :: a :: l, by simp at hl ⊢; omega, fun x hx => ?_, fun i j x y hij hx hy => ?_⟩
        · rcases List.mem_cons.1 hx with rfl | hx
          · exact hu
          · exact h1 x hx
        · cases j with
          | zero => omega
          | succ j =>
            rw [List.getElem?_cons_succ] at hy
            cases i with
            | zero =>
              simp at hx
              subst hx
              cases j with
              | zero =>
                simp at hy
                subst hy
                exact .one he
              | succ j => exact .more he (h2 0 (j + 1) a y (by omega) (by simp) hy)
            | succ i =>
              rw [List.getElem?_cons_succ] at hx
              exact h2 i j x y (by omega) hx hy
  obtain ⟨l, hl, h1, h2⟩ := key n
  have hnd : ¬ l.Nodup := fun h => by
    have := nodupN_len h (fun x hx => hn x (h1 x hx))
    omega
  have : ∃ i j : Nat, i < j ∧ ∃ x, l[i]? = some x ∧ l[j]? = some x := by
    refine Classical.byContradiction fun hx => hnd ?_
    unfold List.Nodup
    rw [List.pairwise_iff_getElem]
    intro i j hi hj hij he
    exact hx ⟨i, j, hij, l[i], List.getElem?_eq_getElem hi, by rw [he]; exact List.getElem?_eq_getElem hj⟩
  obtain ⟨i, j, hij, x, hx, hy⟩ := this
  exact ⟨x, h1 x (List.mem_of_getElem? hx), h2 i j x x hij hx hy⟩
/-- What comes to itself comes by an edge to itself, or has another one in its knot. -/
theorem ring_knot {E : Nat → Nat → Prop} {v : Nat} (h : Walk E v v) : E v v ∨ ∃ u, u ≠ v ∧ Knot E v u := by
  have key : ∀ {a b : Nat}, Walk E a b → b = v → Back E v a → E v v ∨ ∃ u, u ≠ v ∧ Knot E v u := by
    intro a b h
    induction h with
    | @one a b g =>
      intro e hb
      subst e
      by_cases ha : a = b
      · subst ha; exact .inl g
      · exact .inr ⟨a, ha, hb, .inr (.one g)⟩
    | @more a b c g t ih =>
      intro e hb
      subst e
      by_cases ha : a = c
      · subst ha
        by_cases hbc : b = a
        · subst hbc; exact .inl g
        · exact .inr ⟨b, hbc, .inr (.one g), .inr t⟩
      · exact .inr ⟨a, ha, hb, .inr (.more g t)⟩
  exact key h rfl (.inl rfl)
end Go.Proofs.Yteaencgbgfnokaa
