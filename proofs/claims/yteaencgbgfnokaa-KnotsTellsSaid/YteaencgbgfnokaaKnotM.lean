/- Mathematics: walks along edges, knots; the hunt for knots, its state and what holds of it. -/
set_option linter.unusedVariables false
namespace Go.Proofs.Yteaencgbgfnokaa

/-- One comes from a to b along one edge or more. -/
inductive Walk (E : Nat → Nat → Prop) : Nat → Nat → Prop
  | one {a b : Nat} (h : E a b) : Walk E a b
  | more {a b c : Nat} (h : E a b) (t : Walk E b c) : Walk E a c
theorem Walk.trans {E : Nat → Nat → Prop} {a b c : Nat} (h : Walk E a b) (t : Walk E b c) : Walk E a c := by
  induction h with
  | one h => exact .more h t
  | more h _ ih => exact .more h (ih t)
def Back (E : Nat → Nat → Prop) (a b : Nat) : Prop := a = b ∨ Walk E a b
theorem Back.trans {E : Nat → Nat → Prop} {a b c : Nat} (h : Back E a b) (t : Back E b c) : Back E a c := by
  rcases h with rfl | h
  · exact t
  · rcases t with rfl | t
    · exact .inr h
    · exact .inr (h.trans t)
theorem Walk.back {E : Nat → Nat → Prop} {a b c : Nat} (h : Walk E a b) (t : Back E b c) : Walk E a c := by
  rcases t with rfl | t
  · exact h
  · exact h.trans t
/-- Of one knot. -/
def Knot (E : Nat → Nat → Prop) (a b : Nat) : Prop := Back E a b ∧ Back E b a
theorem Knot.symm {E : Nat → Nat → Prop} {a b : Nat} (h : Knot E a b) : Knot E b a := ⟨h.2, h.1⟩
theorem Knot.trans {E : Nat → Nat → Prop} {a b c : Nat} (h : Knot E a b) (t : Knot E b c) : Knot E a c := ⟨h.1.trans t.1, t.2.trans h.2⟩
theorem Knot.refl {E : Nat → Nat → Prop} (a : Nat) : Knot E a a := ⟨.inl rfl, .inl rfl⟩
/-- k is the least of a's knot. -/
def LeastK (E : Nat → Nat → Prop) (a k : Nat) : Prop := Knot E a k ∧ ∀ b, Knot E a b → k ≤ b
theorem LeastK.unique {E : Nat → Nat → Prop} {a k l : Nat} (h : LeastK E a k) (t : LeastK E a l) : k = l := Nat.le_antisymm (h.2 l t.1) (t.2 k h.1)
theorem LeastK.le {E : Nat → Nat → Prop} {a k : Nat} (h : LeastK E a k) : k ≤ a := h.2 a (Knot.refl a)

abbrev toldK : Nat := 9223372036854775807
def upd (f : Nat → Nat) (v x : Nat) : Nat → Nat := fun u => if u = v then x else f u
theorem upd_same (f : Nat → Nat) (v x : Nat) : upd f v x v = x := by simp [upd]
theorem upd_other (f : Nat → Nat) {v u : Nat} (x : Nat) (h : u ≠ v) : upd f v x u = f u := by simp [upd, h]

structure Stp where
  c : Nat
  p : Nat
  l : List Nat

/-- An edge that has been gone along from v: to what has been told, or to something no further ahead than v is known to come back. -/
def DoneE (op : List Nat) (bk : Nat → Nat) (v w : Nat) : Prop := bk w = toldK ∨ ∃ r : Nat, op[r]? = some w ∧ bk v ≤ r + 1
/-- What holds between the place of a stop and that of the next one. -/
structure Sg (adj : Nat → List Nat) (op : List Nat) (bk : Nat → Nat) (s : Stp) (hi : Nat) : Prop where
  p1 : 1 ≤ s.p
  ph : s.p ≤ hi
  at_ : op[s.p - 1]? = some s.c
  pre : ∃ pre, adj s.c = pre ++ s.l ∧ ∀ w ∈ pre, DoneE op bk s.c w
  down : ∀ q v, s.p ≤ q + 1 → q < hi → op[q]? = some v → Back (fun a b => b ∈ adj a) s.c v
  rest : ∀ q v, s.p ≤ q → q < hi → op[q]? = some v → bk v ≤ q ∧ ∀ w ∈ adj v, DoneE op bk v w
  low : ∀ q v, s.p ≤ q + 1 → q < hi → op[q]? = some v → bk s.c ≤ bk v ∨ ∃ d l, s.l = d :: l ∧ ∃ r : Nat, op[r]? = some d ∧ r ≤ q ∧ bk d ≤ bk v
def SW (adj : Nat → List Nat) (op : List Nat) (bk : Nat → Nat) : List Stp → Nat → Prop
  | [], hi => hi = 0
  | s :: rest, hi => Sg adj op bk s hi ∧ SW adj op bk rest (s.p - 1) ∧ ∀ t ∈ rest.head?, ∃ l, t.l = s.c :: l
structure TI (m : Nat) (adj : Nat → List Nat) (op : List Nat) (bk ls : Nat → Nat) (st : List Stp) : Prop where
  nd : op.Nodup
  lt : ∀ v ∈ op, v < m
  g1 : ∀ q v, op[q]? = some v → 1 ≤ bk v ∧ bk v ≤ q + 1 ∧ ∃ u, op[bk v - 1]? = some u ∧ Back (fun a b => b ∈ adj a) v u
  g2 : ∀ v, v < m → bk v = 0 ∨ bk v = toldK ∨ v ∈ op
  g3 : ∀ v, v < m → bk v = toldK → ∀ w ∈ adj v, bk w = toldK
  g4 : ∀ v, v < m → bk v = toldK → LeastK (fun a b => b ∈ adj a) v (ls v)
  sw : SW adj op bk st op.length

theorem nodup_at {l : List Nat} (h : l.Nodup) {i j v : Nat} (hi : l[i]? = some v) (hj : l[j]? = some v) : i = j := by
  exact (List.getElem?_inj (List.getElem?_eq_some_iff.1 hi).1 h).1 (hi.trans hj.symm)
theorem sg_mono {adj : Nat → List Nat} {op op' : List Nat} {bk bk' : Nat → Nat} {s : Stp} {hi : Nat} (h : Sg adj op bk s hi) (h1 : ∀ q, q < hi → op'[q]? = op[q]?) (h2 : ∀ q v, q < hi → op[q]? = some v → bk' v = bk v)
    (h3 : ∀ w, bk w = toldK → bk' w = toldK) (h4 : ∀ (r w : Nat), op[r]? = some w → op'[r]? = some w ∨ bk' w = toldK) : Sg adj op' bk' s hi := by
  have hp1 := h.p1
  have hph := h.ph
  have hd : ∀ q v w, q < hi → op[q]? = some v → DoneE op bk v w → DoneE op' bk' v w := by
    intro q v w hq hv hd
    rcases hd with hd | ⟨r, hr, hb⟩
    · exact .inl (h3 w hd)
    · rcases h4 r w hr with h | h
      · exact .inr ⟨r, h, by rw [h2 q v hq hv]; exact hb⟩
      · exact .inl h
  refine ⟨hp1, hph, (h1 _ (by omega)).trans h.at_, ?_, fun q v a b c => h.down q v a b ((h1 q b).symm.trans c), fun q v a b c => ?_, fun q v a b c => ?_⟩
  · obtain ⟨pre, e, hx⟩ := h.pre
    exact ⟨pre, e, fun w hw => hd _ _ w (by omega) h.at_ (hx w hw)⟩
  · have c' := (h1 q b).symm.trans c
    obtain ⟨x, y⟩ := h.rest q v a b c'
    exact ⟨by rw [h2 q v b c']; exact x, fun w hw => hd q v w b c' (y w hw)⟩
  · have c' := (h1 q b).symm.trans c
    rw [h2 q v b c', h2 _ _ (by omega) h.at_]
    rcases h.low q v a b c' with x | ⟨d, l, e, r, hr, hq, hb⟩
    · exact .inl x
    · exact .inr ⟨d, l, e, r, (h1 r (by omega)).trans hr, hq, by rw [h2 r d (by omega) hr]; exact hb⟩
theorem sw_mono {adj : Nat → List Nat} {op op' : List Nat} {bk bk' : Nat → Nat} : ∀ {st : List Stp} {hi : Nat}, SW adj op bk st hi → (∀ q, q < hi → op'[q]? = op[q]?) → (∀ q v, q < hi → op[q]? = some v → bk' v = bk v) →
    (∀ w, bk w = toldK → bk' w = toldK) → (∀ (r w : Nat), op[r]? = some w → op'[r]? = some w ∨ bk' w = toldK) → SW adj op' bk' st hi
  | [], _, h, _, _, _, _ => h
  | s :: rest, hi, ⟨a, b, c⟩, h1, h2, h3, h4 => by
    have := a.p1
    have := a.ph
    exact ⟨sg_mono a h1 h2 h3 h4, sw_mono b (fun q hq => h1 q (by omega)) (fun q v hq => h2 q v (by omega)) h3 h4, c⟩

theorem nodupN_len : ∀ {n : Nat} {l : List Nat}, l.Nodup → (∀ x ∈ l, x < n) → l.length ≤ n
  | 0, l, _, h => by
    cases l with
    | nil => simp
    | cons a l => exact absurd (h a (by simp)) (by omega)
  | n + 1, l, hn, h => by
    have h1 := nodupN_len (n := n) (hn.erase n) (fun x hx => by
      have h2 := (hn.mem_erase_iff).1 hx
      have := h x h2.2
      have := h2.1
      omega)
    have := List.length_erase (a := n) (l := l)
    split at this <;> omega

/-- Nothing is open at the end. -/
theorem ti_end {m : Nat} {adj : Nat → List Nat} {op : List Nat} {bk ls : Nat → Nat} (h : TI m adj op bk ls []) : op = [] := by
  have : op.length = 0 := h.sw
  exact List.length_eq_zero_iff.1 this
theorem ti_len {m : Nat} {adj : Nat → List Nat} {op : List Nat} {bk ls : Nat → Nat} {st : List Stp} (h : TI m adj op bk ls st) : op.length ≤ m := by
  exact nodupN_len h.nd h.lt
theorem ti_begin (m : Nat) (adj : Nat → List Nat) (ls : Nat → Nat) : TI m adj [] (fun _ => 0) ls [] :=
  ⟨List.nodup_nil, by simp, by simp, fun v _ => .inl rfl, fun v _ h => absurd h (by decide), fun v _ h => absurd h (by decide), rfl⟩

/-- It enters v. -/
theorem ti_enter {m : Nat} {adj : Nat → List Nat} {op : List Nat} {bk ls : Nat → Nat} {st : List Stp} {v : Nat} (h : TI m adj op bk ls st) (hv : v < m) (h0 : bk v = 0) (ht : ∀ t ∈ st.head?, ∃ l, t.l = v :: l) (hm : m + 1 < toldK) :
    TI m adj (op ++ [v]) (upd bk v (op.length + 1)) ls (⟨v, op.length + 1, adj v⟩ :: st) := by
  have hn : v ∉ op := fun hx => by
    obtain ⟨q, hq⟩ := List.getElem?_of_mem hx
    have := (h.g1 q v hq).1
    omega
  have hl := ti_len h
  have hne : ∀ q u, op[q]? = some u → u ≠ v := fun q u hq e => hn (e ▸ List.mem_of_getElem? hq)
  have hat : ∀ q, q < op.length → (op ++ [v])[q]? = op[q]? := fun q hq => List.getElem?_append_left hq
  have hlast : ∀ q u, op.length ≤ q → (op ++ [v])[q]? = some u → q = op.length ∧ u = v := by
    intro q u hq hu
    have hlt := (List.getElem?_eq_some_iff.1 hu).1
    rw [List.length_append, List.length_singleton] at hlt
    obtain rfl : q = op.length := by omega
    rw [List.getElem?_append_right (Nat.le_refl _), Nat.sub_self] at hu
    simp at hu
    exact ⟨rfl, hu.symm⟩
  have hb : upd bk v (op.length + 1) v = op.length + 1 := upd_same _ _ _
  have hT : ∀ w, bk w = toldK → upd bk v (op.length + 1) w = toldK := fun w hw => by
    rw [upd_other _ _ (fun e => by rw [e, h0] at hw; exact absurd hw (by decide))]; exact hw
  refine ⟨?_, ?_, ?_, ?_, ?_, ?_, ?_⟩
  · rw [List.nodup_append]
    exact ⟨h.nd, by simp, fun a ha b hb e => hn (by simp at hb; rw [← hb, ← e]; exact ha)⟩
  · intro u hu
    rcases List.mem_append.1 hu with hu | hu
    · exact h.lt u hu
    · simp at hu; omega
  · intro q u hq
    rcases Nat.lt_or_ge q op.length with hlt | hge
    · rw [hat q hlt] at hq
      rw [upd_other _ _ (hne q u hq)]
      obtain ⟨a, b, x, hx, hw⟩ := h.g1 q u hq
      exact ⟨a, b, x, (hat _ (by omega)).trans hx, hw⟩
    · obtain ⟨rfl, rfl⟩ := hlast q u hge hq
      rw [hb]
      exact ⟨by omega, Nat.le_refl _, u, by simp, .inl rfl⟩
  · intro u hu
    by_cases e : u = v
    · subst e; exact .inr (.inr (by simp))
    · rw [upd_other _ _ e]
      rcases h.g2 u hu with a | a | a
      · exact .inl a
      · exact .inr (.inl a)
      · exact .inr (.inr (by simp [a]))
  · intro u hu hT' w hw
    by_cases e : u = v
    · subst e; rw [hb] at hT'; omega
    · rw [upd_other _ _ e] at hT'
      exact hT w (h.g3 u hu hT' w hw)
  · intro u hu hT'
    by_cases e : u = v
    · subst e; rw [hb] at hT'; omega
    · rw [upd_other _ _ e] at hT'
      exact h.g4 u hu hT'
  · refine ⟨⟨by simp, by simp, by simp, ⟨[], rfl, by simp⟩, ?_, ?_, ?_⟩, ?_, ht⟩
    · intro q u hp _ hq
      obtain ⟨_, rfl⟩ := hlast q u (by simp at hp; omega) hq
      exact .inl rfl
    · intro q u hp hlt hq
      simp at hp hlt
      omega
    · intro q u hp _ hq
      obtain ⟨_, rfl⟩ := hlast q u (by simp at hp; omega) hq
      exact .inl (Nat.le_refl _)
    · show SW adj (op ++ [v]) _ st (op.length + 1 - 1)
      rw [Nat.add_sub_cancel]
      exact sw_mono h.sw hat (fun q u _ hq => upd_other _ _ (hne q u hq)) hT (fun r w hr => .inl ((hat r (List.getElem?_eq_some_iff.1 hr).1).trans hr))

/-- It goes along an edge to something that was met. -/
theorem ti_along {m : Nat} {adj : Nat → List Nat} {op : List Nat} {bk ls : Nat → Nat} {c p d : Nat} {l : List Nat} {rest : List Stp} (h : TI m adj op bk ls (⟨c, p, d :: l⟩ :: rest)) (hd : d < m) (h0 : bk d ≠ 0) (hm : m + 1 < toldK) :
    TI m adj op (upd bk c (min (bk c) (bk d))) ls (⟨c, p, l⟩ :: rest) := by
  obtain ⟨hs, hr, ht⟩ := h.sw
  have hl := ti_len h
  have hp1 : 1 ≤ p := hs.p1
  have hph : p ≤ op.length := hs.ph
  have hc : op[p - 1]? = some c := hs.at_
  have hcb := h.g1 _ _ hc
  have hcT : bk c ≠ toldK := by omega
  have hadj : d ∈ adj c := by
    obtain ⟨pre, e, _⟩ := hs.pre
    simp only at e
    rw [e]; simp
  have hb : upd bk c (min (bk c) (bk d)) c = min (bk c) (bk d) := upd_same _ _ _
  have hT : ∀ w, bk w = toldK → upd bk c (min (bk c) (bk d)) w = toldK := fun w hw => by
    rw [upd_other _ _ (fun e => hcT (by rw [← e]; exact hw))]; exact hw
  have hT' : ∀ w, upd bk c (min (bk c) (bk d)) w = toldK → bk w = toldK ∧ w ≠ c := fun w hw => by
    by_cases e : w = c
    · subst e; rw [hb] at hw; omega
    · rw [upd_other _ _ e] at hw; exact ⟨hw, e⟩
  have hle : ∀ w, upd bk c (min (bk c) (bk d)) w ≤ bk w := fun w => by
    by_cases e : w = c
    · subst e; rw [hb]; omega
    · rw [upd_other _ _ e]; exact Nat.le_refl _
  have hD : ∀ v w, DoneE op bk v w → DoneE op (upd bk c (min (bk c) (bk d))) v w := by
    intro v w hx
    rcases hx with hx | ⟨r, hr, hbx⟩
    · exact .inl (hT w hx)
    · exact .inr ⟨r, hr, Nat.le_trans (hle v) hbx⟩
  have hdo : bk d = toldK ∨ ∃ r : Nat, op[r]? = some d := by
    rcases h.g2 d hd with a | a | a
    · exact absurd a h0
    · exact .inl a
    · exact .inr (List.getElem?_of_mem a)
  refine ⟨h.nd, h.lt, ?_, ?_, ?_, ?_, ?_, ?_, ht⟩
  · intro q v hq
    by_cases e : v = c
    · subst e
      obtain rfl := nodup_at h.nd hq hc
      rw [hb]
      obtain ⟨a, b, u, hu, hw⟩ := hcb
      rcases hdo with hdT | ⟨r, hrd⟩
      · rw [hdT, Nat.min_eq_left (by omega)]
        exact ⟨a, b, u, hu, hw⟩
      · obtain ⟨a', b', u', hu', hw'⟩ := h.g1 r d hrd
        rcases Nat.le_total (bk v) (bk d) with hx | hx
        · rw [Nat.min_eq_left hx]
          exact ⟨a, b, u, hu, hw⟩
        · rw [Nat.min_eq_right hx]
          exact ⟨a', by omega, u', hu', .inr ((Walk.one hadj).back hw')⟩
    · rw [upd_other _ _ e]
      exact h.g1 q v hq
  · intro v hv
    by_cases e : v = c
    · subst e; exact .inr (.inr (List.mem_of_getElem? hc))
    · rw [upd_other _ _ e]; exact h.g2 v hv
  · intro v hv hvT w hw
    exact hT w (h.g3 v hv (hT' v hvT).1 w hw)
  · intro v hv hvT
    exact h.g4 v hv (hT' v hvT).1
  · refine ⟨hp1, hph, hc, ?_, hs.down, ?_, ?_⟩
    · obtain ⟨pre, e, hx⟩ := hs.pre
      simp only at e hx
      refine ⟨pre ++ [d], by simp only; rw [e]; simp, fun w hw => ?_⟩
      rcases List.mem_append.1 hw with hw | hw
      · exact hD _ w (hx w hw)
      · simp at hw
        subst hw
        rcases hdo with hdT | ⟨r, hrd⟩
        · exact .inl (hT w hdT)
        · refine .inr ⟨r, hrd, ?_⟩
          have := (h.g1 r w hrd).2.1
          show upd bk c (min (bk c) (bk w)) c ≤ _
          rw [upd_same]
          omega
    · intro q v a b hq
      obtain ⟨x, y⟩ := hs.rest q v a b hq
      exact ⟨Nat.le_trans (hle v) x, fun w hw => hD v w (y w hw)⟩
    · intro q v a b hq
      left
      show upd bk c (min (bk c) (bk d)) c ≤ _
      by_cases e : v = c
      · subst e; exact Nat.le_refl _
      · rw [hb, upd_other _ _ e]
        rcases hs.low q v a b hq with x | ⟨d', l', e', r, hr, hrq, hbx⟩
        · simp only at x; omega
        · simp only at e'
          injection e' with e1 e2
          subst e1
          omega
  · exact sw_mono hr (fun q _ => rfl) (fun q v hq hv => upd_other _ _ (fun e => by
      subst e
      have := nodup_at h.nd hv hc
      simp only at hq
      omega)) hT (fun r w hw => .inl hw)

/-- It leaves a stop that comes further back. -/
theorem ti_leave {m : Nat} {adj : Nat → List Nat} {op : List Nat} {bk ls : Nat → Nat} {c p : Nat} {rest : List Stp} (h : TI m adj op bk ls (⟨c, p, []⟩ :: rest)) (hb : bk c < p) : TI m adj op bk ls rest := by
  obtain ⟨hs, hr, ht⟩ := h.sw
  have hp1 : 1 ≤ p := hs.p1
  have hph : p ≤ op.length := hs.ph
  have hc : op[p - 1]? = some c := hs.at_
  have hcb := h.g1 _ _ hc
  refine ⟨h.nd, h.lt, h.g1, h.g2, h.g3, h.g4, ?_⟩
  cases rest with
  | nil =>
    have : p - 1 = 0 := hr
    omega
  | cons t rest =>
    obtain ⟨hs', hr', ht'⟩ := hr
    obtain ⟨l, hl⟩ := ht t (by simp)
    simp only at hl hs'
    have hph' : t.p ≤ p - 1 := hs'.ph
    have hadj : c ∈ adj t.c := by
      obtain ⟨pre, e, _⟩ := hs'.pre
      rw [e, hl]; simp
    refine ⟨⟨hs'.p1, by omega, hs'.at_, hs'.pre, ?_, ?_, ?_⟩, hr', ht'⟩
    · intro q v a b hq
      rcases Nat.lt_or_ge q (p - 1) with hlt | hge
      · exact hs'.down q v a hlt hq
      · exact .inr ((Walk.one hadj).back (hs.down q v (by simp only; omega) b hq))
    · intro q v a b hq
      rcases Nat.lt_or_ge q (p - 1) with hlt | hge
      · exact hs'.rest q v a hlt hq
      · rcases Nat.lt_or_ge q p with hlt | hge2
        · obtain rfl : q = p - 1 := by omega
          obtain rfl : c = v := Option.some.inj (hc.symm.trans hq)
          obtain ⟨pre, e, hx⟩ := hs.pre
          simp only at e hx
          rw [List.append_nil] at e
          exact ⟨by omega, fun w hw => hx w (e ▸ hw)⟩
        · exact hs.rest q v hge2 b hq
    · intro q v a b hq
      rcases Nat.lt_or_ge q (p - 1) with hlt | hge
      · exact hs'.low q v a hlt hq
      · right
        refine ⟨c, l, hl, p - 1, hc, hge, ?_⟩
        rcases hs.low q v (by simp only; omega) b hq with x | ⟨d, l', e', _⟩
        · exact x
        · cases e'

/-- Where an open thing stands. -/
theorem sw_at {adj : Nat → List Nat} {op : List Nat} {bk : Nat → Nat} : ∀ {st : List Stp} {hi q v : Nat}, SW adj op bk st hi → q < hi → op[q]? = some v → (∃ s ∈ st, s.c = v) ∨ bk v ≤ q
  | [], hi, q, v, h, hq, hv => by
    have : hi = 0 := h
    omega
  | s :: rest, hi, q, v, ⟨hs, hr, ht⟩, hq, hv => by
    have := hs.p1
    rcases Nat.lt_or_ge q (s.p - 1) with hlt | hge
    · rcases sw_at hr hlt hv with ⟨t, a, b⟩ | a
      · exact .inl ⟨t, List.mem_cons_of_mem _ a, b⟩
      · exact .inr a
    · rcases Nat.lt_or_ge q s.p with hlt | hge2
      · obtain rfl : q = s.p - 1 := by omega
        exact .inl ⟨s, by simp, Option.some.inj (hs.at_.symm.trans hv)⟩
      · exact .inr (hs.rest q v hge2 hq hv).1
theorem sw_chain {adj : Nat → List Nat} {op : List Nat} {bk : Nat → Nat} : ∀ {st : List Stp} {s : Stp} {hi : Nat}, SW adj op bk (s :: st) hi → ∀ t ∈ s :: st, Back (fun a b => b ∈ adj a) t.c s.c
  | [], s, hi, h, t, ht => by
    simp at ht; subst ht; exact .inl rfl
  | s' :: rest, s, hi, ⟨hs, hr, hh⟩, t, ht => by
    rcases List.mem_cons.1 ht with e | ht
    · subst e; exact .inl rfl
    · have h1 := sw_chain hr t ht
      obtain ⟨l, hl⟩ := hh s' (by simp)
      obtain ⟨pre, e, _⟩ := hr.1.pre
      have : s.c ∈ adj s'.c := by rw [e, hl]; simp
      exact h1.trans (.inr (.one this))
theorem sw_up {m : Nat} {adj : Nat → List Nat} {op : List Nat} {bk ls : Nat → Nat} {s : Stp} {rest : List Stp} (h : TI m adj op bk ls (s :: rest)) : ∀ (n q v : Nat), q < n → op[q]? = some v → Back (fun a b => b ∈ adj a) v s.c
  | 0, q, v, hn, _ => absurd hn (by omega)
  | n + 1, q, v, hn, hv => by
    have hlt := (List.getElem?_eq_some_iff.1 hv).1
    rcases sw_at h.sw hlt hv with ⟨t, ht, rfl⟩ | hb
    · exact sw_chain h.sw t ht
    · obtain ⟨a, b, u, hu, hw⟩ := h.g1 q v hv
      exact hw.trans (sw_up h n (bk v - 1) u (by omega) hu)
theorem walkIn {adj : Nat → List Nat} {P : Nat → Prop} (hP : ∀ v, P v → ∀ w ∈ adj v, P w) {a b : Nat} (h : Walk (fun a b => b ∈ adj a) a b) (ha : P a) : P b := by
  induction h with
  | one h => exact hP _ ha _ h
  | more h _ ih => exact ih (hP _ ha _ h)

def minL : List Nat → Nat
  | [] => 0
  | a :: l => l.foldl min a
theorem foldl_min : ∀ (l : List Nat) (a : Nat), l.foldl min a ≤ a ∧ (∀ x ∈ l, l.foldl min a ≤ x) ∧ (l.foldl min a = a ∨ l.foldl min a ∈ l)
  | [], a => ⟨Nat.le_refl _, by simp, .inl rfl⟩
  | b :: l, a => by
    obtain ⟨h1, h2, h3⟩ := foldl_min l (min a b)
    simp only [List.foldl_cons]
    refine ⟨by omega, fun x hx => ?_, ?_⟩
    · rcases List.mem_cons.1 hx with rfl | hx
      · omega
      · exact h2 x hx
    · rcases h3 with h3 | h3
      · rw [h3]
        rcases Nat.le_total a b with h | h
        · rw [Nat.min_eq_left h]; exact .inl rfl
        · rw [Nat.min_eq_right h]; exact .inr (by simp)
      · exact .inr (List.mem_cons_of_mem _ h3)
theorem minL_mem {l : List Nat} (h : l ≠ []) : minL l ∈ l := by
  cases l with
  | nil => exact absurd rfl h
  | cons a l =>
    rcases (foldl_min l a).2.2 with h | h
    · show l.foldl min a ∈ _
      rw [h]; simp
    · exact List.mem_cons_of_mem _ h
theorem minL_le {l : List Nat} {x : Nat} (h : x ∈ l) : minL l ≤ x := by
  cases l with
  | nil => cases h
  | cons a l =>
    rcases List.mem_cons.1 h with rfl | h
    · exact (foldl_min l x).1
    · exact (foldl_min l a).2.1 x h

/-- It tells a knot. -/
theorem ti_tell {m : Nat} {adj : Nat → List Nat} {op : List Nat} {bk ls bk' ls' : Nat → Nat} {c p : Nat} {rest : List Stp} (h : TI m adj op bk ls (⟨c, p, []⟩ :: rest)) (hb : ¬ bk c < p) (hm : m + 1 < toldK) (hA : ∀ v, ∀ w ∈ adj v, w < m)
    (hk1 : ∀ v ∈ op.drop (p - 1), bk' v = toldK ∧ ls' v = minL (op.drop (p - 1))) (hk2 : ∀ v, v ∉ op.drop (p - 1) → bk' v = bk v ∧ ls' v = ls v) : TI m adj (op.take (p - 1)) bk' ls' rest := by
  obtain ⟨hs, hr, ht⟩ := h.sw
  have hl := ti_len h
  have hp1 : 1 ≤ p := hs.p1
  have hph : p ≤ op.length := hs.ph
  have hc : op[p - 1]? = some c := hs.at_
  obtain ⟨c1, c2, _⟩ := h.g1 _ _ hc
  have hbc : bk c = p := by omega
  have hmem : ∀ v, v ∈ op.drop (p - 1) ↔ ∃ q, p ≤ q + 1 ∧ op[q]? = some v := by
    intro v
    constructor
    · intro hv
      obtain ⟨i, hi⟩ := List.getElem?_of_mem hv
      rw [List.getElem?_drop] at hi
      exact ⟨_, by omega, hi⟩
    · rintro ⟨q, hq, hv⟩
      refine List.mem_of_getElem? (i := q - (p - 1)) ?_
      rw [List.getElem?_drop, show p - 1 + (q - (p - 1)) = q by omega]
      exact hv
  have hopT : ∀ q v, op[q]? = some v → bk v ≠ toldK := fun q v hq => by
    have := (List.getElem?_eq_some_iff.1 hq).1
    have := (h.g1 q v hq).2.1
    omega
  have hlow : ∀ q v, p ≤ q + 1 → op[q]? = some v → p ≤ bk v := by
    intro q v hq hv
    rcases hs.low q v hq (List.getElem?_eq_some_iff.1 hv).1 hv with x | ⟨d, l', e', _⟩
    · simp only at x; omega
    · cases e'
  have hcl : ∀ v, v ∈ op.drop (p - 1) → ∀ w ∈ adj v, bk w = toldK ∨ w ∈ op.drop (p - 1) := by
    intro v hv w hw
    obtain ⟨q, hq, hvq⟩ := (hmem v).1 hv
    have hd : DoneE op bk v w := by
      rcases Nat.lt_or_ge q p with hlt | hge
      · obtain rfl : q = p - 1 := by omega
        obtain rfl : c = v := Option.some.inj (hc.symm.trans hvq)
        obtain ⟨pre, e, hx⟩ := hs.pre
        simp only at e hx
        rw [List.append_nil] at e
        exact hx w (e ▸ hw)
      · exact (hs.rest q v hge (List.getElem?_eq_some_iff.1 hvq).1 hvq).2 w hw
    rcases hd with hd | ⟨r, hr, hbr⟩
    · exact .inl hd
    · exact .inr ((hmem w).2 ⟨r, by have := hlow q v hq hvq; omega, hr⟩)
  have hTop : ∀ v, v < m → (bk v = toldK ∨ v ∈ op.drop (p - 1)) → ∀ w ∈ adj v, bk w = toldK ∨ w ∈ op.drop (p - 1) := by
    intro v hvm hv w hw
    rcases hv with hv | hv
    · exact .inl (h.g3 v hvm hv w hw)
    · exact hcl v hv w hw
  have hcm : c < m := h.lt c (List.mem_of_getElem? hc)
  have hck : c ∈ op.drop (p - 1) := (hmem c).2 ⟨p - 1, by omega, hc⟩
  have hin : ∀ u, Knot (fun a b => b ∈ adj a) c u ↔ u ∈ op.drop (p - 1) := by
    intro u
    constructor
    · rintro ⟨h1, h2⟩
      rcases h1 with rfl | h1
      · exact hck
      · have hu : u < m ∧ (bk u = toldK ∨ u ∈ op.drop (p - 1)) := walkIn (P := fun v => v < m ∧ (bk v = toldK ∨ v ∈ op.drop (p - 1))) (fun v hv w hw => ⟨hA v w hw, hTop v hv.1 hv.2 w hw⟩) h1 ⟨hcm, .inr hck⟩
        rcases hu.2 with hT | hk
        · exfalso
          rcases h2 with rfl | h2
          · exact hopT _ _ hc hT
          · have := walkIn (P := fun v => v < m ∧ bk v = toldK) (fun v hv w hw => ⟨hA v w hw, h.g3 v hv.1 hv.2 w hw⟩) h2 ⟨hu.1, hT⟩
            exact hopT _ _ hc this.2
        · exact hk
    · intro hu
      obtain ⟨q, hq, hv⟩ := (hmem u).1 hu
      have hlt := (List.getElem?_eq_some_iff.1 hv).1
      exact ⟨hs.down q u hq hlt hv, sw_up h (q + 1) q u (by omega) hv⟩
  have hne : op.drop (p - 1) ≠ [] := List.ne_nil_of_mem hck
  have hleast : ∀ v ∈ op.drop (p - 1), LeastK (fun a b => b ∈ adj a) v (minL (op.drop (p - 1))) := by
    intro v hv
    have h1 := (hin v).2 hv
    refine ⟨h1.symm.trans ((hin _).2 (minL_mem hne)), fun u hu => minL_le ((hin u).1 (h1.trans hu))⟩
  have hoff : ∀ q v, q < p - 1 → op[q]? = some v → v ∉ op.drop (p - 1) := by
    intro q v hq hv hx
    obtain ⟨r, hr1, hr2⟩ := (hmem v).1 hx
    have := nodup_at h.nd hv hr2
    omega
  have hT : ∀ w, bk w = toldK → bk' w = toldK := fun w hw => by
    by_cases hx : w ∈ op.drop (p - 1)
    · exact (hk1 w hx).1
    · rw [(hk2 w hx).1]; exact hw
  have hT' : ∀ w, bk' w = toldK → bk w = toldK ∨ w ∈ op.drop (p - 1) := fun w hw => by
    by_cases hx : w ∈ op.drop (p - 1)
    · exact .inr hx
    · rw [(hk2 w hx).1] at hw; exact .inl hw
  have htk : ∀ q, q < p - 1 → (op.take (p - 1))[q]? = op[q]? := fun q hq => List.getElem?_take_of_lt hq
  have htk2 : ∀ q v, (op.take (p - 1))[q]? = some v → q < p - 1 ∧ op[q]? = some v := by
    intro q v hq
    have hlt := (List.getElem?_eq_some_iff.1 hq).1
    rw [List.length_take] at hlt
    have hq1 : q < p - 1 := by omega
    exact ⟨hq1, (htk q hq1).symm.trans hq⟩
  refine ⟨h.nd.sublist (List.take_sublist _ _), fun v hv => h.lt v (List.mem_of_mem_take hv), ?_, ?_, ?_, ?_, ?_⟩
  · intro q v hq
    obtain ⟨hq1, hv⟩ := htk2 q v hq
    rw [(hk2 v (hoff q v hq1 hv)).1]
    obtain ⟨a, b, u, hu, hw⟩ := h.g1 q v hv
    exact ⟨a, b, u, (htk _ (by omega)).trans hu, hw⟩
  · intro v hv
    by_cases hx : v ∈ op.drop (p - 1)
    · exact .inr (.inl (hk1 v hx).1)
    · rw [(hk2 v hx).1]
      rcases h.g2 v hv with a | a | a
      · exact .inl a
      · exact .inr (.inl a)
      · obtain ⟨q, hq⟩ := List.getElem?_of_mem a
        have : q < p - 1 := by
          rcases Nat.lt_or_ge q (p - 1) with h | h
          · exact h
          · exact absurd ((hmem v).2 ⟨q, by omega, hq⟩) hx
        exact .inr (.inr (List.mem_of_getElem? ((htk q this).trans hq)))
  · intro v hv hvT w hw
    rcases hTop v hv (hT' v hvT) w hw with a | a
    · exact hT w a
    · exact (hk1 w a).1
  · intro v hv hvT
    by_cases hx : v ∈ op.drop (p - 1)
    · rw [(hk1 v hx).2]; exact hleast v hx
    · rw [(hk2 v hx).2]
      rw [(hk2 v hx).1] at hvT
      exact h.g4 v hv hvT
  · rw [List.length_take, Nat.min_eq_left (by omega)]
    exact sw_mono hr htk (fun q v hq hv => (hk2 v (hoff q v hq hv)).1) hT (fun r w hw => by
      by_cases hx : w ∈ op.drop (p - 1)
      · exact .inr (hk1 w hx).1
      · left
        have : r < p - 1 := by
          rcases Nat.lt_or_ge r (p - 1) with h | h
          · exact h
          · exact absurd ((hmem w).2 ⟨r, by omega, hw⟩) hx
        exact (htk r this).trans hw)
end Go.Proofs.Yteaencgbgfnokaa
