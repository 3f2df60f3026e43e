/- Mathematics: walks along edges, knots; the hunt for knots, its state and what holds of it. Mathematics: how long the hunt takes; the document's closure; things that all come from others make a ring. Mathematics: the order of things, told by those that edges tie, and the others put among them. Mathematics: edges laid out by their first things. Mathematics: knots of the tied things by their places. Mathematics that the laws of knots want: knots told by a closure; edges in another order, told twice, turned about. Mathematics of package poset: knots as9 places in a line, ways from place to place; what is ahead of what, told by ways. Mathematics: how many ways; what is ahead of what, and comparable, as9 an answer. Mathematics: ways in a table, thing by thing (Floyd-Warshall, in place). -/
import Derived.Test.YtfpepoebammeoaaGreatU1
set_option linter.unusedVariables false
namespace Go.Proofs.YtfpepoebammeoaaGreat

inductive Walk (E : Nat → Nat → Prop) : Nat → Nat → Prop
  | one {a b : Nat} (h : E a b) : Walk E a b
  | more {a b c : Nat} (h : E a b) (t : Walk E b c) : Walk E a c
theorem Walk.trans {E : Nat → Nat → Prop} {a b c : Nat} (h : Walk E a b) (t : Walk E b c) : Walk E a c := by
  induction h with
  | one h => exact .more h t
  | more h _ ih => exact .more h (ih t)
def Back (E : Nat → Nat → Prop) (a b : Nat) : Prop := a = b ∨ Walk E a b
theorem Back.trans {E : Nat → Nat → Prop} {a b c : Nat} (h : Back E a b) (t : Back E b c) : Back E a c := by
  rcases h with rfl | h
  · exact t
  · rcases t with rfl | t
    · exact .inr h
    · exact .inr (h.trans t)
theorem Walk.back {E : Nat → Nat → Prop} {a b c : Nat} (h : Walk E a b) (t : Back E b c) : Walk E a c := by
  rcases t with rfl | t
  · exact h
  · exact h.trans t
def Knot (E : Nat → Nat → Prop) (a b : Nat) : Prop := Back E a b ∧ Back E b a
theorem Knot.symm {E : Nat → Nat → Prop} {a b : Nat} (h : Knot E a b) : Knot E b a := ⟨h.2, h.1⟩
theorem Knot.trans {E : Nat → Nat → Prop} {a b c : Nat} (h : Knot E a b) (t : Knot E b c) : Knot E a c := ⟨h.1.trans t.1, t.2.trans h.2⟩
theorem Knot.refl {E : Nat → Nat → Prop} (a : Nat) : Knot E a a := ⟨.inl rfl, .inl rfl⟩
def LeastK (E : Nat → Nat → Prop) (a k : Nat) : Prop := Knot E a k ∧ ∀ b, Knot E a b → k ≤ b
theorem LeastK.unique {E : Nat → Nat → Prop} {a k l : Nat} (h : LeastK E a k) (t : LeastK E a l) : k = l := Nat.le_antisymm (h.2 l t.1) (t.2 k h.1)
theorem LeastK.le {E : Nat → Nat → Prop} {a k : Nat} (h : LeastK E a k) : k ≤ a := h.2 a (Knot.refl a)

abbrev toldK : Nat := 9223372036854775807
def upd (f : Nat → Nat) (v x : Nat) : Nat → Nat := fun u => if u = v then x else f u
theorem upd_same (f : Nat → Nat) (v x : Nat) : upd f v x v = x := by simp [upd]
theorem upd_other (f : Nat → Nat) {v u : Nat} (x : Nat) (h : u ≠ v) : upd f v x u = f u := by simp [upd, h]

structure Stp where
  c : Nat
  p : Nat
  l : List Nat

def DoneE (op : List Nat) (bk : Nat → Nat) (v w : Nat) : Prop := bk w = toldK ∨ ∃ r : Nat, op[r]? = some w ∧ bk v ≤ r + 1
structure Sg (adj : Nat → List Nat) (op : List Nat) (bk : Nat → Nat) (s : Stp) (hi : Nat) : Prop where
  p1 : 1 ≤ s.p
  ph : s.p ≤ hi
  at_ : op[s.p - 1]? = some s.c
  pre : ∃ pre, adj s.c = pre ++ s.l ∧ ∀ w ∈ pre, DoneE op bk s.c w
  down : ∀ q v, s.p ≤ q + 1 → q < hi → op[q]? = some v → Back (fun a b => b ∈ adj a) s.c v
  rest : ∀ q v, s.p ≤ q → q < hi → op[q]? = some v → bk v ≤ q ∧ ∀ w ∈ adj v, DoneE op bk v w
  low : ∀ q v, s.p ≤ q + 1 → q < hi → op[q]? = some v → bk s.c ≤ bk v ∨ ∃ d l, s.l = d :: l ∧ ∃ r : Nat, op[r]? = some d ∧ r ≤ q ∧ bk d ≤ bk v
def SW (adj : Nat → List Nat) (op : List Nat) (bk : Nat → Nat) : List Stp → Nat → Prop
  | [], hi => hi = 0
  | s :: rest, hi => Sg adj op bk s hi ∧ SW adj op bk rest (s.p - 1) ∧ ∀ t ∈ rest.head?, ∃ l, t.l = s.c :: l
structure TI (m : Nat) (adj : Nat → List Nat) (op : List Nat) (bk ls : Nat → Nat) (st : List Stp) : Prop where
  nd : op.Nodup
  lt : ∀ v ∈ op, v < m
  g1 : ∀ q v, op[q]? = some v → 1 ≤ bk v ∧ bk v ≤ q + 1 ∧ ∃ u, op[bk v - 1]? = some u ∧ Back (fun a b => b ∈ adj a) v u
  g2 : ∀ v, v < m → bk v = 0 ∨ bk v = toldK ∨ v ∈ op
  g3 : ∀ v, v < m → bk v = toldK → ∀ w ∈ adj v, bk w = toldK
  g4 : ∀ v, v < m → bk v = toldK → LeastK (fun a b => b ∈ adj a) v (ls v)
  sw : SW adj op bk st op.length

theorem nodup_at {l : List Nat} (h : l.Nodup) {i j v : Nat} (hi : l[i]? = some v) (hj : l[j]? = some v) : i = j := by
  exact (List.getElem?_inj (List.getElem?_eq_some_iff.1 hi).1 h).1 (hi.trans hj.symm)
theorem sg_mono {adj : Nat → List Nat} {op op' : List Nat} {bk bk' : Nat → Nat} {s : Stp} {hi : Nat} (h : Sg adj op bk s hi) (h1 : ∀ q, q < hi → op'[q]? = op[q]?) (h2 : ∀ q v, q < hi → op[q]? = some v → bk' v = bk v)
    (h3 : ∀ w, bk w = toldK → bk' w = toldK) (h4 : ∀ (r w : Nat), op[r]? = some w → op'[r]? = some w ∨ bk' w = toldK) : Sg adj op' bk' s hi := by
  have hp1 := h.p1
  have hph := h.ph
  have hd : ∀ q v w, q < hi → op[q]? = some v → DoneE op bk v w → DoneE op' bk' v w := by
    intro q v w hq hv hd
    rcases hd with hd | ⟨r, hr, hb⟩
    · exact .inl (h3 w hd)
    · rcases h4 r w hr with h | h
      · exact .inr ⟨r, h, by rw [h2 q v hq hv]; exact hb⟩
      · exact .inl h
  refine ⟨hp1, hph, (h1 _ (by omega)).trans h.at_, ?_, fun q v a b c => h.down q v a b ((h1 q b).symm.trans c), fun q v a b c => ?_, fun q v a b c => ?_⟩
  · obtain ⟨pre, e, hx⟩ := h.pre
    exact ⟨pre, e, fun w hw => hd _ _ w (by omega) h.at_ (hx w hw)⟩
  · have c' := (h1 q b).symm.trans c
    obtain ⟨x, y⟩ := h.rest q v a b c'
    exact ⟨by rw [h2 q v b c']; exact x, fun w hw => hd q v w b c' (y w hw)⟩
  · have c' := (h1 q b).symm.trans c
    rw [h2 q v b c', h2 _ _ (by omega) h.at_]
    rcases h.low q v a b c' with x | ⟨d, l, e, r, hr, hq, hb⟩
    · exact .inl x
    · exact .inr ⟨d, l, e, r, (h1 r (by omega)).trans hr, hq, by rw [h2 r d (by omega) hr]; exact hb⟩
theorem sw_mono {adj : Nat → List Nat} {op op' : List Nat} {bk bk' : Nat → Nat} : ∀ {st : List Stp} {hi : Nat}, SW adj op bk st hi → (∀ q, q < hi → op'[q]? = op[q]?) → (∀ q v, q < hi → op[q]? = some v → bk' v = bk v) →
    (∀ w, bk w = toldK → bk' w = toldK) → (∀ (r w : Nat), op[r]? = some w → op'[r]? = some w ∨ bk' w = toldK) → SW adj op' bk' st hi
  | [], _, h, _, _, _, _ => h
  | s :: rest, hi, ⟨a, b, c⟩, h1, h2, h3, h4 => by
    have := a.p1
    have := a.ph
    exact ⟨sg_mono a h1 h2 h3 h4, sw_mono b (fun q hq => h1 q (by omega)) (fun q v hq => h2 q v (by omega)) h3 h4, c⟩

theorem nodupN_len : ∀ {n : Nat} {l : List Nat}, l.Nodup → (∀ x ∈ l, x < n) → l.length ≤ n
  | 0, l, _, h => by
    cases l with
    | nil => simp
    | cons a l => exact absurd (h a (by simp)) (by omega)
  | n + 1, l, hn, h => by
    have h1 := nodupN_len (n := n) (hn.erase n) (fun x hx => by
      have h2 := (hn.mem_erase_iff).1 hx
      have := h x h2.2
      have := h2.1
      omega)
    have := List.length_erase (a := n) (l := l)
    split at this <;> omega

theorem ti_end {m : Nat} {adj : Nat → List Nat} {op : List Nat} {bk ls : Nat → Nat} (h : TI m adj op bk ls []) : op = [] := by
  have : op.length = 0 := h.sw
  exact List.length_eq_zero_iff.1 this
theorem ti_len {m : Nat} {adj : Nat → List Nat} {op : List Nat} {bk ls : Nat → Nat} {st : List Stp} (h : TI m adj op bk ls st) : op.length ≤ m := by
  exact nodupN_len h.nd h.lt
theorem ti_begin (m : Nat) (adj : Nat → List Nat) (ls : Nat → Nat) : TI m adj [] (fun _ => 0) ls [] :=
  ⟨List.nodup_nil, by simp, by simp, fun v _ => .inl rfl, fun v _ h => absurd h (by decide), fun v _ h => absurd h (by decide), rfl⟩

theorem ti_enter {m : Nat} {adj : Nat → List Nat} {op : List Nat} {bk ls : Nat → Nat} {st : List Stp} {v : Nat} (h : TI m adj op bk ls st) (hv : v < m) (h0 : bk v = 0) (ht : ∀ t ∈ st.head?, ∃ l, t.l = v :: l) (hm : m + 1 < toldK) :
    TI m adj (op ++ [v]) (upd bk v (op.length + 1)) ls (⟨v, op.length + 1, adj v⟩ :: st) := by
  have hn : v ∉ op := fun hx => by
    obtain ⟨q, hq⟩ := List.getElem?_of_mem hx
    have := (h.g1 q v hq).1
    omega
  have hl := ti_len h
  have hne : ∀ q u, op[q]? = some u → u ≠ v := fun q u hq e => hn (e ▸ List.mem_of_getElem? hq)
  have hat : ∀ q, q < op.length → (op ++ [v])[q]? = op[q]? := fun q hq => List.getElem?_append_left hq
  have hlast : ∀ q u, op.length ≤ q → (op ++ [v])[q]? = some u → q = op.length ∧ u = v := by
    intro q u hq hu
    have hlt := (List.getElem?_eq_some_iff.1 hu).1
    rw [List.length_append, List.length_singleton] at hlt
    obtain rfl : q = op.length := by omega
    rw [List.getElem?_append_right (Nat.le_refl _), Nat.sub_self] at hu
    simp at hu
    exact ⟨rfl, hu.symm⟩
  have hb : upd bk v (op.length + 1) v = op.length + 1 := upd_same _ _ _
  have hT : ∀ w, bk w = toldK → upd bk v (op.length + 1) w = toldK := fun w hw => by
    rw [upd_other _ _ (fun e => by rw [e, h0] at hw; exact absurd hw (by decide))]; exact hw
  refine ⟨?_, ?_, ?_, ?_, ?_, ?_, ?_⟩
  · rw [List.nodup_append]
    exact ⟨h.nd, by simp, fun a ha b hb e => hn (by simp at hb; rw [← hb, ← e]; exact ha)⟩
  · intro u hu
    rcases List.mem_append.1 hu with hu | hu
    · exact h.lt u hu
    · simp at hu; omega
  · intro q u hq
    rcases Nat.lt_or_ge q op.length with hlt | hge
    · rw [hat q hlt] at hq
      rw [upd_other _ _ (hne q u hq)]
      obtain ⟨a, b, x, hx, hw⟩ := h.g1 q u hq
      exact ⟨a, b, x, (hat _ (by omega)).trans hx, hw⟩
    · obtain ⟨rfl, rfl⟩ := hlast q u hge hq
      rw [hb]
      exact ⟨by omega, Nat.le_refl _, u, by simp, .inl rfl⟩
  · intro u hu
    by_cases e : u = v
    · subst e; exact .inr (.inr (by simp))
    · rw [upd_other _ _ e]
      rcases h.g2 u hu with a | a | a
      · exact .inl a
      · exact .inr (.inl a)
      · exact .inr (.inr (by simp [a]))
  · intro u hu hT' w hw
    by_cases e : u = v
    · subst e; rw [hb] at hT'; omega
    · rw [upd_other _ _ e] at hT'
      exact hT w (h.g3 u hu hT' w hw)
  · intro u hu hT'
    by_cases e : u = v
    · subst e; rw [hb] at hT'; omega
    · rw [upd_other _ _ e] at hT'
      exact h.g4 u hu hT'
  · refine ⟨⟨by simp, by simp, by simp, ⟨[], rfl, by simp⟩, ?_, ?_, ?_⟩, ?_, ht⟩
    · intro q u hp _ hq
      obtain ⟨_, rfl⟩ := hlast q u (by simp at hp; omega) hq
      exact .inl rfl
    · intro q u hp hlt hq
      simp at hp hlt
      omega
    · intro q u hp _ hq
      obtain ⟨_, rfl⟩ := hlast q u (by simp at hp; omega) hq
      exact .inl (Nat.le_refl _)
    · show SW adj (op ++ [v]) _ st (op.length + 1 - 1)
      rw [Nat.add_sub_cancel]
      exact sw_mono h.sw hat (fun q u _ hq => upd_other _ _ (hne q u hq)) hT (fun r w hr => .inl ((hat r (List.getElem?_eq_some_iff.1 hr).1).trans hr))

theorem ti_along {m : Nat} {adj : Nat → List Nat} {op : List Nat} {bk ls : Nat → Nat} {c p d : Nat} {l : List Nat} {rest : List Stp} (h : TI m adj op bk ls (⟨c, p, d :: l⟩ :: rest)) (hd : d < m) (h0 : bk d ≠ 0) (hm : m + 1 < toldK) :
    TI m adj op (upd bk c (min (bk c) (bk d))) ls (⟨c, p, l⟩ :: rest) := by
  obtain ⟨hs, hr, ht⟩ := h.sw
  have hl := ti_len h
  have hp1 : 1 ≤ p := hs.p1
  have hph : p ≤ op.length := hs.ph
  have hc : op[p - 1]? = some c := hs.at_
  have hcb := h.g1 _ _ hc
  have hcT : bk c ≠ toldK := by omega
  have hadj : d ∈ adj c := by
    obtain ⟨pre, e, _⟩ := hs.pre
    simp only at e
    rw [e]; simp
  have hb : upd bk c (min (bk c) (bk d)) c = min (bk c) (bk d) := upd_same _ _ _
  have hT : ∀ w, bk w = toldK → upd bk c (min (bk c) (bk d)) w = toldK := fun w hw => by
    rw [upd_other _ _ (fun e => hcT (by rw [← e]; exact hw))]; exact hw
  have hT' : ∀ w, upd bk c (min (bk c) (bk d)) w = toldK → bk w = toldK ∧ w ≠ c := fun w hw => by
    by_cases e : w = c
    · subst e; rw [hb] at hw; omega
    · rw [upd_other _ _ e] at hw; exact ⟨hw, e⟩
  have hle : ∀ w, upd bk c (min (bk c) (bk d)) w ≤ bk w := fun w => by
    by_cases e : w = c
    · subst e; rw [hb]; omega
    · rw [upd_other _ _ e]; exact Nat.le_refl _
  have hD : ∀ v w, DoneE op bk v w → DoneE op (upd bk c (min (bk c) (bk d))) v w := by
    intro v w hx
    rcases hx with hx | ⟨r, hr, hbx⟩
    · exact .inl (hT w hx)
    · exact .inr ⟨r, hr, Nat.le_trans (hle v) hbx⟩
  have hdo : bk d = toldK ∨ ∃ r : Nat, op[r]? = some d := by
    rcases h.g2 d hd with a | a | a
    · exact absurd a h0
    · exact .inl a
    · exact .inr (List.getElem?_of_mem a)
  refine ⟨h.nd, h.lt, ?_, ?_, ?_, ?_, ?_, ?_, ht⟩
  · intro q v hq
    by_cases e : v = c
    · subst e
      obtain rfl := nodup_at h.nd hq hc
      rw [hb]
      obtain ⟨a, b, u, hu, hw⟩ := hcb
      rcases hdo with hdT | ⟨r, hrd⟩
      · rw [hdT, Nat.min_eq_left (by omega)]
        exact ⟨a, b, u, hu, hw⟩
      · obtain ⟨a', b', u', hu', hw'⟩ := h.g1 r d hrd
        rcases Nat.le_total (bk v) (bk d) with hx | hx
        · rw [Nat.min_eq_left hx]
          exact ⟨a, b, u, hu, hw⟩
        · rw [Nat.min_eq_right hx]
          exact ⟨a', by omega, u', hu', .inr ((Walk.one hadj).back hw')⟩
    · rw [upd_other _ _ e]
      exact h.g1 q v hq
  · intro v hv
    by_cases e : v = c
    · subst e; exact .inr (.inr (List.mem_of_getElem? hc))
    · rw [upd_other _ _ e]; exact h.g2 v hv
  · intro v hv hvT w hw
    exact hT w (h.g3 v hv (hT' v hvT).1 w hw)
  · intro v hv hvT
    exact h.g4 v hv (hT' v hvT).1
  · refine ⟨hp1, hph, hc, ?_, hs.down, ?_, ?_⟩
    · obtain ⟨pre, e, hx⟩ := hs.pre
      simp only at e hx
      refine ⟨pre ++ [d], by simp only; rw [e]; simp, fun w hw => ?_⟩
      rcases List.mem_append.1 hw with hw | hw
      · exact hD _ w (hx w hw)
      · simp at hw
        subst hw
        rcases hdo with hdT | ⟨r, hrd⟩
        · exact .inl (hT w hdT)
        · refine .inr ⟨r, hrd, ?_⟩
          have := (h.g1 r w hrd).2.1
          show upd bk c (min (bk c) (bk w)) c ≤ _
          rw [upd_same]
          omega
    · intro q v a b hq
      obtain ⟨x, y⟩ := hs.rest q v a b hq
      exact ⟨Nat.le_trans (hle v) x, fun w hw => hD v w (y w hw)⟩
    · intro q v a b hq
      left
      show upd bk c (min (bk c) (bk d)) c ≤ _
      by_cases e : v = c
      · subst e; exact Nat.le_refl _
      · rw [hb, upd_other _ _ e]
        rcases hs.low q v a b hq with x | ⟨d', l', e', r, hr, hrq, hbx⟩
        · simp only at x; omega
        · simp only at e'
          injection e' with e1 e2
          subst e1
          omega
  · exact sw_mono hr (fun q _ => rfl) (fun q v hq hv => upd_other _ _ (fun e => by
      subst e
      have := nodup_at h.nd hv hc
      simp only at hq
      omega)) hT (fun r w hw => .inl hw)

theorem ti_leave {m : Nat} {adj : Nat → List Nat} {op : List Nat} {bk ls : Nat → Nat} {c p : Nat} {rest : List Stp} (h : TI m adj op bk ls (⟨c, p, []⟩ :: rest)) (hb : bk c < p) : TI m adj op bk ls rest := by
  obtain ⟨hs, hr, ht⟩ := h.sw
  have hp1 : 1 ≤ p := hs.p1
  have hph : p ≤ op.length := hs.ph
  have hc : op[p - 1]? = some c := hs.at_
  have hcb := h.g1 _ _ hc
  refine ⟨h.nd, h.lt, h.g1, h.g2, h.g3, h.g4, ?_⟩
  cases rest with
  | nil =>
    have : p - 1 = 0 := hr
    omega
  | cons t rest =>
    obtain ⟨hs', hr', ht'⟩ := hr
    obtain ⟨l, hl⟩ := ht t (by simp)
    simp only at hl hs'
    have hph' : t.p ≤ p - 1 := hs'.ph
    have hadj : c ∈ adj t.c := by
      obtain ⟨pre, e, _⟩ := hs'.pre
      rw [e, hl]; simp
    refine ⟨⟨hs'.p1, by omega, hs'.at_, hs'.pre, ?_, ?_, ?_⟩, hr', ht'⟩
    · intro q v a b hq
      rcases Nat.lt_or_ge q (p - 1) with hlt | hge
      · exact hs'.down q v a hlt hq
      · exact .inr ((Walk.one hadj).back (hs.down q v (by simp only; omega) b hq))
    · intro q v a b hq
      rcases Nat.lt_or_ge q (p - 1) with hlt | hge
      · exact hs'.rest q v a hlt hq
      · rcases Nat.lt_or_ge q p with hlt | hge2
        · obtain rfl : q = p - 1 := by omega
          obtain rfl : c = v := Option.some.inj (hc.symm.trans hq)
          obtain ⟨pre, e, hx⟩ := hs.pre
          simp only at e hx
          rw [List.append_nil] at e
          exact ⟨by omega, fun w hw => hx w (e ▸ hw)⟩
        · exact hs.rest q v hge2 b hq
    · intro q v a b hq
      rcases Nat.lt_or_ge q (p - 1) with hlt | hge
      · exact hs'.low q v a hlt hq
      · right
        refine ⟨c, l, hl, p - 1, hc, hge, ?_⟩
        rcases hs.low q v (by simp only; omega) b hq with x | ⟨d, l', e', _⟩
        · exact x
        · cases e'

theorem sw_at {adj : Nat → List Nat} {op : List Nat} {bk : Nat → Nat} : ∀ {st : List Stp} {hi q v : Nat}, SW adj op bk st hi → q < hi → op[q]? = some v → (∃ s ∈ st, s.c = v) ∨ bk v ≤ q
  | [], hi, q, v, h, hq, hv => by
    have : hi = 0 := h
    omega
  | s :: rest, hi, q, v, ⟨hs, hr, ht⟩, hq, hv => by
    have := hs.p1
    rcases Nat.lt_or_ge q (s.p - 1) with hlt | hge
    · rcases sw_at hr hlt hv with ⟨t, a, b⟩ | a
      · exact .inl ⟨t, List.mem_cons_of_mem _ a, b⟩
      · exact .inr a
    · rcases Nat.lt_or_ge q s.p with hlt | hge2
      · obtain rfl : q = s.p - 1 := by omega
        exact .inl ⟨s, by simp, Option.some.inj (hs.at_.symm.trans hv)⟩
      · exact .inr (hs.rest q v hge2 hq hv).1
theorem sw_chain {adj : Nat → List Nat} {op : List Nat} {bk : Nat → Nat} : ∀ {st : List Stp} {s : Stp} {hi : Nat}, SW adj op bk (s :: st) hi → ∀ t ∈ s :: st, Back (fun a b => b ∈ adj a) t.c s.c
  | [], s, hi, h, t, ht => by
    simp at ht; subst ht; exact .inl rfl
  | s' :: rest, s, hi, ⟨hs, hr, hh⟩, t, ht => by
    rcases List.mem_cons.1 ht with e | ht
    · subst e; exact .inl rfl
    · have h1 := sw_chain hr t ht
      obtain ⟨l, hl⟩ := hh s' (by simp)
      obtain ⟨pre, e, _⟩ := hr.1.pre
      have : s.c ∈ adj s'.c := by rw [e, hl]; simp
      exact h1.trans (.inr (.one this))
theorem sw_up {m : Nat} {adj : Nat → List Nat} {op : List Nat} {bk ls : Nat → Nat} {s : Stp} {rest : List Stp} (h : TI m adj op bk ls (s :: rest)) : ∀ (n q v : Nat), q < n → op[q]? = some v → Back (fun a b => b ∈ adj a) v s.c
  | 0, q, v, hn, _ => absurd hn (by omega)
  | n + 1, q, v, hn, hv => by
    have hlt := (List.getElem?_eq_some_iff.1 hv).1
    rcases sw_at h.sw hlt hv with ⟨t, ht, rfl⟩ | hb
    · exact sw_chain h.sw t ht
    · obtain ⟨a, b, u, hu, hw⟩ := h.g1 q v hv
      exact hw.trans (sw_up h n (bk v - 1) u (by omega) hu)
theorem walkIn {adj : Nat → List Nat} {P : Nat → Prop} (hP : ∀ v, P v → ∀ w ∈ adj v, P w) {a b : Nat} (h : Walk (fun a b => b ∈ adj a) a b) (ha : P a) : P b := by
  induction h with
  | one h => exact hP _ ha _ h
  | more h _ ih => exact ih (hP _ ha _ h)

def minL : List Nat → Nat
  | [] => 0
  | a :: l => l.foldl min a
theorem foldl_min : ∀ (l : List Nat) (a : Nat), l.foldl min a ≤ a ∧ (∀ x ∈ l, l.foldl min a ≤ x) ∧ (l.foldl min a = a ∨ l.foldl min a ∈ l)
  | [], a => ⟨Nat.le_refl _, by simp, .inl rfl⟩
  | b :: l, a => by
    obtain ⟨h1, h2, h3⟩ := foldl_min l (min a b)
    simp only [List.foldl_cons]
    refine ⟨by omega, fun x hx => ?_, ?_⟩
    · rcases List.mem_cons.1 hx with rfl | hx
      · omega
      · exact h2 x hx
    · rcases h3 with h3 | h3
      · rw [h3]
        rcases Nat.le_total a b with h | h
        · rw [Nat.min_eq_left h]; exact .inl rfl
        · rw [Nat.min_eq_right h]; exact .inr (by simp)
      · exact .inr (List.mem_cons_of_mem _ h3)
theorem minL_mem {l : List Nat} (h : l ≠ []) : minL l ∈ l := by
  cases l with
  | nil => exact absurd rfl h
  | cons a l =>
    rcases (foldl_min l a).2.2 with h | h
    · show l.foldl min a ∈ _
      rw [h]; simp
    · exact List.mem_cons_of_mem _ h
theorem minL_le {l : List Nat} {x : Nat} (h : x ∈ l) : minL l ≤ x := by
  cases l with
  | nil => cases h
  | cons a l =>
    rcases List.mem_cons.1 h with rfl | h
    · exact (foldl_min l x).1
    · exact (foldl_min l a).2.1 x h

theorem ti_tell {m : Nat} {adj : Nat → List Nat} {op : List Nat} {bk ls bk' ls' : Nat → Nat} {c p : Nat} {rest : List Stp} (h : TI m adj op bk ls (⟨c, p, []⟩ :: rest)) (hb : ¬ bk c < p) (hm : m + 1 < toldK) (hA : ∀ v, ∀ w ∈ adj v, w < m)
    (hk1 : ∀ v ∈ op.drop (p - 1), bk' v = toldK ∧ ls' v = minL (op.drop (p - 1))) (hk2 : ∀ v, v ∉ op.drop (p - 1) → bk' v = bk v ∧ ls' v = ls v) : TI m adj (op.take (p - 1)) bk' ls' rest := by
  obtain ⟨hs, hr, ht⟩ := h.sw
  have hl := ti_len h
  have hp1 : 1 ≤ p := hs.p1
  have hph : p ≤ op.length := hs.ph
  have hc : op[p - 1]? = some c := hs.at_
  obtain ⟨c1, c2, _⟩ := h.g1 _ _ hc
  have hbc : bk c = p := by omega
  have hmem : ∀ v, v ∈ op.drop (p - 1) ↔ ∃ q, p ≤ q + 1 ∧ op[q]? = some v := by
    intro v
    constructor
    · intro hv
      obtain ⟨i, hi⟩ := List.getElem?_of_mem hv
      rw [List.getElem?_drop] at hi
      exact ⟨_, by omega, hi⟩
    · rintro ⟨q, hq, hv⟩
      refine List.mem_of_getElem? (i := q - (p - 1)) ?_
      rw [List.getElem?_drop, show p - 1 + (q - (p - 1)) = q by omega]
      exact hv
  have hopT : ∀ q v, op[q]? = some v → bk v ≠ toldK := fun q v hq => by
    have := (List.getElem?_eq_some_iff.1 hq).1
    have := (h.g1 q v hq).2.1
    omega
  have hlow : ∀ q v, p ≤ q + 1 → op[q]? = some v → p ≤ bk v := by
    intro q v hq hv
    rcases hs.low q v hq (List.getElem?_eq_some_iff.1 hv).1 hv with x | ⟨d, l', e', _⟩
    · simp only at x; omega
    · cases e'
  have hcl : ∀ v, v ∈ op.drop (p - 1) → ∀ w ∈ adj v, bk w = toldK ∨ w ∈ op.drop (p - 1) := by
    intro v hv w hw
    obtain ⟨q, hq, hvq⟩ := (hmem v).1 hv
    have hd : DoneE op bk v w := by
      rcases Nat.lt_or_ge q p with hlt | hge
      · obtain rfl : q = p - 1 := by omega
        obtain rfl : c = v := Option.some.inj (hc.symm.trans hvq)
        obtain ⟨pre, e, hx⟩ := hs.pre
        simp only at e hx
        rw [List.append_nil] at e
        exact hx w (e ▸ hw)
      · exact (hs.rest q v hge (List.getElem?_eq_some_iff.1 hvq).1 hvq).2 w hw
    rcases hd with hd | ⟨r, hr, hbr⟩
    · exact .inl hd
    · exact .inr ((hmem w).2 ⟨r, by have := hlow q v hq hvq; omega, hr⟩)
  have hTop : ∀ v, v < m → (bk v = toldK ∨ v ∈ op.drop (p - 1)) → ∀ w ∈ adj v, bk w = toldK ∨ w ∈ op.drop (p - 1) := by
    intro v hvm hv w hw
    rcases hv with hv | hv
    · exact .inl (h.g3 v hvm hv w hw)
    · exact hcl v hv w hw
  have hcm : c < m := h.lt c (List.mem_of_getElem? hc)
  have hck : c ∈ op.drop (p - 1) := (hmem c).2 ⟨p - 1, by omega, hc⟩
  have hin : ∀ u, Knot (fun a b => b ∈ adj a) c u ↔ u ∈ op.drop (p - 1) := by
    intro u
    constructor
    · rintro ⟨h1, h2⟩
      rcases h1 with rfl | h1
      · exact hck
      · have hu : u < m ∧ (bk u = toldK ∨ u ∈ op.drop (p - 1)) := walkIn (P := fun v => v < m ∧ (bk v = toldK ∨ v ∈ op.drop (p - 1))) (fun v hv w hw => ⟨hA v w hw, hTop v hv.1 hv.2 w hw⟩) h1 ⟨hcm, .inr hck⟩
        rcases hu.2 with hT | hk
        · exfalso
          rcases h2 with rfl | h2
          · exact hopT _ _ hc hT
          · have := walkIn (P := fun v => v < m ∧ bk v = toldK) (fun v hv w hw => ⟨hA v w hw, h.g3 v hv.1 hv.2 w hw⟩) h2 ⟨hu.1, hT⟩
            exact hopT _ _ hc this.2
        · exact hk
    · intro hu
      obtain ⟨q, hq, hv⟩ := (hmem u).1 hu
      have hlt := (List.getElem?_eq_some_iff.1 hv).1
      exact ⟨hs.down q u hq hlt hv, sw_up h (q + 1) q u (by omega) hv⟩
  have hne : op.drop (p - 1) ≠ [] := List.ne_nil_of_mem hck
  have hleast : ∀ v ∈ op.drop (p - 1), LeastK (fun a b => b ∈ adj a) v (minL (op.drop (p - 1))) := by
    intro v hv
    have h1 := (hin v).2 hv
    refine ⟨h1.symm.trans ((hin _).2 (minL_mem hne)), fun u hu => minL_le ((hin u).1 (h1.trans hu))⟩
  have hoff : ∀ q v, q < p - 1 → op[q]? = some v → v ∉ op.drop (p - 1) := by
    intro q v hq hv hx
    obtain ⟨r, hr1, hr2⟩ := (hmem v).1 hx
    have := nodup_at h.nd hv hr2
    omega
  have hT : ∀ w, bk w = toldK → bk' w = toldK := fun w hw => by
    by_cases hx : w ∈ op.drop (p - 1)
    · exact (hk1 w hx).1
    · rw [(hk2 w hx).1]; exact hw
  have hT' : ∀ w, bk' w = toldK → bk w = toldK ∨ w ∈ op.drop (p - 1) := fun w hw => by
    by_cases hx : w ∈ op.drop (p - 1)
    · exact .inr hx
    · rw [(hk2 w hx).1] at hw; exact .inl hw
  have htk : ∀ q, q < p - 1 → (op.take (p - 1))[q]? = op[q]? := fun q hq => List.getElem?_take_of_lt hq
  have htk2 : ∀ q v, (op.take (p - 1))[q]? = some v → q < p - 1 ∧ op[q]? = some v := by
    intro q v hq
    have hlt := (List.getElem?_eq_some_iff.1 hq).1
    rw [List.length_take] at hlt
    have hq1 : q < p - 1 := by omega
    exact ⟨hq1, (htk q hq1).symm.trans hq⟩
  refine ⟨h.nd.sublist (List.take_sublist _ _), fun v hv => h.lt v (List.mem_of_mem_take hv), ?_, ?_, ?_, ?_, ?_⟩
  · intro q v hq
    obtain ⟨hq1, hv⟩ := htk2 q v hq
    rw [(hk2 v (hoff q v hq1 hv)).1]
    obtain ⟨a, b, u, hu, hw⟩ := h.g1 q v hv
    exact ⟨a, b, u, (htk _ (by omega)).trans hu, hw⟩
  · intro v hv
    by_cases hx : v ∈ op.drop (p - 1)
    · exact .inr (.inl (hk1 v hx).1)
    · rw [(hk2 v hx).1]
      rcases h.g2 v hv with a | a | a
      · exact .inl a
      · exact .inr (.inl a)
      · obtain ⟨q, hq⟩ := List.getElem?_of_mem a
        have : q < p - 1 := by
          rcases Nat.lt_or_ge q (p - 1) with h | h
          · exact h
          · exact absurd ((hmem v).2 ⟨q, by omega, hq⟩) hx
        exact .inr (.inr (List.mem_of_getElem? ((htk q this).trans hq)))
  · intro v hv hvT w hw
    rcases hTop v hv (hT' v hvT) w hw with a | a
    · exact hT w a
    · exact (hk1 w a).1
  · intro v hv hvT
    by_cases hx : v ∈ op.drop (p - 1)
    · rw [(hk1 v hx).2]; exact hleast v hx
    · rw [(hk2 v hx).2]
      rw [(hk2 v hx).1] at hvT
      exact h.g4 v hv hvT
  · rw [List.length_take, Nat.min_eq_left (by omega)]
    exact sw_mono hr htk (fun q v hq hv => (hk2 v (hoff q v hq hv)).1) hT (fun r w hw => by
      by_cases hx : w ∈ op.drop (p - 1)
      · exact .inr (hk1 w hx).1
      · left
        have : r < p - 1 := by
          rcases Nat.lt_or_ge r (p - 1) with h | h
          · exact h
          · exact absurd ((hmem w).2 ⟨r, by omega, hw⟩) hx
        exact (htk r this).trans hw)
end Go.Proofs.YtfpepoebammeoaaGreat
set_option linter.unusedVariables false
namespace Go.Proofs.YtfpepoebammeoaaGreat

def sumK (f : Nat → Nat) (m : Nat) : Nat := ((List.range m).map f).sum
theorem sumK_succ (f : Nat → Nat) (m : Nat) : sumK f (m + 1) = sumK f m + f m := by simp [sumK, List.range_succ]
theorem sumK_le {f g : Nat → Nat} : ∀ {m : Nat}, (∀ u, u < m → f u ≤ g u) → sumK f m ≤ sumK g m
  | 0, _ => by simp [sumK]
  | m + 1, h => by
    rw [sumK_succ, sumK_succ]
    have := sumK_le (m := m) (fun u hu => h u (by omega))
    have := h m (by omega)
    omega
theorem sumK_lt {f g : Nat → Nat} {v k : Nat} : ∀ {m : Nat}, v < m → (∀ u, u < m → u ≠ v → f u ≤ g u) → f v + k ≤ g v → sumK f m + k ≤ sumK g m
  | 0, hv, _, _ => absurd hv (by omega)
  | m + 1, hv, h, hk => by
    rw [sumK_succ, sumK_succ]
    by_cases e : v = m
    · subst e
      have := sumK_le (f := f) (g := g) (m := v) (fun u hu => h u (by omega) (by omega))
      omega
    · have := sumK_lt (f := f) (g := g) (v := v) (k := k) (m := m) (by omega) (fun u hu hne => h u (by omega) hne) hk
      have := h m (by omega) (fun x => e x.symm)
      omega
def measK (m : Nat) (adj : Nat → List Nat) (bk : Nat → Nat) (st : List Stp) : Nat := sumK (fun v => if bk v = 0 then (adj v).length + 2 else 0) m + (st.map fun s => s.l.length + 1).sum
theorem meas_enter {m : Nat} {adj : Nat → List Nat} {bk : Nat → Nat} {st : List Stp} {v p x : Nat} (hv : v < m) (h0 : bk v = 0) (hx : x ≠ 0) : measK m adj (upd bk v x) (⟨v, p, adj v⟩ :: st) + 1 ≤ measK m adj bk st := by
  unfold measK
  have := sumK_lt (f := fun u => if upd bk v x u = 0 then (adj u).length + 2 else 0) (g := fun u => if bk u = 0 then (adj u).length + 2 else 0) (v := v) (k := (adj v).length + 2) (m := m) hv
    (fun u _ hne => by simp [upd_other _ _ hne]) (by simp [upd_same, hx, h0])
  simp only [List.map_cons, List.sum_cons]
  omega
theorem meas_along {m : Nat} {adj : Nat → List Nat} {bk : Nat → Nat} {rest : List Stp} {c p d x : Nat} {l : List Nat} (h0 : bk c ≠ 0) (hx : x ≠ 0) : measK m adj (upd bk c x) (⟨c, p, l⟩ :: rest) + 1 ≤ measK m adj bk (⟨c, p, d :: l⟩ :: rest) := by
  unfold measK
  have := sumK_le (f := fun u => if upd bk c x u = 0 then (adj u).length + 2 else 0) (g := fun u => if bk u = 0 then (adj u).length + 2 else 0) (m := m) (fun u _ => by
    by_cases e : u = c
    · subst e; simp [upd_same, hx]
    · simp [upd_other _ _ e])
  simp only [List.map_cons, List.sum_cons, List.length_cons]
  omega
theorem meas_leave {m : Nat} {adj : Nat → List Nat} {bk bk' : Nat → Nat} {rest : List Stp} {s : Stp} (h : ∀ u, u < m → bk' u = 0 → bk u = 0) : measK m adj bk' rest + 1 ≤ measK m adj bk (s :: rest) := by
  unfold measK
  have := sumK_le (f := fun u => if bk' u = 0 then (adj u).length + 2 else 0) (g := fun u => if bk u = 0 then (adj u).length + 2 else 0) (m := m) (fun u hu => by
    by_cases e : bk' u = 0
    · simp [e, h u hu e]
    · simp [e])
  simp only [List.map_cons, List.sum_cons]
  omega

def Via (E : Nat → Nat → Prop) : Nat → Nat → Nat → Prop
  | 0, i, j => E i j
  | k + 1, i, j => Via E k i j ∨ (Via E k i k ∧ Via E k k j)
theorem via_walk {E : Nat → Nat → Prop} : ∀ {k i j : Nat}, Via E k i j → Walk E i j
  | 0, i, j, h => .one h
  | k + 1, i, j, h => by
    rcases h with h | ⟨h, t⟩
    · exact via_walk h
    · exact (via_walk h).trans (via_walk t)
theorem via_mid {E : Nat → Nat → Prop} : ∀ {k i d j : Nat}, d < k → Via E k i d → Via E k d j → Via E k i j
  | 0, _, _, _, h, _, _ => absurd h (by omega)
  | k + 1, i, d, j, hd, h, t => by
    by_cases e : d = k
    · subst e
      have h1 : Via E d i d := by
        rcases h with h | ⟨h, _⟩ <;> exact h
      have t1 : Via E d d j := by
        rcases t with t | ⟨_, t⟩ <;> exact t
      exact .inr ⟨h1, t1⟩
    · have hk : d < k := by omega
      rcases h with h | ⟨h1, h2⟩
      · rcases t with t | ⟨t1, t2⟩
        · exact .inl (via_mid hk h t)
        · exact .inr ⟨via_mid hk h t1, t2⟩
      · rcases t with t | ⟨t1, t2⟩
        · exact .inr ⟨h1, via_mid hk h2 t⟩
        · exact .inr ⟨h1, t2⟩
theorem via_up {E : Nat → Nat → Prop} {i j : Nat} (h : E i j) : ∀ k, Via E k i j
  | 0 => h
  | k + 1 => .inl (via_up h k)
theorem walk_via {E : Nat → Nat → Prop} {n : Nat} (hE : ∀ a b, E a b → b < n) {i j : Nat} (h : Walk E i j) : Via E n i j := by
  induction h with
  | one h => exact via_up h n
  | more h _ ih => exact via_mid (hE _ _ h) (via_up h n) ih
theorem via_iff {E : Nat → Nat → Prop} {n : Nat} (hE : ∀ a b, E a b → b < n) (i j : Nat) : Via E n i j ↔ Walk E i j := ⟨via_walk, walk_via hE⟩

theorem ring_of {E : Nat → Nat → Prop} {P : Nat → Prop} {n : Nat} (hn : ∀ v, P v → v < n) (hP : ∀ v, P v → ∃ u, P u ∧ E u v) {v : Nat} (hv : P v) : ∃ u, P u ∧ Walk E u u := by
  have key : ∀ k, ∃ l : List Nat, l.length = k + 1 ∧ (∀ x ∈ l, P x) ∧ (∀ (i j : Nat) x y, i < j → l[i]? = some x → l[j]? = some y → Walk E x y) := by
    intro k
    induction k with
    | zero => exact ⟨[v], rfl, by simp [hv], fun i j x y hij _ hy => by
        have := (List.getElem?_eq_some_iff.1 hy).1
        simp at this
        omega⟩
    | succ k ih =>
      obtain ⟨l, hl, h1, h2⟩ := ih
      cases l with
      | nil => simp at hl
      | cons a l =>
        obtain ⟨u, hu, he⟩ := hP a (h1 a (by simp))
        refine ⟨u :: a :: l, by simp at hl ⊢; omega, fun x hx => ?_, fun i j x y hij hx hy => ?_⟩
        · rcases List.mem_cons.1 hx with rfl | hx
          · exact hu
          · exact h1 x hx
        · cases j with
          | zero => omega
          | succ j =>
            rw [List.getElem?_cons_succ] at hy
            cases i with
            | zero =>
              simp at hx
              subst hx
              cases j with
              | zero =>
                simp at hy
                subst hy
                exact .one he
              | succ j => exact .more he (h2 0 (j + 1) a y (by omega) (by simp) hy)
            | succ i =>
              rw [List.getElem?_cons_succ] at hx
              exact h2 i j x y (by omega) hx hy
  obtain ⟨l, hl, h1, h2⟩ := key n
  have hnd : ¬ l.Nodup := fun h => by
    have := nodupN_len h (fun x hx => hn x (h1 x hx))
    omega
  have : ∃ i j : Nat, i < j ∧ ∃ x, l[i]? = some x ∧ l[j]? = some x := by
    refine Classical.byContradiction fun hx => hnd ?_
    unfold List.Nodup
    rw [List.pairwise_iff_getElem]
    intro i j hi hj hij he
    exact hx ⟨i, j, hij, l[i], List.getElem?_eq_getElem hi, by rw [he]; exact List.getElem?_eq_getElem hj⟩
  obtain ⟨i, j, hij, x, hx, hy⟩ := this
  exact ⟨x, h1 x (List.mem_of_getElem? hx), h2 i j x x hij hx hy⟩
end Go.Proofs.YtfpepoebammeoaaGreat
set_option linter.unusedVariables false
namespace Go.Proofs.YtfpepoebammeoaaGreat

def needE (es : List (Nat × Nat)) (u : Int) : List Int := (es.filter fun e => (e.2 : Int) == u).map fun e => (e.1 : Int)
theorem mem_needE {es : List (Nat × Nat)} {u : Nat} {d : Int} : d ∈ needE es (u : Int) ↔ ∃ e ∈ es, e.2 = u ∧ d = (e.1 : Int) := by
  simp only [needE, List.mem_map, List.mem_filter, beq_iff_eq, Int.natCast_inj]
  constructor
  · rintro ⟨e, ⟨a, b⟩, c⟩; exact ⟨e, a, b, c.symm⟩
  · rintro ⟨e, a, b, c⟩; exact ⟨e, ⟨a, b⟩, c.symm⟩
theorem canB_iff {es : List (Nat × Nat)} {told : List Int} {u : Nat} : canB (needE es) told u = true ↔ (u : Int) ∉ told ∧ ∀ e ∈ es, e.2 = u → (e.1 : Int) ∈ told := by
  unfold canB waitK
  simp only [Bool.and_eq_true, Bool.not_eq_true', beq_iff_eq, List.countP_eq_zero]
  constructor
  · rintro ⟨a, b⟩
    refine ⟨by simpa using a, fun e he h2 => ?_⟩
    have := b _ (mem_needE.2 ⟨e, he, h2, rfl⟩)
    simpa using this
  · rintro ⟨a, b⟩
    refine ⟨by simpa using a, fun d hd => ?_⟩
    obtain ⟨e, he, h2, rfl⟩ := mem_needE.1 hd
    simpa using b e he h2
theorem next_of {es : List (Nat × Nat)} {n u : Nat} {told : List Int} (hu : u < n) (hc : canB (needE es) told u = true) (hl : ∀ k, k < u → canB (needE es) told k = false) : nextK (needE es) n told = some u := find_range hu hc hl
theorem next_min {need : Int → List Int} {n u : Nat} {told : List Int} (h : nextK need n told = some u) {k : Nat} (hk : k < u) : canB need told k = false := by
  unfold nextK at h
  rw [List.find?_eq_some_iff_append] at h
  obtain ⟨hc, as9, bs, he, hn⟩ := h
  have hun := (next_lt (need := need) (n := n) (told := told) (u := u) (by unfold nextK; rw [List.find?_eq_some_iff_append]; exact ⟨hc, as9, bs, he, hn⟩)).1
  have hlen : as9.length = u := by
    have h1 : (List.range n)[as9.length]? = some u := by rw [he]; simp
    rw [List.getElem?_range (by have := congrArg List.length he; simp at this; omega)] at h1
    exact Option.some.inj h1
  have hk2 : k ∈ as9 := by
    have h1 : (List.range n)[k]? = some k := List.getElem?_range (by omega)
    rw [he, List.getElem?_append_left (by omega)] at h1
    exact List.mem_of_getElem? h1
  simpa using hn k hk2
theorem next_none {need : Int → List Int} {n : Nat} {told : List Int} (h : nextK need n told = none) {k : Nat} (hk : k < n) : canB need told k = false := by
  unfold nextK at h
  rw [List.find?_eq_none] at h
  simpa using h k (List.mem_range.2 hk)
theorem reach_beh {need : Int → List Int} {n : Nat} {told : List Int} (h : ReachK need n told) : ∀ (k : Nat) x, told[k]? = some x → ∀ d ∈ need x, ∃ j : Nat, j < k ∧ told[j]? = some d := by
  induction h with
  | nil => intro k x hk; simp at hk
  | @step told u h hu ih =>
    intro k x hk d hd
    rcases Nat.lt_or_ge k told.length with hlt | hge
    · rw [List.getElem?_append_left hlt] at hk
      obtain ⟨j, hj, he⟩ := ih k x hk d hd
      exact ⟨j, hj, by rw [List.getElem?_append_left (by omega)]; exact he⟩
    · have hkl := (List.getElem?_eq_some_iff.1 hk).1
      rw [List.length_append, List.length_singleton] at hkl
      obtain rfl : k = told.length := by omega
      rw [List.getElem?_append_right (Nat.le_refl _), Nat.sub_self] at hk
      simp at hk
      subst hk
      have hc := (next_lt hu).2
      unfold canB waitK at hc
      simp only [Bool.and_eq_true, beq_iff_eq, List.countP_eq_zero] at hc
      have := hc.2 d hd
      simp at this
      obtain ⟨j, hj⟩ := List.getElem?_of_mem this
      exact ⟨j, (List.getElem?_eq_some_iff.1 hj).1, by rw [List.getElem?_append_left (List.getElem?_eq_some_iff.1 hj).1]; exact hj⟩
theorem nodupI_at {l : List Int} (h : l.Nodup) {i j : Nat} {v : Int} (hi : l[i]? = some v) (hj : l[j]? = some v) : i = j := (List.getElem?_inj (List.getElem?_eq_some_iff.1 hi).1 h).1 (hi.trans hj.symm)
theorem reach_noring {es : List (Nat × Nat)} {n : Nat} {told : List Int} (h : ReachK (needE es) n told) {a b : Nat} (hw : Walk (fun a b => (a, b) ∈ es) a b) (hb : (b : Int) ∈ told) : ∃ i j : Nat, i < j ∧ told[i]? = some (a : Int) ∧ told[j]? = some (b : Int) := by
  induction hw with
  | @one a b he =>
    obtain ⟨j, hj⟩ := List.getElem?_of_mem hb
    obtain ⟨i, hi, e⟩ := reach_beh h j _ hj (a : Int) (mem_needE.2 ⟨_, he, rfl, rfl⟩)
    exact ⟨i, j, hi, e, hj⟩
  | @more a b c he _ ih =>
    obtain ⟨i, j, hij, hi, hj⟩ := ih hb
    obtain ⟨k, hk, e⟩ := reach_beh h i _ hi (a : Int) (mem_needE.2 ⟨_, he, rfl, rfl⟩)
    exact ⟨k, j, by omega, e, hj⟩
theorem full_mem {l : List Int} {n : Nat} (hn : l.Nodup) (h : ∀ x ∈ l, ∃ u : Nat, u < n ∧ x = (u : Int)) (hl : l.length = n) {v : Nat} (hv : v < n) : (v : Int) ∈ l := by
  refine Classical.byContradiction fun hx => ?_
  have h1 : (l ++ [(v : Int)]).Nodup := by
    rw [List.nodup_append]
    exact ⟨hn, by simp, fun a ha b hb e => hx (by simp at hb; rw [← hb, ← e]; exact ha)⟩
  have := nodup_len h1 (n := n) (fun x hx => by
    rcases List.mem_append.1 hx with hx | hx
    · exact h x hx
    · simp at hx; exact ⟨v, hv, hx⟩)
  simp at this
  omega
theorem nodup_sub : ∀ {a b : List Int}, a.Nodup → (∀ x ∈ a, x ∈ b) → a.length ≤ b.length
  | [], _, _, _ => by simp
  | x :: a, b, hn, h => by
    rw [List.nodup_cons] at hn
    have h1 := nodup_sub (a := a) (b := b.erase x) hn.2 (fun y hy => (List.mem_erase_of_ne (fun e => hn.1 (by rw [← e]; exact hy))).2 (h y (by simp [hy])))
    have h2 := List.length_erase_of_mem (h x (by simp))
    have h3 := List.length_pos_of_mem (h x (by simp))
    rw [List.length_cons]
    omega
theorem stuck_ring {es : List (Nat × Nat)} {n : Nat} {told : List Int} (hr : ∀ e ∈ es, e.1 < n) (h : ReachK (needE es) n told) (hN : nextK (needE es) n told = none) (hl : told.length ≠ n) : ∃ u, u < n ∧ Walk (fun a b => (a, b) ∈ es) u u := by
  obtain ⟨hnd, hlt⟩ := reach_tame h
  have hle := reach_len h
  have hex : ∃ v, v < n ∧ (v : Int) ∉ told := by
    refine Classical.byContradiction fun hx => ?_
    have h1 : ∀ v : Nat, v < n → (v : Int) ∈ told := fun v hv => Classical.byContradiction fun hy => hx ⟨v, hv, hy⟩
    have h2 : ((List.range n).map fun v : Nat => (v : Int)).Nodup := by
      rw [List.Nodup, List.pairwise_map]
      exact (List.nodup_range).imp fun hab e => hab (by omega)
    have h3 := nodup_sub h2 (fun x hx => by
      obtain ⟨v, hv, rfl⟩ := List.mem_map.1 hx
      exact h1 v (List.mem_range.1 hv))
    simp at h3
    omega
  obtain ⟨v, hv, hvt⟩ := hex
  obtain ⟨u, hu, hw⟩ := ring_of (E := fun a b => (a, b) ∈ es) (P := fun v => v < n ∧ (v : Int) ∉ told) (n := n) (fun v h => h.1) (fun v hv => by
    have hc := next_none hN hv.1
    refine Classical.byContradiction fun hx => ?_
    have : canB (needE es) told v = true := canB_iff.2 ⟨hv.2, fun e he h2 => Classical.byContradiction fun hy => hx ⟨e.1, ⟨hr e he, hy⟩, by subst h2; exact he⟩⟩
    rw [hc] at this
    cases this) ⟨hv, hvt⟩
  exact ⟨u, hu.1, hw⟩

structure Tied (n : Nat) (es : List (Nat × Nat)) (T : List Nat) : Prop where
  asc : T.Pairwise (· < ·)
  lt : ∀ t ∈ T, t < n
  fst : ∀ e ∈ es, e.1 ∈ T
  snd : ∀ e ∈ es, e.2 ∈ T
def renE (T : List Nat) (es : List (Nat × Nat)) : List (Nat × Nat) := es.map fun e => (T.idxOf e.1, T.idxOf e.2)
theorem Tied.nd {n : Nat} {es : List (Nat × Nat)} {T : List Nat} (h : Tied n es T) : T.Nodup := h.asc.imp fun hab e => by omega
theorem idx_at {T : List Nat} {t : Nat} (h : t ∈ T) : T[T.idxOf t]? = some t := by
  have := List.idxOf_lt_length_of_mem h
  rw [List.getElem?_eq_getElem this]
  simp
theorem Tied.idx {n : Nat} {es : List (Nat × Nat)} {T : List Nat} (h : Tied n es T) {p t : Nat} (hp : T[p]? = some t) : T.idxOf t = p := nodup_at h.nd (idx_at (List.mem_of_getElem? hp)) hp
theorem Tied.lt_iff {n : Nat} {es : List (Nat × Nat)} {T : List Nat} (h : Tied n es T) {p q a b : Nat} (hp : T[p]? = some a) (hq : T[q]? = some b) : p < q ↔ a < b := by
  have hpl := (List.getElem?_eq_some_iff.1 hp)
  have hql := (List.getElem?_eq_some_iff.1 hq)
  obtain ⟨h1, rfl⟩ := hpl
  obtain ⟨h2, rfl⟩ := hql
  have := List.pairwise_iff_getElem.1 h.asc
  constructor
  · intro hlt; exact this p q h1 h2 hlt
  · intro hlt
    rcases Nat.lt_trichotomy p q with h3 | h3 | h3
    · exact h3
    · subst h3; omega
    · have := this q p h2 h1 h3; omega
def MergeI (T : List Nat) (L : List Int) (i c : Nat) (out : List Int) : Prop := ∀ x : Nat, (x : Int) ∈ out ↔ (x < i ∧ x ∉ T) ∨ ∃ p : Nat, (p : Int) ∈ L.take c ∧ T[p]? = some x
structure MergeS (n : Nat) (es : List (Nat × Nat)) (T : List Nat) (L : List Int) (i c : Nat) (out : List Int) : Prop where
  reach : ReachK (needE es) n out
  mem : MergeI T L i c out
theorem merge_begin (n : Nat) (es : List (Nat × Nat)) (T : List Nat) (L : List Int) : MergeS n es T L 0 0 [] := ⟨.nil, fun x => by simp⟩
theorem merge_skip {n : Nat} {es : List (Nat × Nat)} {T : List Nat} {L : List Int} {i c : Nat} {out : List Int} (h : MergeS n es T L i c out) (hi : i ∈ T) : MergeS n es T L (i + 1) c out := ⟨h.reach, fun x => by
  rw [h.mem x]
  constructor
  · rintro (⟨a, b⟩ | a)
    · exact .inl ⟨by omega, b⟩
    · exact .inr a
  · rintro (⟨a, b⟩ | a)
    · refine .inl ⟨?_, b⟩
      rcases Nat.lt_or_ge x i with h | h
      · exact h
      · obtain rfl : x = i := by omega
        exact absurd hi b
    · exact .inr a⟩
theorem merge_not {n : Nat} {es : List (Nat × Nat)} {T : List Nat} {L : List Int} {i c : Nat} {out : List Int} (hT : Tied n es T) (h : MergeS n es T L i c out) {k t : Nat} (hk : T[k]? = some t) (hc : canB (needE (renE T es)) (L.take c) k = false) : canB (needE es) out t = false := by
  rw [Bool.eq_false_iff]
  intro hx
  rw [Bool.eq_false_iff] at hc
  apply hc
  obtain ⟨h1, h2⟩ := canB_iff.1 hx
  refine canB_iff.2 ⟨fun hm => h1 ((h.mem t).2 (.inr ⟨k, hm, hk⟩)), fun e he he2 => ?_⟩
  obtain ⟨e0, he0, rfl⟩ := List.mem_map.1 he
  simp only at he2 ⊢
  have ht : e0.2 = t := by
    have := idx_at (hT.snd e0 he0)
    rw [he2, hk] at this
    exact (Option.some.inj this).symm
  rcases (h.mem e0.1).1 (h2 e0 he0 ht) with ⟨_, b⟩ | ⟨p, hp, hpt⟩
  · exact absurd (hT.fst e0 he0) b
  · rw [hT.idx hpt]; exact hp
theorem merge_tied {n m : Nat} {es : List (Nat × Nat)} {T : List Nat} {L : List Int} {i c p t : Nat} {out : List Int} (hT : Tied n es T) (hm : m = T.length) (hL : ReachK (needE (renE T es)) m L) (h : MergeS n es T L i c out) (hp : L[c]? = some (p : Int)) (ht : T[p]? = some t) (hi : t < i ∨ i = n)
    (hnx : nextK (needE (renE T es)) m (L.take c) = some p) : MergeS n es T L i (c + 1) (out ++ [(t : Int)]) := by
  have hpc : canB (needE (renE T es)) (L.take c) p = true := (next_lt hnx).2
  obtain ⟨c1, c2⟩ := canB_iff.1 hpc
  have htn : t < n := hT.lt t (List.mem_of_getElem? ht)
  refine ⟨.step h.reach (next_of htn ?_ ?_), fun x => ?_⟩
  · refine canB_iff.2 ⟨fun hx => ?_, fun e he he2 => ?_⟩
    · rcases (h.mem t).1 hx with ⟨_, b⟩ | ⟨q, hq, hqt⟩
      · exact b (List.mem_of_getElem? ht)
      · obtain rfl : q = p := nodup_at hT.nd hqt ht
        exact c1 hq
    · subst he2
      have h1 := c2 _ (List.mem_map.2 ⟨e, he, rfl⟩) (hT.idx ht)
      exact (h.mem e.1).2 (.inr ⟨_, h1, idx_at (hT.fst e he)⟩)
  · intro k hk
    by_cases hkT : k ∈ T
    · have hk1 := idx_at hkT
      exact merge_not hT h hk1 (next_min hnx ((hT.lt_iff hk1 ht).2 hk))
    · rw [Bool.eq_false_iff]
      intro hx
      exact (canB_iff.1 hx).1 ((h.mem k).2 (.inl ⟨by omega, hkT⟩))
  · have h1 : L.take (c + 1) = L.take c ++ [(p : Int)] := by rw [List.take_add_one, hp]; rfl
    rw [List.mem_append, h.mem x, h1]
    constructor
    · rintro ((a | ⟨q, a, b⟩) | a)
      · exact .inl a
      · exact .inr ⟨q, by simp [a], b⟩
      · simp at a
        obtain rfl : x = t := by omega
        exact .inr ⟨p, by simp, ht⟩
    · rintro (a | ⟨q, a, b⟩)
      · exact .inl (.inl a)
      · rcases List.mem_append.1 a with a | a
        · exact .inl (.inr ⟨q, a, b⟩)
        · simp at a
          obtain rfl : q = p := by omega
          have : t = x := Option.some.inj (ht.symm.trans b)
          right; simp [this]
theorem merge_free {n m : Nat} {es : List (Nat × Nat)} {T : List Nat} {L : List Int} {i c : Nat} {out : List Int} (hT : Tied n es T) (hm : m = T.length) (h : MergeS n es T L i c out) (hi : i ∉ T) (hin : i < n)
    (hnx : nextK (needE (renE T es)) m (L.take c) = none ∨ ∃ p t : Nat, T[p]? = some t ∧ i < t ∧ nextK (needE (renE T es)) m (L.take c) = some p) : MergeS n es T L (i + 1) c (out ++ [(i : Int)]) := by
  refine ⟨.step h.reach (next_of hin ?_ ?_), fun x => ?_⟩
  · refine canB_iff.2 ⟨fun hx => ?_, fun e he he2 => ?_⟩
    · rcases (h.mem i).1 hx with ⟨a, _⟩ | ⟨q, _, hqt⟩
      · omega
      · exact hi (List.mem_of_getElem? hqt)
    · subst he2
      exact absurd (hT.snd e he) hi
  · intro k hk
    by_cases hkT : k ∈ T
    · have hk1 := idx_at hkT
      refine merge_not hT h hk1 ?_
      rcases hnx with hN | ⟨p, t, ht, hit, hN⟩
      · exact next_none hN (by rw [hm]; exact List.idxOf_lt_length_of_mem hkT)
      · exact next_min hN ((hT.lt_iff hk1 ht).2 (by omega))
    · rw [Bool.eq_false_iff]
      intro hx
      exact (canB_iff.1 hx).1 ((h.mem k).2 (.inl ⟨by omega, hkT⟩))
  · rw [List.mem_append, h.mem x]
    constructor
    · rintro ((⟨a, b⟩ | a) | a)
      · exact .inl ⟨by omega, b⟩
      · exact .inr a
      · simp at a
        obtain rfl : x = i := by omega
        exact .inl ⟨by omega, hi⟩
    · rintro (⟨a, b⟩ | a)
      · by_cases e : x = i
        · subst e; simp
        · exact .inl (.inl ⟨by omega, b⟩)
      · exact .inl (.inr a)
theorem line_next {need : Int → List Int} {m : Nat} {L : List Int} (h : ReachK need m L) : ∀ {c : Nat} {x : Int}, L[c]? = some x → ∃ p : Nat, p < m ∧ x = (p : Int) ∧ nextK need m (L.take c) = some p := by
  induction h with
  | nil => intro c x h; simp at h
  | @step told u h hu ih =>
    intro c x hx
    rcases Nat.lt_or_ge c told.length with hlt | hge
    · rw [List.getElem?_append_left hlt] at hx
      obtain ⟨p, a, b, e⟩ := ih hx
      exact ⟨p, a, b, by rw [List.take_append_of_le_length (by omega)]; exact e⟩
    · have hl := (List.getElem?_eq_some_iff.1 hx).1
      rw [List.length_append, List.length_singleton] at hl
      obtain rfl : c = told.length := by omega
      rw [List.getElem?_append_right (Nat.le_refl _), Nat.sub_self] at hx
      simp at hx
      exact ⟨u, (next_lt hu).1, hx.symm, by rw [List.take_left']; exact hu; rfl⟩
def SortR (n : Nat) (es : List (Nat × Nat)) (out : List Int) (ok : Bool) : Prop := (ok = true ∧ ReachK (needE es) n out ∧ out.length = n) ∨ (ok = false ∧ out = [] ∧ ∀ told, ReachK (needE es) n told → told.length ≠ n)
theorem SortR.unique {n : Nat} {es : List (Nat × Nat)} {a b : List Int} {x y : Bool} (h : SortR n es a x) (t : SortR n es b y) : a = b ∧ x = y := by
  rcases h with ⟨rfl, h1, h2⟩ | ⟨rfl, rfl, h⟩ <;> rcases t with ⟨rfl, t1, t2⟩ | ⟨rfl, rfl, t⟩
  · exact ⟨reach_end h1 t1 (reach_full h1 h2) (reach_full t1 t2), rfl⟩
  · exact absurd h2 (t a h1)
  · exact absurd t2 (h b t1)
  · exact ⟨rfl, rfl⟩
theorem merge_end {n m : Nat} {es : List (Nat × Nat)} {T : List Nat} {L out : List Int} (hT : Tied n es T) (hm : m = T.length) (hL : ReachK (needE (renE T es)) m L) (hl : L.length = m) (h : MergeS n es T L n L.length out) : SortR n es out true := by
  left
  obtain ⟨hnd, hlt⟩ := reach_tame h.reach
  refine ⟨rfl, h.reach, Nat.le_antisymm (reach_len h.reach) ?_⟩
  have hall : ∀ v : Nat, v < n → (v : Int) ∈ out := fun v hv => by
    by_cases hvT : v ∈ T
    · have h1 := idx_at hvT
      obtain ⟨hn2, hlt2⟩ := reach_tame hL
      refine (h.mem v).2 (.inr ⟨_, ?_, h1⟩)
      rw [List.take_length]
      exact full_mem hn2 hlt2 hl (by rw [hm]; exact List.idxOf_lt_length_of_mem hvT)
    · exact (h.mem v).2 (.inl ⟨hv, hvT⟩)
  have h2 : ((List.range n).map fun v : Nat => (v : Int)).Nodup := by
    rw [List.Nodup, List.pairwise_map]
    exact (List.nodup_range).imp fun hab e => hab (by omega)
  have h3 := nodup_sub h2 (fun x hx => by
    obtain ⟨v, hv, rfl⟩ := List.mem_map.1 hx
    exact hall v (List.mem_range.1 hv))
  simpa using h3
theorem sort_stuck {n m : Nat} {es : List (Nat × Nat)} {T : List Nat} {L : List Int} (hT : Tied n es T) (hm : m = T.length) (hL : ReachK (needE (renE T es)) m L) (hN : nextK (needE (renE T es)) m L = none) (hl : L.length ≠ m) : SortR n es [] false := by
  refine .inr ⟨rfl, rfl, fun told ht hn => ?_⟩
  obtain ⟨u, hu, hw⟩ := stuck_ring (fun e he => by
    obtain ⟨e0, he0, rfl⟩ := List.mem_map.1 he
    rw [hm]; exact List.idxOf_lt_length_of_mem (hT.fst e0 he0)) hL hN hl
  have hback : ∀ {a b : Nat}, Walk (fun a b => (a, b) ∈ renE T es) a b → ∃ x y, T[a]? = some x ∧ T[b]? = some y ∧ Walk (fun a b => (a, b) ∈ es) x y := by
    intro a b h
    induction h with
    | @one a b he =>
      obtain ⟨e0, he0, e⟩ := List.mem_map.1 he
      injection e with e1 e2
      subst e1; subst e2
      exact ⟨_, _, idx_at (hT.fst e0 he0), idx_at (hT.snd e0 he0), .one he0⟩
    | @more a b c he _ ih =>
      obtain ⟨e0, he0, e⟩ := List.mem_map.1 he
      injection e with e1 e2
      subst e1; subst e2
      obtain ⟨x, y, hx, hy, hw⟩ := ih
      rw [idx_at (hT.snd e0 he0)] at hx
      obtain rfl := Option.some.inj hx
      exact ⟨_, y, idx_at (hT.fst e0 he0), hy, .more he0 hw⟩
  obtain ⟨x, y, hx, hy, hw2⟩ := hback hw
  obtain rfl : x = y := Option.some.inj (hx.symm.trans hy)
  obtain ⟨hnd, hlt⟩ := reach_tame ht
  obtain ⟨i, j, hij, hi, hj⟩ := reach_noring ht hw2 (full_mem hnd hlt hn (hT.lt x (List.mem_of_getElem? hx)))
  have := nodupI_at hnd hi hj
  omega
end Go.Proofs.YtfpepoebammeoaaGreat
set_option linter.unusedVariables false
set_option linter.unusedSimpArgs false
namespace Go.Proofs.YtfpepoebammeoaaGreat

def outsE (es : List (Nat × Nat)) (v : Nat) : List Nat := (es.filter fun e => e.1 == v).map (·.2)
theorem outsE_snoc (es : List (Nat × Nat)) (e : Nat × Nat) (v : Nat) : outsE (es ++ [e]) v = outsE es v ++ if e.1 = v then [e.2] else [] := by
  unfold outsE
  rw [List.filter_append, List.map_append]
  congr 1
  by_cases h : e.1 = v
  · simp [h]
  · simp [h]
theorem mem_outsE {es : List (Nat × Nat)} {v x : Nat} : x ∈ outsE es v ↔ (v, x) ∈ es := by
  unfold outsE
  simp only [List.mem_map, List.mem_filter, beq_iff_eq]
  constructor
  · rintro ⟨e, ⟨h1, h2⟩, h3⟩
    have : e = (v, x) := Prod.ext h2 h3
    exact this ▸ h1
  · intro h
    exact ⟨(v, x), ⟨h, rfl⟩, rfl⟩
def degE (es : List (Nat × Nat)) (v : Nat) : Nat := (outsE es v).length
theorem degE_snoc (es : List (Nat × Nat)) (e : Nat × Nat) (v : Nat) : degE (es ++ [e]) v = degE es v + if e.1 = v then 1 else 0 := by
  unfold degE
  rw [outsE_snoc, List.length_append]
  split <;> rfl
def preE (es : List (Nat × Nat)) (v : Nat) : Nat := sumK (degE es) v
theorem preE_zero (es : List (Nat × Nat)) : preE es 0 = 0 := rfl
theorem preE_succ (es : List (Nat × Nat)) (v : Nat) : preE es (v + 1) = preE es v + degE es v := sumK_succ _ _
theorem preE_mono (es : List (Nat × Nat)) : ∀ {a b : Nat}, a ≤ b → preE es a ≤ preE es b
  | a, 0, h => by rw [Nat.le_zero.1 h]; exact Nat.le_refl _
  | a, b + 1, h => by
    rcases Nat.lt_or_ge a (b + 1) with h1 | h1
    · have := preE_mono es (a := a) (b := b) (by omega)
      rw [preE_succ]; omega
    · obtain rfl : a = b + 1 := by omega
      exact Nat.le_refl _
theorem preE_all {es : List (Nat × Nat)} {m : Nat} (h : ∀ e ∈ es, e.1 < m) : preE es m = es.length := by
  have key : ∀ (l : List (Nat × Nat)), (∀ e ∈ l, e.1 < m) → sumK (degE l) m = l.length := by
    intro l
    induction l with
    | nil =>
      intro _
      have : ∀ k, sumK (degE []) k = 0 := by
        intro k
        induction k with
        | zero => rfl
        | succ k ih => rw [sumK_succ, ih]; rfl
      simpa using this m
    | cons e l ih =>
      intro hl
      have h1 := ih (fun x hx => hl x (by simp [hx]))
      have hd : ∀ v, degE (e :: l) v = degE l v + if e.1 = v then 1 else 0 := by
        intro v
        unfold degE outsE
        by_cases hv : e.1 = v
        · simp [hv]
        · simp [hv]
      have hs : ∀ k, sumK (degE (e :: l)) k = sumK (degE l) k + if e.1 < k then 1 else 0 := by
        intro k
        induction k with
        | zero => rfl
        | succ k ih =>
          rw [sumK_succ, sumK_succ, ih, hd]
          by_cases h1 : e.1 < k
          · rw [if_pos h1, if_neg (by omega), if_pos (by omega)]; omega
          · by_cases h2 : e.1 = k
            · rw [if_neg h1, if_pos h2, if_pos (by omega)]; omega
            · rw [if_neg h1, if_neg h2, if_neg (by omega)]; omega
      rw [hs, h1, if_pos (hl e (by simp)), List.length_cons]
  exact key es h
theorem degE_take_le (es : List (Nat × Nat)) (j v : Nat) : degE (es.take j) v ≤ degE es v := by
  unfold degE outsE
  rw [List.length_map, List.length_map]
  exact ((List.take_sublist j es).filter _).length_le
theorem take_snoc {es : List (Nat × Nat)} {j : Nat} {e : Nat × Nat} (h : es[j]? = some e) : es.take (j + 1) = es.take j ++ [e] := by rw [List.take_add_one, h]; rfl
theorem degE_take_lt {es : List (Nat × Nat)} {j : Nat} {e : Nat × Nat} (h : es[j]? = some e) : degE (es.take j) e.1 < degE es e.1 := by
  have h1 := degE_take_le es (j + 1) e.1
  rw [take_snoc h, degE_snoc, if_pos rfl] at h1
  omega
structure HeadI (m : Nat) (es : List (Nat × Nat)) (j : Nat) (hs : List Nat) : Prop where
  len : hs.length = es.length
  lt : ∀ x ∈ hs, x < m
  at_ : ∀ v, v < m → ∀ (k : Nat) x, (outsE (es.take j) v)[k]? = some x → hs[preE es (v + 1) - 1 - k]? = some x
theorem head_zero {m : Nat} {es : List (Nat × Nat)} (h : ∀ e ∈ es, e.1 < m) : HeadI m es 0 (List.replicate es.length 0) := by
  refine ⟨by simp, fun x hx => ?_, fun v hv k x hk => by simp [outsE] at hk⟩
  obtain ⟨h1, rfl⟩ := List.mem_replicate.1 hx
  cases es with
  | nil => exact absurd rfl h1
  | cons e es => have := h e (by simp); omega
theorem head_pos {m : Nat} {es : List (Nat × Nat)} {j : Nat} {e : Nat × Nat} (h : ∀ e ∈ es, e.1 < m) (he : es[j]? = some e) : degE (es.take j) e.1 < preE es (e.1 + 1) ∧ preE es (e.1 + 1) - degE (es.take j) e.1 - 1 < es.length := by
  have h1 := degE_take_lt he
  have h2 := preE_succ es e.1
  have h3 := preE_all h
  have h4 := h e (List.mem_of_getElem? he)
  have h5 := preE_mono es (a := e.1 + 1) (b := m) (by omega)
  omega
theorem head_step {m : Nat} {es : List (Nat × Nat)} {j : Nat} {e : Nat × Nat} {hs : List Nat} (h : ∀ e ∈ es, e.1 < m ∧ e.2 < m) (he : es[j]? = some e) (hI : HeadI m es j hs) : HeadI m es (j + 1) (hs.set (preE es (e.1 + 1) - degE (es.take j) e.1 - 1) e.2) := by
  obtain ⟨hp1, hp2⟩ := head_pos (fun e he => (h e he).1) he
  have hlt := degE_take_lt he
  have hem := h e (List.mem_of_getElem? he)
  refine ⟨by rw [List.length_set]; exact hI.len, fun x hx => ?_, fun v hv k x hk => ?_⟩
  · rcases List.mem_or_eq_of_mem_set hx with hx | rfl
    · exact hI.lt x hx
    · exact hem.2
  · rw [take_snoc he, outsE_snoc] at hk
    have hsu := preE_succ es e.1
    by_cases hv1 : e.1 = v
    · subst hv1
      rw [if_pos rfl] at hk
      rcases Nat.lt_or_ge k (outsE (es.take j) e.1).length with hkl | hkl
      · rw [List.getElem?_append_left hkl] at hk
        have hkd : k < degE (es.take j) e.1 := hkl
        rw [List.getElem?_set_ne (by omega)]
        exact hI.at_ _ hv k x hk
      · rw [List.getElem?_append_right hkl] at hk
        have hl := (List.getElem?_eq_some_iff.1 hk).1
        simp at hl
        have hk0 : k = degE (es.take j) e.1 := by show k = (outsE (es.take j) e.1).length; omega
        rw [show k - (outsE (es.take j) e.1).length = 0 by omega] at hk
        simp at hk
        subst hk
        rw [hk0, show preE es (e.1 + 1) - 1 - degE (es.take j) e.1 = preE es (e.1 + 1) - degE (es.take j) e.1 - 1 by omega]
        exact List.getElem?_set_self (by rw [hI.len]; exact hp2)
    · rw [if_neg hv1, List.append_nil] at hk
      have hkl : k < degE (es.take j) v := (List.getElem?_eq_some_iff.1 hk).1
      have hd := degE_take_le es j v
      have hsv := preE_succ es v
      have hne : preE es (e.1 + 1) - degE (es.take j) e.1 - 1 ≠ preE es (v + 1) - 1 - k := by
        rcases Nat.lt_or_ge v e.1 with hlt2 | hge
        · have := preE_mono es (a := v + 1) (b := e.1) (by omega)
          omega
        · have := preE_mono es (a := e.1 + 1) (b := v) (by omega)
          omega
      rw [List.getElem?_set_ne hne]
      exact hI.at_ v hv k x hk
theorem head_all {m : Nat} {es : List (Nat × Nat)} {hs : List Nat} (h : ∀ e ∈ es, e.1 < m) (hI : HeadI m es es.length hs) {v : Nat} (hv : v < m) : (hs.drop (preE es v)).take (preE es (v + 1) - preE es v) = (outsE es v).reverse := by
  have hsu := preE_succ es v
  have hle := preE_mono es (a := v + 1) (b := m) (by omega)
  have hall := preE_all h
  have hd : preE es (v + 1) - preE es v = degE es v := by omega
  apply List.ext_getElem?
  intro i
  rw [hd]
  rcases Nat.lt_or_ge i (degE es v) with hi | hi
  · rw [List.getElem?_take_of_lt hi, List.getElem?_drop, List.getElem?_reverse hi]
    have hk : degE es v - 1 - i < (outsE es v).length := by show _ < degE es v; omega
    have hx := List.getElem?_eq_getElem hk
    have := hI.at_ v hv (degE es v - 1 - i) _ (by rw [List.take_length]; exact hx)
    rw [show preE es (v + 1) - 1 - (degE es v - 1 - i) = preE es v + i by omega] at this
    rw [this]
    exact hx.symm
  · rw [List.getElem?_eq_none (by rw [List.length_take]; omega), List.getElem?_eq_none (by rw [List.length_reverse]; exact hi)]
theorem head_flat {m : Nat} {es : List (Nat × Nat)} {hs : List Nat} (h : ∀ e ∈ es, e.1 < m) (hI : HeadI m es es.length hs) : ∀ v, v ≤ m → hs.take (preE es v) = (List.range v).flatMap fun u => (outsE es u).reverse
  | 0, _ => by rw [preE_zero]; rfl
  | v + 1, hv => by
    have ih := head_flat h hI v (by omega)
    have ha := head_all h hI (v := v) (by omega)
    have hsu := preE_succ es v
    rw [List.range_succ, List.flatMap_append, ← ih]
    simp only [List.flatMap_cons, List.flatMap_nil, List.append_nil]
    rw [← ha, ← List.take_add]
    congr 1
    omega
def needs2 (es : List (Nat × Nat)) (c : Nat) : Nat := (es.filter fun e => e.2 == c).length
theorem head_count {m : Nat} {es : List (Nat × Nat)} {hs : List Nat} (h : ∀ e ∈ es, e.1 < m) (hI : HeadI m es es.length hs) (c : Nat) : hs.count c = needs2 es c := by
  have hall := preE_all h
  have hf := head_flat h hI m (Nat.le_refl _)
  rw [hall, List.take_of_length_le (by rw [hI.len]; exact Nat.le_refl _)] at hf
  rw [hf]
  have hs : ∀ v, ((List.range v).flatMap fun u => (outsE es u).reverse).count c = (es.filter fun e => decide (e.1 < v) && (e.2 == c)).length := by
    intro v
    induction v with
    | zero =>
      have : (es.filter fun e => decide (e.1 < 0) && (e.2 == c)) = [] := List.filter_eq_nil_iff.2 (by simp)
      rw [this]
      rfl
    | succ v ih =>
      rw [List.range_succ, List.flatMap_append, List.count_append, ih]
      simp only [List.flatMap_cons, List.flatMap_nil, List.append_nil, List.count_reverse]
      have h1 : (outsE es v).count c = (es.filter fun e => (e.1 == v) && (e.2 == c)).length := by
        unfold outsE
        rw [List.count_eq_countP, List.countP_map, List.countP_filter, List.countP_eq_length_filter]
        congr 1
        exact List.filter_congr fun e _ => by simp [Bool.and_comm]
      rw [h1]
      clear ih h1 hf hI h hall
      induction es with
      | nil => rfl
      | cons e es ih2 =>
        simp only [List.filter_cons]
        by_cases hc : e.2 = c
        · rcases Nat.lt_trichotomy e.1 v with h3 | h3 | h3
          · have a1 : decide (e.1 < v) = true := decide_eq_true h3
            have a2 : decide (e.1 < v + 1) = true := decide_eq_true (by omega)
            have a3 : (e.1 == v) = false := by rw [beq_eq_false_iff_ne]; omega
            simp only [a1, a2, a3, hc, beq_self_eq_true, Bool.and_true, Bool.true_and, Bool.false_and, if_true, List.length_cons]
            simp only [Bool.false_eq_true, if_false]
            omega
          · have a1 : decide (e.1 < v) = false := decide_eq_false (by omega)
            have a2 : decide (e.1 < v + 1) = true := decide_eq_true (by omega)
            have a3 : (e.1 == v) = true := by rw [beq_iff_eq]; omega
            simp only [a1, a2, a3, hc, beq_self_eq_true, Bool.and_true, Bool.true_and, Bool.false_and, if_true, List.length_cons]
            simp only [Bool.false_eq_true, if_false]
            omega
          · have a1 : decide (e.1 < v) = false := decide_eq_false (by omega)
            have a2 : decide (e.1 < v + 1) = false := decide_eq_false (by omega)
            have a3 : (e.1 == v) = false := by rw [beq_eq_false_iff_ne]; omega
            simp only [a1, a2, a3, Bool.false_and, Bool.false_eq_true, if_false]
            omega
        · have a4 : (e.2 == c) = false := by rw [beq_eq_false_iff_ne]; exact hc
          simp only [a4, Bool.and_false, Bool.false_eq_true, if_false]
          omega
  rw [hs m]
  unfold needs2
  congr 1
  exact List.filter_congr fun e he => by rw [decide_eq_true (h e he)]; simp
end Go.Proofs.YtfpepoebammeoaaGreat
set_option linter.unusedVariables false
namespace Go.Proofs.YtfpepoebammeoaaGreat

abbrev EdR (es : List (Nat × Nat)) : Nat → Nat → Prop := fun a b => (a, b) ∈ es
theorem ren_edge {n : Nat} {es : List (Nat × Nat)} {T : List Nat} (hT : Tied n es T) {a b : Nat} (h : EdR (renE T es) a b) : ∃ x y, T[a]? = some x ∧ T[b]? = some y ∧ EdR es x y := by
  obtain ⟨e0, he0, e⟩ := List.mem_map.1 h
  injection e with e1 e2
  subst e1; subst e2
  exact ⟨_, _, idx_at (hT.fst e0 he0), idx_at (hT.snd e0 he0), he0⟩
theorem ren_back {n : Nat} {es : List (Nat × Nat)} {T : List Nat} (hT : Tied n es T) {a b : Nat} (h : Walk (EdR (renE T es)) a b) : ∃ x y, T[a]? = some x ∧ T[b]? = some y ∧ Walk (EdR es) x y := by
  induction h with
  | one he =>
    obtain ⟨x, y, hx, hy, h⟩ := ren_edge hT he
    exact ⟨x, y, hx, hy, .one h⟩
  | more he _ ih =>
    obtain ⟨x, y, hx, hy, h⟩ := ren_edge hT he
    obtain ⟨y', z, hy', hz, hw⟩ := ih
    obtain rfl : y = y' := Option.some.inj (hy.symm.trans hy')
    exact ⟨x, z, hx, hz, .more h hw⟩
theorem ren_forth {n : Nat} {es : List (Nat × Nat)} {T : List Nat} (hT : Tied n es T) {x y : Nat} (h : Walk (EdR es) x y) : Walk (EdR (renE T es)) (T.idxOf x) (T.idxOf y) ∧ x ∈ T ∧ y ∈ T := by
  induction h with
  | one he => exact ⟨.one (List.mem_map.2 ⟨_, he, rfl⟩), hT.fst _ he, hT.snd _ he⟩
  | more he _ ih => exact ⟨.more (List.mem_map.2 ⟨_, he, rfl⟩) ih.1, hT.fst _ he, ih.2.2⟩
theorem least_ren {n : Nat} {es : List (Nat × Nat)} {T : List Nat} (hT : Tied n es T) {p l x y : Nat} (hx : T[p]? = some x) (hy : T[l]? = some y) (h : LeastK (EdR (renE T es)) p l) : LeastK (EdR es) x y := by
  have hle := h.le
  have hyx : y ≤ x := by
    rcases Nat.lt_or_ge l p with h1 | h1
    · exact Nat.le_of_lt ((hT.lt_iff hy hx).1 h1)
    · obtain rfl : l = p := by omega
      have := Option.some.inj (hx.symm.trans hy)
      omega
  have back : ∀ {a b u v : Nat}, T[a]? = some u → T[b]? = some v → Back (EdR (renE T es)) a b → Back (EdR es) u v := by
    intro a b u v hu hv hb
    rcases hb with rfl | hb
    · exact .inl (Option.some.inj (hu.symm.trans hv))
    · obtain ⟨x', y', h1, h2, hw⟩ := ren_back hT hb
      obtain rfl := Option.some.inj (hu.symm.trans h1)
      obtain rfl := Option.some.inj (hv.symm.trans h2)
      exact .inr hw
  refine ⟨⟨back hx hy h.1.1, back hy hx h.1.2⟩, fun b hb => ?_⟩
  rcases hb.1 with rfl | hw
  · exact hyx
  · rcases hb.2 with rfl | hw2
    · exact hyx
    · obtain ⟨f1, _, hbT⟩ := ren_forth hT hw
      obtain ⟨f2, _, _⟩ := ren_forth hT hw2
      rw [hT.idx hx] at f1 f2
      have hbi := idx_at hbT
      have := h.2 _ ⟨.inr f1, .inr f2⟩
      rcases Nat.lt_or_ge l (T.idxOf b) with h1 | h1
      · exact Nat.le_of_lt ((hT.lt_iff hy hbi).1 h1)
      · have he : T.idxOf b = l := by omega
        rw [he] at hbi
        have := Option.some.inj (hbi.symm.trans hy)
        omega
theorem least_free {n : Nat} {es : List (Nat × Nat)} {T : List Nat} (hT : Tied n es T) {x : Nat} (hx : x ∉ T) : LeastK (EdR es) x x := by
  refine ⟨Knot.refl x, fun b hb => ?_⟩
  rcases hb.1 with rfl | hw
  · exact Nat.le_refl _
  · exact absurd (ren_forth hT hw).2.1 hx
def ansK (T : List Nat) (ls : Nat → Nat) (j x : Nat) : Nat := if x ∈ T.take j then T.getD (ls (T.idxOf x)) 0 else x
theorem ansK_zero (T : List Nat) (ls : Nat → Nat) (x : Nat) : ansK T ls 0 x = x := by simp [ansK]
theorem ansK_step {T : List Nat} {ls : Nat → Nat} {j t : Nat} (hn : T.Nodup) (ht : T[j]? = some t) (x : Nat) : ansK T ls (j + 1) x = if x = t then T.getD (ls j) 0 else ansK T ls j x := by
  unfold ansK
  rw [List.take_add_one, ht]
  by_cases e : x = t
  · subst e
    have : T.idxOf x = j := nodup_at hn (idx_at (List.mem_of_getElem? ht)) ht
    rw [if_pos (by simp), if_pos rfl, this]
  · rw [if_neg e]
    have : x ∈ T.take j ++ (some t).toList ↔ x ∈ T.take j := by simp [e]
    simp only [this]
theorem ansK_all {n : Nat} {es : List (Nat × Nat)} {T : List Nat} (hT : Tied n es T) {ls : Nat → Nat} (h : ∀ p, p < T.length → LeastK (EdR (renE T es)) p (ls p)) (x : Nat) : LeastK (EdR es) x (ansK T ls T.length x) := by
  unfold ansK
  rw [List.take_length]
  by_cases hx : x ∈ T
  · rw [if_pos hx]
    have hi := idx_at hx
    have hl := List.idxOf_lt_length_of_mem hx
    have hk := h _ hl
    have hle := hk.le
    have hy : T[ls (T.idxOf x)]? = some (T.getD (ls (T.idxOf x)) 0) := by
      rw [List.getD_eq_getElem?_getD, List.getElem?_eq_getElem (by omega)]
      rfl
    exact least_ren hT hi hy hk
  · rw [if_neg hx]
    exact least_free hT hx
end Go.Proofs.YtfpepoebammeoaaGreat
set_option linter.unusedVariables false
namespace Go.Proofs.YtfpepoebammeoaaGreat

def viaB (E : Nat → Nat → Bool) : Nat → Nat → Nat → Bool
  | 0, i, j => E i j
  | k + 1, i, j => viaB E k i j || (viaB E k i k && viaB E k k j)
theorem viaB_iff {E : Nat → Nat → Bool} {R : Nat → Nat → Prop} (h : ∀ a b, E a b = true ↔ R a b) : ∀ k i j, viaB E k i j = true ↔ Via R k i j
  | 0, i, j => h i j
  | k + 1, i, j => by
    unfold viaB Via
    rw [Bool.or_eq_true, Bool.and_eq_true, viaB_iff h k i j, viaB_iff h k i k, viaB_iff h k k j]
def edB (es : List (Nat × Nat)) (a b : Nat) : Bool := es.contains (a, b)
def ansL (ks : Nat → Nat) (n : Nat) : List Nat := (List.range n).map ks
theorem walk_mono {R S : Nat → Nat → Prop} (h : ∀ a b, R a b → S a b) {a b : Nat} (hw : Walk R a b) : Walk S a b := by
  induction hw with
  | one he => exact .one (h _ _ he)
  | more he _ ih => exact .more (h _ _ he) ih
theorem canB_same {es fs : List (Nat × Nat)} (h : ∀ e, e ∈ es ↔ e ∈ fs) (told : List Int) (u : Nat) : canB (needE es) told u = canB (needE fs) told u := by
  rw [Bool.eq_iff_iff, canB_iff, canB_iff]
  constructor
  · rintro ⟨a, b⟩; exact ⟨a, fun e he => b e ((h e).2 he)⟩
  · rintro ⟨a, b⟩; exact ⟨a, fun e he => b e ((h e).1 he)⟩
theorem next_same {es fs : List (Nat × Nat)} (h : ∀ e, e ∈ es ↔ e ∈ fs) (n : Nat) (told : List Int) : nextK (needE es) n told = nextK (needE fs) n told := by
  unfold nextK
  congr 1
  funext u
  exact canB_same h told u
theorem reach_same {es fs : List (Nat × Nat)} (h : ∀ e, e ∈ es ↔ e ∈ fs) {n : Nat} {told : List Int} (hr : ReachK (needE es) n told) : ReachK (needE fs) n told := by
  induction hr with
  | nil => exact .nil
  | step _ hu ih => exact .step ih (by rw [← next_same h]; exact hu)
end Go.Proofs.YtfpepoebammeoaaGreat
set_option linter.unusedVariables false
namespace Go.Proofs.YtfpepoebammeoaaGreat

abbrev EdN := List (Nat × Nat)
def thrE (f : Nat → Nat) (es : EdN) : EdN := (es.map fun e => (f e.1, f e.2)).filter fun e => e.1 != e.2
theorem mem_thrE {f : Nat → Nat} {es : EdN} {a b : Nat} : (a, b) ∈ thrE f es ↔ a ≠ b ∧ ∃ e ∈ es, f e.1 = a ∧ f e.2 = b := by
  unfold thrE
  rw [List.mem_filter, List.mem_map, bne_iff_ne]
  constructor
  · rintro ⟨⟨e, he, e1⟩, hn⟩
    injection e1 with e1 e2
    exact ⟨hn, e, he, e1, e2⟩
  · rintro ⟨hn, e, he, e1, e2⟩
    exact ⟨⟨e, he, by rw [e1, e2]⟩, hn⟩
theorem same_iff {R : Nat → Nat → Prop} {ls : Nat → Nat} {m : Nat} (h : ∀ x, x < m → LeastK R x (ls x)) {x y : Nat} (hx : x < m) (hy : y < m) : ls x = ls y ↔ Knot R x y := by
  constructor
  · intro e
    have h1 := (h x hx).1
    have h2 := (h y hy).1
    rw [← e] at h2
    exact h1.trans h2.symm
  · intro hk
    refine (h x hx).unique ⟨hk.trans (h y hy).1, fun b hb => (h y hy).2 b (hk.symm.trans hb)⟩
theorem walk_thr {ls : Nat → Nat} {m : Nat} {es : EdN} (hlt : ∀ e ∈ es, e.1 < m ∧ e.2 < m) (h : ∀ x, x < m → LeastK (EdR es) x (ls x)) {a b : Nat} (hw : Walk (EdR (thrE ls es)) a b) : ∃ x y, x < m ∧ y < m ∧ ls x = a ∧ ls y = b ∧ Walk (EdR es) x y := by
  induction hw with
  | one he =>
    obtain ⟨_, e, hm, rfl, rfl⟩ := mem_thrE.1 he
    exact ⟨e.1, e.2, (hlt e hm).1, (hlt e hm).2, rfl, rfl, .one hm⟩
  | more he _ ih =>
    obtain ⟨_, e, hm, rfl, e2⟩ := mem_thrE.1 he
    obtain ⟨x, y, hx, hy, e3, e4, hw⟩ := ih
    refine ⟨e.1, y, (hlt e hm).1, hy, rfl, e4, ?_⟩
    have hk := (same_iff h (hlt e hm).2 hx).1 (e2.trans e3.symm)
    rcases hk.1 with e5 | hb
    · rw [← e5] at hw; exact .more hm hw
    · exact .more hm (hb.trans hw)
theorem thr_noring {ls : Nat → Nat} {m : Nat} {es : EdN} (hlt : ∀ e ∈ es, e.1 < m ∧ e.2 < m) (h : ∀ x, x < m → LeastK (EdR es) x (ls x)) {u : Nat} (hw : Walk (EdR (thrE ls es)) u u) : False := by
  cases hw with
  | one he => exact (mem_thrE.1 he).1 rfl
  | more he t =>
    obtain ⟨hn, e, hm, e1, e2⟩ := mem_thrE.1 he
    obtain ⟨x, y, hx, hy, e3, e4, hw⟩ := walk_thr hlt h t
    have k1 := (same_iff h (hlt e hm).2 hx).1 (e2.trans e3.symm)
    have k2 := (same_iff h hy (hlt e hm).1).1 (e4.trans e1.symm)
    have hk : Knot (EdR es) e.1 e.2 := ⟨.inr (.one hm), k1.1.trans (Back.trans (.inr hw) k2.1)⟩
    have := (same_iff h (hlt e hm).1 (hlt e hm).2).2 hk
    exact hn (by rw [← e1, ← e2]; exact this)
theorem reach_top {need : Int → List Int} {n : Nat} : ∀ (d : Nat) {told : List Int}, ReachK need n told → n - told.length = d → ∃ t, ReachK need n t ∧ nextK need n t = none := by
  intro d
  induction d with
  | zero =>
    intro told h hd
    have := reach_len h
    exact ⟨told, h, reach_full h (by omega)⟩
  | succ d ih =>
    intro told h hd
    cases hn : nextK need n told with
    | none => exact ⟨told, h, hn⟩
    | some u => exact ih (.step h hn) (by simp; omega)
theorem sort_ok {es : EdN} {m : Nat} {out : List Int} {ok : Bool} (hr : ∀ e ∈ es, e.1 < m) (hn : ∀ u, ¬ Walk (EdR es) u u) (hs : SortR m es out ok) : ok = true := by
  rcases hs with ⟨h, _⟩ | ⟨_, _, h⟩
  · exact h
  · obtain ⟨t, ht, hN⟩ := reach_top (n := m) (need := needE es) _ .nil rfl
    obtain ⟨u, _, hw⟩ := stuck_ring hr ht hN (h t ht)
    exact absurd hw (hn u)

def repB (ls : Nat → Nat) (x : Int) : Bool := ls x.toNat == x.toNat
def cntR (ls : Nat → Nat) (out : List Int) (k : Nat) : Nat := (out.take k).countP (repB ls)
theorem cntR_zero (ls : Nat → Nat) (out : List Int) : cntR ls out 0 = 0 := by simp [cntR]
theorem cntR_succ {ls : Nat → Nat} {out : List Int} {k : Nat} {x : Int} (h : out[k]? = some x) : cntR ls out (k + 1) = cntR ls out k + if repB ls x then 1 else 0 := by
  unfold cntR
  rw [List.take_add_one, h, List.countP_append]
  simp [List.countP_cons]
theorem cntR_mono (ls : Nat → Nat) (out : List Int) {i j : Nat} (h : i ≤ j) : cntR ls out i ≤ cntR ls out j := by
  unfold cntR
  have : out.take i = (out.take j).take i := by rw [List.take_take, Nat.min_eq_left h]
  rw [this]
  exact (List.take_sublist _ _).countP_le
theorem cntR_le (ls : Nat → Nat) (out : List Int) (k : Nat) : cntR ls out k ≤ k := Nat.le_trans List.countP_le_length (by rw [List.length_take]; exact Nat.min_le_left _ _)
def atR (ls : Nat → Nat) (out : List Int) (k x : Nat) : Nat := if ls x = x ∧ (x : Int) ∈ out.take k then cntR ls out (out.idxOf (x : Int)) else 0
theorem atR_zero (ls : Nat → Nat) (out : List Int) (x : Nat) : atR ls out 0 x = 0 := by simp [atR]
theorem idxI_at {l : List Int} (hn : l.Nodup) {k : Nat} {x : Int} (h : l[k]? = some x) : l.idxOf x = k := by
  have hm := List.mem_of_getElem? h
  have h2 : l[l.idxOf x]? = some x := by
    rw [List.getElem?_eq_getElem (List.idxOf_lt_length_of_mem hm)]
    exact congrArg some (List.getElem_idxOf _)
  exact nodupI_at hn h2 h
theorem atR_skip {ls : Nat → Nat} {out : List Int} {k x : Nat} (h : out[k]? = some (x : Int)) (hr : ls x ≠ x) (y : Nat) : atR ls out (k + 1) y = atR ls out k y := by
  unfold atR
  rw [List.take_add_one, h]
  by_cases e : y = x
  · subst e
    rw [if_neg (fun c => hr c.1), if_neg (fun c => hr c.1)]
  · have : (y : Int) ∈ out.take k ++ (some (x : Int)).toList ↔ (y : Int) ∈ out.take k := by
      rw [List.mem_append]
      simp
      intro c
      omega
    simp only [this]
theorem atR_take {ls : Nat → Nat} {out : List Int} (hn : out.Nodup) {k x : Nat} (h : out[k]? = some (x : Int)) (hr : ls x = x) (y : Nat) : atR ls out (k + 1) y = if y = x then cntR ls out k else atR ls out k y := by
  unfold atR
  rw [List.take_add_one, h]
  by_cases e : y = x
  · subst e
    rw [if_pos rfl, if_pos ⟨hr, by simp⟩, idxI_at hn h]
  · rw [if_neg e]
    have : (y : Int) ∈ out.take k ++ (some (x : Int)).toList ↔ (y : Int) ∈ out.take k := by
      rw [List.mem_append]
      simp
      intro c
      omega
    simp only [this]

def lexL (a b : Nat × Nat) : Prop := a.1 < b.1 ∨ a.1 = b.1 ∧ a.2 < b.2
structure OrdS (n : Nat) (es : EdN) (T : List Nat) (pl : Nat → Nat) (W : EdN) : Prop where
  tied : Tied n es T
  same : ∀ i j x y, T[i]? = some x → T[j]? = some y → (pl i = pl j ↔ Knot (EdR es) x y)
  lt : ∀ i, i < T.length → pl i < T.length
  sorted : W.Pairwise lexL
  up : ∀ e ∈ W, e.1 < e.2
  way : ∀ p q, (p, q) ∈ W ↔ p ≠ q ∧ ∃ e ∈ es, pl (T.idxOf e.1) = p ∧ pl (T.idxOf e.2) = q
theorem ren_lt {n : Nat} {es : EdN} {T : List Nat} (hT : Tied n es T) : ∀ e ∈ renE T es, e.1 < T.length ∧ e.2 < T.length := by
  intro e he
  obtain ⟨e0, h0, rfl⟩ := List.mem_map.1 he
  exact ⟨List.idxOf_lt_length_of_mem (hT.fst e0 h0), List.idxOf_lt_length_of_mem (hT.snd e0 h0)⟩
theorem ren_knot {n : Nat} {es : EdN} {T : List Nat} (hT : Tied n es T) {i j x y : Nat} (hx : T[i]? = some x) (hy : T[j]? = some y) : Knot (EdR (renE T es)) i j ↔ Knot (EdR es) x y := by
  have ex := hT.idx hx
  have ey := hT.idx hy
  have back : ∀ {i j x y : Nat}, T[i]? = some x → T[j]? = some y → T.idxOf x = i → T.idxOf y = j → (Back (EdR (renE T es)) i j ↔ Back (EdR es) x y) := by
    intro i j x y hx hy ex ey
    constructor
    · rintro (e | h)
      · subst e
        rw [hx] at hy
        exact .inl (Option.some.inj hy)
      · obtain ⟨x', y', h1, h2, h3⟩ := ren_back hT h
        rw [hx] at h1; rw [hy] at h2
        obtain rfl := Option.some.inj h1
        obtain rfl := Option.some.inj h2
        exact .inr h3
    · rintro (e | h)
      · subst e
        exact .inl (ex.symm.trans ey)
      · have := (ren_forth hT h).1
        rw [ex, ey] at this
        exact .inr this
  exact and_congr (back hx hy ex ey) (back hy hx ey ex)
theorem out_at {es : EdN} {m : Nat} {out : List Int} (h : ReachK (needE es) m out) (hl : out.length = m) {v : Nat} (hv : v < m) : out[out.idxOf (v : Int)]? = some (v : Int) := by
  obtain ⟨h1, h2⟩ := reach_tame h
  have hm := full_mem h1 h2 hl hv
  rw [List.getElem?_eq_getElem (List.idxOf_lt_length_of_mem hm)]
  exact congrArg some (List.getElem_idxOf _)
theorem atR_rise {es : EdN} {ls : Nat → Nat} {m : Nat} {out : List Int} (h : ReachK (needE es) m out) (hl : out.length = m) {x y : Nat} (hx : x < m) (hy : y < m) (rx : ls x = x) (ry : ls y = y) (hlt : out.idxOf (x : Int) < out.idxOf (y : Int)) : atR ls out m x < atR ls out m y := by
  obtain ⟨h1, h2⟩ := reach_tame h
  have mx := full_mem h1 h2 hl hx
  have my := full_mem h1 h2 hl hy
  unfold atR
  rw [if_pos ⟨rx, by rw [← hl, List.take_length]; exact mx⟩, if_pos ⟨ry, by rw [← hl, List.take_length]; exact my⟩]
  have hs := cntR_succ (ls := ls) (out_at h hl hx)
  have hr : repB ls (x : Int) = true := by unfold repB; rw [Int.toNat_natCast, rx]; simp
  rw [hr] at hs
  have := cntR_mono ls out (show out.idxOf (x : Int) + 1 ≤ out.idxOf (y : Int) by omega)
  simp at hs
  omega
theorem atR_inj {es : EdN} {ls : Nat → Nat} {m : Nat} {out : List Int} (h : ReachK (needE es) m out) (hl : out.length = m) {x y : Nat} (hx : x < m) (hy : y < m) (rx : ls x = x) (ry : ls y = y) (e : atR ls out m x = atR ls out m y) : x = y := by
  rcases Nat.lt_trichotomy (out.idxOf (x : Int)) (out.idxOf (y : Int)) with hlt | heq | hlt
  · have := atR_rise h hl hx hy rx ry hlt; omega
  · have h1 := out_at h hl hx
    have h2 := out_at h hl hy
    rw [heq, h2] at h1
    have := Option.some.inj h1
    omega
  · have := atR_rise h hl hy hx ry rx hlt; omega
theorem ord_made {n : Nat} {es : EdN} {T : List Nat} (hT : Tied n es T) {ls : Nat → Nat} (hls : ∀ x, x < T.length → LeastK (EdR (renE T es)) x (ls x)) {out : List Int} {ok : Bool} (hs : SortR T.length (thrE ls (renE T es)) out ok) {W : EdN}
    (hW : W.Pairwise lexL) (hm : ∀ e, e ∈ W ↔ e ∈ thrE (atR ls out T.length) (thrE ls (renE T es))) : OrdS n es T (fun i => atR ls out T.length (ls i)) W := by
  have hlt := ren_lt hT
  have hok := sort_ok (fun e he => by
    obtain ⟨a, b⟩ := e
    obtain ⟨_, e0, h0, e1, _⟩ := mem_thrE.1 he
    have h1 := hlt e0 h0
    have := (hls e0.1 h1.1).le
    omega) (fun u hw => thr_noring hlt hls hw) hs
  subst hok
  obtain ⟨hr, hl⟩ : ReachK (needE (thrE ls (renE T es))) T.length out ∧ out.length = T.length := by
    rcases hs with ⟨_, hr, hl⟩ | ⟨h, _⟩
    · exact ⟨hr, hl⟩
    · cases h
  have hle : ∀ x, x < T.length → ls x < T.length := fun x hx => Nat.lt_of_le_of_lt (hls x hx).le hx
  have hid : ∀ x, x < T.length → ls (ls x) = ls x := fun x hx => (same_iff hls (hle x hx) hx).2 (hls x hx).1.symm
  have hinj : ∀ x y, x < T.length → y < T.length → (atR ls out T.length (ls x) = atR ls out T.length (ls y) ↔ ls x = ls y) := fun x y hx hy => ⟨fun e => atR_inj hr hl (hle x hx) (hle y hy) (hid x hx) (hid y hy) e, fun e => by rw [e]⟩
  refine ⟨hT, fun i j x y hi hj => ?_, fun i hi => ?_, hW, fun e he => ?_, fun p q => ?_⟩
  · have hil := (List.getElem?_eq_some_iff.1 hi).1
    have hjl := (List.getElem?_eq_some_iff.1 hj).1
    show atR ls out T.length (ls i) = atR ls out T.length (ls j) ↔ _
    rw [hinj i j hil hjl, same_iff hls hil hjl]
    exact ren_knot hT hi hj
  · show atR ls out T.length (ls i) < T.length
    unfold atR
    split
    · have h1 : out.idxOf ((ls i : Nat) : Int) < out.length := by
        obtain ⟨h1, h2⟩ := reach_tame hr
        exact List.idxOf_lt_length_of_mem (full_mem h1 h2 hl (hle i hi))
      have := cntR_le ls out (out.idxOf ((ls i : Nat) : Int))
      omega
    · omega
  · obtain ⟨p, q⟩ := e
    obtain ⟨hn, ⟨a, b⟩, h1, rfl, rfl⟩ := mem_thrE.1 ((hm _).1 he)
    obtain ⟨hab, e0, h0, rfl, rfl⟩ := mem_thrE.1 h1
    have hl0 := hlt e0 h0
    refine atR_rise hr hl (hle _ hl0.1) (hle _ hl0.2) (hid _ hl0.1) (hid _ hl0.2) ?_
    obtain ⟨j, hj, hjd⟩ := reach_beh hr _ _ (out_at hr hl (hle _ hl0.2)) ((ls e0.1 : Nat) : Int) (mem_needE.2 ⟨_, h1, rfl, rfl⟩)
    have := idxI_at (reach_tame hr).1 hjd
    show out.idxOf ((ls e0.1 : Nat) : Int) < out.idxOf ((ls e0.2 : Nat) : Int)
    omega
  · rw [hm, mem_thrE]
    refine and_congr_right fun hpq => ?_
    constructor
    · rintro ⟨⟨a, b⟩, h1, rfl, rfl⟩
      obtain ⟨hab, e0, h0, rfl, rfl⟩ := mem_thrE.1 h1
      obtain ⟨e1, he1, rfl⟩ := List.mem_map.1 h0
      exact ⟨e1, he1, rfl, rfl⟩
    · rintro ⟨e1, he1, rfl, rfl⟩
      refine ⟨(ls (T.idxOf e1.1), ls (T.idxOf e1.2)), mem_thrE.2 ⟨fun e => hpq (by show atR ls out T.length (ls (T.idxOf e1.1)) = _; rw [e]), (T.idxOf e1.1, T.idxOf e1.2), List.mem_map.2 ⟨e1, he1, rfl⟩, rfl, rfl⟩, rfl, rfl⟩

def AheadK (R : Nat → Nat → Prop) (a b : Nat) : Prop := Walk R a b ∧ ¬ Walk R b a
theorem walk_up {W : EdN} (h : ∀ e ∈ W, e.1 < e.2) {a b : Nat} (hw : Walk (EdR W) a b) : a < b := by
  induction hw with
  | one he => exact h _ he
  | more he _ ih => exact Nat.lt_trans (h _ he) ih
section
variable {n : Nat} {es : EdN} {T : List Nat} {pl : Nat → Nat} {W : EdN}
theorem OrdS.forth (h : OrdS n es T pl W) {x y : Nat} (hw : Walk (EdR es) x y) : x ∈ T ∧ y ∈ T ∧ (pl (T.idxOf x) = pl (T.idxOf y) ∨ Walk (EdR W) (pl (T.idxOf x)) (pl (T.idxOf y))) := by
  have edge : ∀ {a b : Nat}, EdR es a b → a ∈ T ∧ b ∈ T ∧ (pl (T.idxOf a) = pl (T.idxOf b) ∨ EdR W (pl (T.idxOf a)) (pl (T.idxOf b))) := fun {a b} he => by
    refine ⟨h.tied.fst _ he, h.tied.snd _ he, ?_⟩
    by_cases e : pl (T.idxOf a) = pl (T.idxOf b)
    · exact .inl e
    · exact .inr ((h.way _ _).2 ⟨e, _, he, rfl, rfl⟩)
  induction hw with
  | one he =>
    obtain ⟨h1, h2, h3⟩ := edge he
    exact ⟨h1, h2, h3.imp id .one⟩
  | more he _ ih =>
    obtain ⟨h1, h2, h3⟩ := edge he
    obtain ⟨_, i2, i3⟩ := ih
    refine ⟨h1, i2, ?_⟩
    rcases h3 with h3 | h3
    · rw [h3]; exact i3
    · rcases i3 with i3 | i3
      · rw [← i3]; exact .inr (.one h3)
      · exact .inr (.more h3 i3)
theorem OrdS.knot (h : OrdS n es T pl W) {x y : Nat} (hx : x ∈ T) (hy : y ∈ T) : pl (T.idxOf x) = pl (T.idxOf y) ↔ Knot (EdR es) x y := h.same _ _ _ _ (idx_at hx) (idx_at hy)
theorem OrdS.back (h : OrdS n es T pl W) {p q : Nat} (hw : Walk (EdR W) p q) : ∀ {x y : Nat}, x ∈ T → y ∈ T → pl (T.idxOf x) = p → pl (T.idxOf y) = q → Walk (EdR es) x y := by
  have edge : ∀ {p q : Nat}, EdR W p q → ∃ a b, EdR es a b ∧ pl (T.idxOf a) = p ∧ pl (T.idxOf b) = q := fun {p q} he => by
    obtain ⟨_, e, hm, h1, h2⟩ := (h.way _ _).1 he
    exact ⟨e.1, e.2, hm, h1, h2⟩
  induction hw with
  | one he =>
    intro x y hx hy e1 e2
    obtain ⟨a, b, hab, h1, h2⟩ := edge he
    have k1 := (h.knot hx (h.tied.fst _ hab)).1 (e1.trans h1.symm)
    have k2 := (h.knot (h.tied.snd _ hab) hy).1 (h2.trans e2.symm)
    have hw := (Walk.one hab).back k2.1
    rcases k1.1 with e | hb
    · rw [e]; exact hw
    · exact hb.trans hw
  | more he _ ih =>
    intro x y hx hy e1 e2
    obtain ⟨a, b, hab, h1, h2⟩ := edge he
    have k1 := (h.knot hx (h.tied.fst _ hab)).1 (e1.trans h1.symm)
    have hw := Walk.more hab (ih (h.tied.snd _ hab) hy h2 e2)
    rcases k1.1 with e | hb
    · rw [e]; exact hw
    · exact hb.trans hw
theorem OrdS.ahead (h : OrdS n es T pl W) {x y : Nat} : AheadK (EdR es) x y ↔ x ∈ T ∧ y ∈ T ∧ Walk (EdR W) (pl (T.idxOf x)) (pl (T.idxOf y)) := by
  constructor
  · rintro ⟨h1, h2⟩
    obtain ⟨hx, hy, h3⟩ := h.forth h1
    refine ⟨hx, hy, h3.resolve_left fun e => ?_⟩
    rcases ((h.knot hx hy).1 e).2 with e | hb
    · subst e; exact h2 h1
    · exact h2 hb
  · rintro ⟨hx, hy, hw⟩
    refine ⟨h.back hw hx hy rfl rfl, fun hb => ?_⟩
    have hu := walk_up h.up hw
    rcases (h.forth hb).2.2 with e | hb
    · omega
    · have := walk_up h.up hb; omega
end
theorem walk_last {L : EdN} {e : Nat × Nat} (h1 : ∀ f ∈ L, f.1 ≤ e.1) (h2 : e.1 < e.2) {a p : Nat} : Walk (EdR (L ++ [e])) a p ↔ Walk (EdR L) a p ∨ (p = e.2 ∧ (a = e.1 ∨ Walk (EdR L) a e.1)) := by
  have up : ∀ {x y : Nat}, EdR L x y → EdR (L ++ [e]) x y := fun h => List.mem_append.2 (.inl h)
  have none : ∀ {y : Nat}, ¬ Walk (EdR L) e.2 y := fun {y} h => by
    cases h with
    | one he => have := h1 _ he; simp only at this; omega
    | more he _ => have := h1 _ he; simp only at this; omega
  constructor
  · intro h
    induction h with
    | @one a b he =>
      rcases List.mem_append.1 he with he | he
      · exact .inl (.one he)
      · have := List.mem_singleton.1 he
        subst this
        exact .inr ⟨rfl, .inl rfl⟩
    | @more a b c he _ ih =>
      rcases List.mem_append.1 he with he | he
      · rcases ih with ih | ⟨rfl, rfl | ih⟩
        · exact .inl (.more he ih)
        · exact .inr ⟨rfl, .inr (.one he)⟩
        · exact .inr ⟨rfl, .inr (.more he ih)⟩
      · have := List.mem_singleton.1 he
        subst this
        rcases ih with ih | ⟨_, ih | ih⟩
        · exact absurd ih none
        · simp only at ih h2; omega
        · exact absurd ih none
  · rintro (h | ⟨rfl, rfl | h⟩)
    · exact walk_mono (fun a b h => up h) h
    · exact .one (List.mem_append.2 (.inr (List.mem_singleton.2 rfl)))
    · exact (walk_mono (fun a b h => up h) h).trans (.one (List.mem_append.2 (.inr (List.mem_singleton.2 rfl))))
def betw (W : EdN) (lo hi : Nat) : EdN := W.filter fun e => decide (lo ≤ e.1) && decide (e.1 < hi)
theorem walk_betw {W : EdN} (h : ∀ e ∈ W, e.1 < e.2) {lo hi a b : Nat} (hl : lo ≤ a) (hh : b ≤ hi) : Walk (EdR (betw W lo hi)) a b ↔ Walk (EdR W) a b := by
  constructor
  · exact walk_mono fun a b h => (List.mem_filter.1 h).1
  · intro hw
    induction hw with
    | one he => exact .one (List.mem_filter.2 ⟨he, by have := h _ he; simp only at this; simp; omega⟩)
    | more he t ih =>
      have h1 := h _ he
      have h2 := walk_up h t
      simp only at h1
      exact .more (List.mem_filter.2 ⟨he, by simp; omega⟩) (ih (by omega) hh)
end Go.Proofs.YtfpepoebammeoaaGreat
set_option linter.unusedVariables false
namespace Go.Proofs.YtfpepoebammeoaaGreat

theorem nodup_subN {α : Type} [DecidableEq α] : ∀ {a b : List α}, a.Nodup → (∀ x ∈ a, x ∈ b) → a.length ≤ b.length
  | [], _, _, _ => Nat.zero_le _
  | x :: a, b, hn, hs => by
    obtain ⟨h1, h2⟩ := List.nodup_cons.1 hn
    have hx := hs x List.mem_cons_self
    have := nodup_subN (a := a) (b := b.erase x) h2 fun y hy => (List.mem_erase_of_ne (fun e => h1 (by rw [e] at hy; exact hy))).2 (hs y (List.mem_cons_of_mem _ hy))
    rw [List.length_erase_of_mem hx] at this
    have hp := List.length_pos_of_mem hx
    simp only [List.length_cons]
    omega
theorem lex_nodup {W : EdN} (h : W.Pairwise lexL) : W.Nodup := h.imp fun {a b} hab e => by subst e; unfold lexL at hab; omega
theorem OrdS.wlen {n : Nat} {es : EdN} {T : List Nat} {pl : Nat → Nat} {W : EdN} (h : OrdS n es T pl W) : W.length ≤ es.length := by
  have := nodup_subN (lex_nodup h.sorted) (b := es.map fun e => (pl (T.idxOf e.1), pl (T.idxOf e.2))) fun x hx => by
    obtain ⟨p, q⟩ := x
    obtain ⟨_, e, he, h1, h2⟩ := (h.way p q).1 hx
    exact List.mem_map.2 ⟨e, he, by rw [h1, h2]⟩
  simpa using this
def hasB (n t : Int) : Bool := decide (0 ≤ t) && decide (t < n)
theorem hasB_iff {n t : Int} : hasB n t = true ↔ 0 ≤ t ∧ t < n := by simp [hasB]
noncomputable def ahB (n : Int) (es : EdN) (a b : Int) : Bool := open Classical in hasB n a && hasB n b && decide (AheadK (EdR es) a.toNat b.toNat)
noncomputable def cpB (n : Int) (es : EdN) (a b : Int) : Bool := open Classical in hasB n a && hasB n b && decide (Knot (EdR es) a.toNat b.toNat ∨ AheadK (EdR es) a.toNat b.toNat ∨ AheadK (EdR es) b.toNat a.toNat)
theorem ahB_iff {n : Int} {es : EdN} {a b : Int} : ahB n es a b = true ↔ 0 ≤ a ∧ a < n ∧ 0 ≤ b ∧ b < n ∧ AheadK (EdR es) a.toNat b.toNat := by
  classical
  unfold ahB
  rw [Bool.and_eq_true, Bool.and_eq_true, hasB_iff, hasB_iff, decide_eq_true_iff]
  constructor
  · rintro ⟨⟨⟨a, b⟩, c, d⟩, e⟩; exact ⟨a, b, c, d, e⟩
  · rintro ⟨a, b, c, d, e⟩; exact ⟨⟨⟨a, b⟩, c, d⟩, e⟩
theorem cpB_iff {n : Int} {es : EdN} {a b : Int} : cpB n es a b = true ↔ 0 ≤ a ∧ a < n ∧ 0 ≤ b ∧ b < n ∧ (Knot (EdR es) a.toNat b.toNat ∨ AheadK (EdR es) a.toNat b.toNat ∨ AheadK (EdR es) b.toNat a.toNat) := by
  classical
  unfold cpB
  rw [Bool.and_eq_true, Bool.and_eq_true, hasB_iff, hasB_iff, decide_eq_true_iff]
  constructor
  · rintro ⟨⟨⟨a, b⟩, c, d⟩, e⟩; exact ⟨a, b, c, d, e⟩
  · rintro ⟨a, b, c, d, e⟩; exact ⟨⟨⟨a, b⟩, c, d⟩, e⟩
theorem ah_out {n : Int} {es : EdN} {a b : Int} (h : hasB n a = false ∨ hasB n b = false) : ahB n es a b = false := by
  unfold ahB
  rcases h with h | h <;> simp [h]
theorem cp_out {n : Int} {es : EdN} {a b : Int} (h : hasB n a = false ∨ hasB n b = false) : cpB n es a b = false := by
  unfold cpB
  rcases h with h | h <;> simp [h]
theorem ahead_trans {R : Nat → Nat → Prop} {a b c : Nat} (h : AheadK R a b) (t : AheadK R b c) : AheadK R a c := ⟨h.1.trans t.1, fun hb => t.2 (hb.trans h.1)⟩
noncomputable def metF (B : EdN) (lo j x : Nat) : Bool := open Classical in decide (x = 0 ∨ Walk (EdR (B.take j)) lo (lo + x))
theorem metF_iff {B : EdN} {lo j x : Nat} : metF B lo j x = true ↔ x = 0 ∨ Walk (EdR (B.take j)) lo (lo + x) := by
  classical
  unfold metF
  rw [decide_eq_true_iff]
theorem metF_first (B : EdN) (lo x : Nat) : metF B lo 0 x = (x == 0) := by
  rw [Bool.eq_iff_iff, metF_iff, beq_iff_eq, List.take_zero]
  constructor
  · rintro (h | h)
    · exact h
    · cases h with
      | one he => cases he
      | more he _ => cases he
  · exact .inl
theorem metF_step {B : EdN} {lo j : Nat} {e : Nat × Nat} (hs : B.Pairwise lexL) (hu : ∀ e ∈ B, e.1 < e.2) (h : B[j]? = some e) (hlo : lo ≤ e.1) (x : Nat) : metF B lo (j + 1) x = if lo + x = e.2 ∧ metF B lo j (e.1 - lo) = true then true else metF B lo j x := by
  have hl : ∀ f ∈ B.take j, f.1 ≤ e.1 := fun f hf => by
    obtain ⟨t, ht, rfl⟩ := List.mem_take_iff_getElem.1 hf
    have hj := (List.getElem?_eq_some_iff.1 h).1
    have := List.pairwise_iff_getElem.1 hs t j (by omega) hj (by omega)
    rw [(List.getElem?_eq_some_iff.1 h).2] at this
    unfold lexL at this
    omega
  have he := hu e (List.mem_of_getElem? h)
  have e1 : lo + (e.1 - lo) = e.1 := by omega
  have key : metF B lo (j + 1) x = true ↔ metF B lo j x = true ∨ (lo + x = e.2 ∧ metF B lo j (e.1 - lo) = true) := by
    rw [metF_iff, metF_iff, metF_iff, e1, List.take_add_one, h]
    show x = 0 ∨ Walk (EdR (B.take j ++ [e])) lo (lo + x) ↔ _
    rw [walk_last hl he]
    constructor
    · rintro (h | h | ⟨h1, h2 | h2⟩)
      · exact .inl (.inl h)
      · exact .inl (.inr h)
      · exact .inr ⟨h1, .inl (by omega)⟩
      · exact .inr ⟨h1, .inr h2⟩
    · rintro ((h | h) | ⟨h1, h2 | h2⟩)
      · exact .inl h
      · exact .inr (.inl h)
      · exact .inr (.inr ⟨h1, .inl (by omega)⟩)
      · exact .inr (.inr ⟨h1, .inr h2⟩)
  by_cases c : lo + x = e.2 ∧ metF B lo j (e.1 - lo) = true
  · rw [if_pos c]; exact key.2 (.inr c)
  · rw [if_neg c, Bool.eq_iff_iff, key]
    exact ⟨fun h => h.resolve_right c, .inl⟩
end Go.Proofs.YtfpepoebammeoaaGreat
set_option linter.unusedVariables false
namespace Go.Proofs.YtfpepoebammeoaaGreat

def Tm (E : Nat → Nat → Bool) (k i j a b : Nat) : Bool := if a < i ∨ a = i ∧ b < j then viaB E (k + 1) a b else viaB E k a b
theorem via_row (E : Nat → Nat → Bool) (k j : Nat) : viaB E (k + 1) k j = viaB E k k j := by
  show (viaB E k k j || (viaB E k k k && viaB E k k j)) = _
  cases viaB E k k j <;> simp
theorem tm_at (E : Nat → Nat → Bool) (k i j : Nat) : Tm E k i j i j = viaB E k i j := by
  unfold Tm
  rw [if_neg (by omega)]
theorem tm_k (E : Nat → Nat → Bool) (k i j b : Nat) : Tm E k i j k b = viaB E k k b := by
  unfold Tm
  split
  · exact via_row E k b
  · rfl
theorem tm_i (E : Nat → Nat → Bool) (k i b : Nat) : Tm E k i 0 i b = viaB E k i b := by
  unfold Tm
  rw [if_neg (by omega)]
theorem tm_first (E : Nat → Nat → Bool) (k a b : Nat) : Tm E k 0 0 a b = viaB E k a b := by
  unfold Tm
  rw [if_neg (by omega)]
theorem tm_skip {E : Nat → Nat → Bool} {k i : Nat} (h : viaB E k i k = false) (a b : Nat) : Tm E k (i + 1) 0 a b = Tm E k i 0 a b := by
  unfold Tm
  by_cases h1 : a < i
  · rw [if_pos (by omega), if_pos (by omega)]
  · by_cases h2 : a = i
    · subst h2
      rw [if_pos (by omega), if_neg (by omega)]
      show (viaB E k a b || (viaB E k a k && viaB E k k b)) = _
      rw [h]; simp
    · rw [if_neg (by omega), if_neg (by omega)]
theorem tm_step {E : Nat → Nat → Bool} {k i j : Nat} (h : viaB E k i k = true) {x : Bool} (hx : x = (viaB E k i j || viaB E k k j)) (a b : Nat) : Tm E k i (j + 1) a b = if a = i ∧ b = j then x else Tm E k i j a b := by
  unfold Tm
  by_cases h1 : a = i ∧ b = j
  · obtain ⟨rfl, rfl⟩ := h1
    rw [if_pos (by omega), if_pos ⟨rfl, rfl⟩, hx]
    show (viaB E k a b || (viaB E k a k && viaB E k k b)) = _
    rw [h]; simp
  · rw [if_neg h1]
    by_cases h2 : a < i ∨ a = i ∧ b < j
    · rw [if_pos (by omega), if_pos h2]
    · rw [if_neg (by omega), if_neg h2]
theorem tm_row {E : Nat → Nat → Bool} {k i n a b : Nat} (hb : b < n) : Tm E k (i + 1) 0 a b = Tm E k i n a b := by
  unfold Tm
  by_cases h1 : a < i ∨ a = i ∧ b < n
  · rw [if_pos h1, if_pos (by omega)]
  · rw [if_neg h1, if_neg (by omega)]
theorem tm_end {E : Nat → Nat → Bool} {k n a b : Nat} (ha : a < n) : viaB E (k + 1) a b = Tm E k n 0 a b := by
  unfold Tm
  rw [if_pos (by omega)]
theorem ed_snoc (es : List (Nat × Nat)) (x y a b : Nat) : edB (es ++ [(x, y)]) a b = if a = x ∧ b = y then true else edB es a b := by
  unfold edB
  by_cases h : a = x ∧ b = y
  · obtain ⟨rfl, rfl⟩ := h
    simp
  · rw [if_neg h]
    have h2 : ¬ (a, b) = (x, y) := fun e => by
      injection e with e1 e2
      exact h ⟨e1, e2⟩
    rw [Bool.eq_iff_iff, List.contains_iff_mem, List.contains_iff_mem, List.mem_append, List.mem_singleton]
    exact ⟨fun t => t.resolve_right h2, .inl⟩
end Go.Proofs.YtfpepoebammeoaaGreat
