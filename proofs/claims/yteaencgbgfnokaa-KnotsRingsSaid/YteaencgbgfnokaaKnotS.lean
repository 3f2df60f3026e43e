/- Mathematics: the order of things, told by those that edges tie, and the others put among them. -/
import Derived.Test.YteaencgbgfnokaaKnotN
import Derived.Test.YteaencgbgfnokaaKahn3
set_option linter.unusedVariables false
namespace Go.Proofs.Yteaencgbgfnokaa

/-- What u needs: the first things of the edges to it. -/
def needE (es : List (Nat × Nat)) (u : Int) : List Int := (es.filter fun e => (e.2 : Int) == u).map fun e => (e.1 : Int)
theorem mem_needE {es : List (Nat × Nat)} {u : Nat} {d : Int} : d ∈ needE es (u : Int) ↔ ∃ e ∈ es, e.2 = u ∧ d = (e.1 : Int) := by
  simp only [needE, List.mem_map, List.mem_filter, beq_iff_eq, Int.natCast_inj]
  constructor
  · rintro ⟨e, ⟨a, b⟩, c⟩; exact ⟨e, a, b, c.symm⟩
  · rintro ⟨e, a, b, c⟩; exact ⟨e, ⟨a, b⟩, c.symm⟩
theorem canB_iff {es : List (Nat × Nat)} {told : List Int} {u : Nat} : canB (needE es) told u = true ↔ (u : Int) ∉ told ∧ ∀ e ∈ es, e.2 = u → (e.1 : Int) ∈ told := by
  unfold canB waitK
  simp only [Bool.and_eq_true, Bool.not_eq_true', beq_iff_eq, List.countP_eq_zero]
  constructor
  · rintro ⟨a, b⟩
    refine ⟨by simpa using a, fun e he h2 => ?_⟩
    have := b _ (mem_needE.2 ⟨e, he, h2, rfl⟩)
    simpa using this
  · rintro ⟨a, b⟩
    refine ⟨by simpa using a, fun d hd => ?_⟩
    obtain ⟨e, he, h2, rfl⟩ := mem_needE.1 hd
    simpa using b e he h2
theorem next_of {es : List (Nat × Nat)} {n u : Nat} {told : List Int} (hu : u < n) (hc : canB (needE es) told u = true) (hl : ∀ k, k < u → canB (needE es) told k = false) : nextK (needE es) n told = some u := find_range hu hc hl
theorem next_min {need : Int → List Int} {n u : Nat} {told : List Int} (h : nextK need n told = some u) {k : Nat} (hk : k < u) : canB need told k = false := by
  unfold nextK at h
  rw [List.find?_eq_some_iff_append] at h
  obtain ⟨hc, as, bs, he, hn⟩ := h
  have hun := (next_lt (need := need) (n := n) (told := told) (u := u) (by unfold nextK; rw [List.find?_eq_some_iff_append]; exact ⟨hc, as, bs, he, hn⟩)).1
  have hlen : as.length = u := by
    have h1 : (List.range n)[as.length]? = some u := by rw [he]; simp
    rw [List.getElem?_range (by have := congrArg List.length he; simp at this; omega)] at h1
    exact Option.some.inj h1
  have hk2 : k ∈ as := by
    have h1 : (List.range n)[k]? = some k := List.getElem?_range (by omega)
    rw [he, List.getElem?_append_left (by omega)] at h1
    exact List.mem_of_getElem? h1
  simpa using hn k hk2
theorem next_none {need : Int → List Int} {n : Nat} {told : List Int} (h : nextK need n told = none) {k : Nat} (hk : k < n) : canB need told k = false := by
  unfold nextK at h
  rw [List.find?_eq_none] at h
  simpa using h k (List.mem_range.2 hk)
/-- Each of them stands behind what it needs. -/
theorem reach_beh {need : Int → List Int} {n : Nat} {told : List Int} (h : ReachK need n told) : ∀ (k : Nat) x, told[k]? = some x → ∀ d ∈ need x, ∃ j : Nat, j < k ∧ told[j]? = some d := by
  induction h with
  | nil => intro k x hk; simp at hk
  | @step told u h hu ih =>
    intro k x hk d hd
    rcases Nat.lt_or_ge k told.length with hlt | hge
    · rw [List.getElem?_append_left hlt] at hk
      obtain ⟨j, hj, he⟩ := ih k x hk d hd
      exact ⟨j, hj, by rw [List.getElem?_append_left (by omega)]; exact he⟩
    · have hkl := (List.getElem?_eq_some_iff.1 hk).1
      rw [List.length_append, List.length_singleton] at hkl
      obtain rfl : k = told.length := by omega
      rw [List.getElem?_append_right (Nat.le_refl _), Nat.sub_self] at hk
      simp at hk
      subst hk
      have hc := (next_lt hu).2
      unfold canB waitK at hc
      simp only [Bool.and_eq_true, beq_iff_eq, List.countP_eq_zero] at hc
      have := hc.2 d hd
      simp at this
      obtain ⟨j, hj⟩ := List.getElem?_of_mem this
      exact ⟨j, (List.getElem?_eq_some_iff.1 hj).1, by rw [List.getElem?_append_left (List.getElem?_eq_some_iff.1 hj).1]; exact hj⟩
theorem nodupI_at {l : List Int} (h : l.Nodup) {i j : Nat} {v : Int} (hi : l[i]? = some v) (hj : l[j]? = some v) : i = j := (List.getElem?_inj (List.getElem?_eq_some_iff.1 hi).1 h).1 (hi.trans hj.symm)
/-- Where all are told no edges go round. -/
theorem reach_noring {es : List (Nat × Nat)} {n : Nat} {told : List Int} (h : ReachK (needE es) n told) {a b : Nat} (hw : Walk (fun a b => (a, b) ∈ es) a b) (hb : (b : Int) ∈ told) : ∃ i j : Nat, i < j ∧ told[i]? = some (a : Int) ∧ told[j]? = some (b : Int) := by
  induction hw with
  | @one a b he =>
    obtain ⟨j, hj⟩ := List.getElem?_of_mem hb
    obtain ⟨i, hi, e⟩ := reach_beh h j _ hj (a : Int) (mem_needE.2 ⟨_, he, rfl, rfl⟩)
    exact ⟨i, j, hi, e, hj⟩
  | @more a b c he _ ih =>
    obtain ⟨i, j, hij, hi, hj⟩ := ih hb
    obtain ⟨k, hk, e⟩ := reach_beh h i _ hi (a : Int) (mem_needE.2 ⟨_, he, rfl, rfl⟩)
    exact ⟨k, j, by omega, e, hj⟩
theorem full_mem {l : List Int} {n : Nat} (hn : l.Nodup) (h : ∀ x ∈ l, ∃ u : Nat, u < n ∧ x = (u : Int)) (hl : l.length = n) {v : Nat} (hv : v < n) : (v : Int) ∈ l := by
  refine Classical.byContradiction fun hx => ?_
  have h1 : (l ++ [(v : Int)]).Nodup := by
    rw [List.nodup_append]
    exact ⟨hn, by simp, fun a ha b hb e => hx (by simp at hb; rw [← hb, ← e]; exact ha)⟩
  have := nodup_len h1 (n := n) (fun x hx => by
    rcases List.mem_append.1 hx with hx | hx
    · exact h x hx
    · simp at hx; exact ⟨v, hv, hx⟩)
  simp at this
  omega
theorem nodup_sub : ∀ {a b : List Int}, a.Nodup → (∀ x ∈ a, x ∈ b) → a.length ≤ b.length
  | [], _, _, _ => by simp
  | x :: a, b, hn, h => by
    rw [List.nodup_cons] at hn
    have h1 := nodup_sub (a := a) (b := b.erase x) hn.2 (fun y hy => (List.mem_erase_of_ne (fun e => hn.1 (by rw [← e]; exact hy))).2 (h y (by simp [hy])))
    have h2 := List.length_erase_of_mem (h x (by simp))
    have h3 := List.length_pos_of_mem (h x (by simp))
    rw [List.length_cons]
    omega
/-- There is a ring where not all can be told. -/
theorem stuck_ring {es : List (Nat × Nat)} {n : Nat} {told : List Int} (hr : ∀ e ∈ es, e.1 < n) (h : ReachK (needE es) n told) (hN : nextK (needE es) n told = none) (hl : told.length ≠ n) : ∃ u, u < n ∧ Walk (fun a b => (a, b) ∈ es) u u := by
  obtain ⟨hnd, hlt⟩ := reach_tame h
  have hle := reach_len h
  have hex : ∃ v, v < n ∧ (v : Int) ∉ told := by
    refine Classical.byContradiction fun hx => ?_
    have h1 : ∀ v : Nat, v < n → (v : Int) ∈ told := fun v hv => Classical.byContradiction fun hy => hx ⟨v, hv, hy⟩
    have h2 : ((List.range n).map fun v : Nat => (v : Int)).Nodup := by
      rw [List.Nodup, List.pairwise_map]
      exact (List.nodup_range).imp fun hab e => hab (by omega)
    have h3 := nodup_sub h2 (fun x hx => by
      obtain ⟨v, hv, rfl⟩ := List.mem_map.1 hx
      exact h1 v (List.mem_range.1 hv))
    simp at h3
    omega
  obtain ⟨v, hv, hvt⟩ := hex
  obtain ⟨u, hu, hw⟩ := ring_of (E := fun a b => (a, b) ∈ es) (P := fun v => v < n ∧ (v : Int) ∉ told) (n := n) (fun v h => h.1) (fun v hv => by
    have hc := next_none hN hv.1
    refine Classical.byContradiction fun hx => ?_
    have : canB (needE es) told v = true := canB_iff.2 ⟨hv.2, fun e he h2 => Classical.byContradiction fun hy => hx ⟨e.1, ⟨hr e he, hy⟩, by subst h2; exact he⟩⟩
    rw [hc] at this
    cases this) ⟨hv, hvt⟩
  exact ⟨u, hu.1, hw⟩

/-- The things that edges tie: rising; each end of an edge is one of them. -/
structure Tied (n : Nat) (es : List (Nat × Nat)) (T : List Nat) : Prop where
  asc : T.Pairwise (· < ·)
  lt : ∀ t ∈ T, t < n
  fst : ∀ e ∈ es, e.1 ∈ T
  snd : ∀ e ∈ es, e.2 ∈ T
def renE (T : List Nat) (es : List (Nat × Nat)) : List (Nat × Nat) := es.map fun e => (T.idxOf e.1, T.idxOf e.2)
theorem Tied.nd {n : Nat} {es : List (Nat × Nat)} {T : List Nat} (h : Tied n es T) : T.Nodup := h.asc.imp fun hab e => by omega
theorem idx_at {T : List Nat} {t : Nat} (h : t ∈ T) : T[T.idxOf t]? = some t := by
  have := List.idxOf_lt_length_of_mem h
  rw [List.getElem?_eq_getElem this]
  simp
theorem Tied.idx {n : Nat} {es : List (Nat × Nat)} {T : List Nat} (h : Tied n es T) {p t : Nat} (hp : T[p]? = some t) : T.idxOf t = p := nodup_at h.nd (idx_at (List.mem_of_getElem? hp)) hp
theorem Tied.lt_iff {n : Nat} {es : List (Nat × Nat)} {T : List Nat} (h : Tied n es T) {p q a b : Nat} (hp : T[p]? = some a) (hq : T[q]? = some b) : p < q ↔ a < b := by
  have hpl := (List.getElem?_eq_some_iff.1 hp)
  have hql := (List.getElem?_eq_some_iff.1 hq)
  obtain ⟨h1, rfl⟩ := hpl
  obtain ⟨h2, rfl⟩ := hql
  have := List.pairwise_iff_getElem.1 h.asc
  constructor
  · intro hlt; exact this p q h1 h2 hlt
  · intro hlt
    rcases Nat.lt_trichotomy p q with h3 | h3 | h3
    · exact h3
    · subst h3; omega
    · have := this q p h2 h1 h3; omega
/-- Told: the lesser things that nothing ties, and those of the line's first places. -/
def MergeI (T : List Nat) (L : List Int) (i c : Nat) (out : List Int) : Prop := ∀ x : Nat, (x : Int) ∈ out ↔ (x < i ∧ x ∉ T) ∨ ∃ p : Nat, (p : Int) ∈ L.take c ∧ T[p]? = some x
structure MergeS (n : Nat) (es : List (Nat × Nat)) (T : List Nat) (L : List Int) (i c : Nat) (out : List Int) : Prop where
  reach : ReachK (needE es) n out
  mem : MergeI T L i c out
theorem merge_begin (n : Nat) (es : List (Nat × Nat)) (T : List Nat) (L : List Int) : MergeS n es T L 0 0 [] := ⟨.nil, fun x => by simp⟩
theorem merge_skip {n : Nat} {es : List (Nat × Nat)} {T : List Nat} {L : List Int} {i c : Nat} {out : List Int} (h : MergeS n es T L i c out) (hi : i ∈ T) : MergeS n es T L (i + 1) c out := ⟨h.reach, fun x => by
  rw [h.mem x]
  constructor
  · rintro (⟨a, b⟩ | a)
    · exact .inl ⟨by omega, b⟩
    · exact .inr a
  · rintro (⟨a, b⟩ | a)
    · refine .inl ⟨?_, b⟩
      rcases Nat.lt_or_ge x i with h | h
      · exact h
      · obtain rfl : x = i := by omega
        exact absurd hi b
    · exact .inr a⟩
/-- What a place of the line may not yet, its thing may not yet. -/
theorem merge_not {n : Nat} {es : List (Nat × Nat)} {T : List Nat} {L : List Int} {i c : Nat} {out : List Int} (hT : Tied n es T) (h : MergeS n es T L i c out) {k t : Nat} (hk : T[k]? = some t) (hc : canB (needE (renE T es)) (L.take c) k = false) : canB (needE es) out t = false := by
  rw [Bool.eq_false_iff]
  intro hx
  rw [Bool.eq_false_iff] at hc
  apply hc
  obtain ⟨h1, h2⟩ := canB_iff.1 hx
  refine canB_iff.2 ⟨fun hm => h1 ((h.mem t).2 (.inr ⟨k, hm, hk⟩)), fun e he he2 => ?_⟩
  obtain ⟨e0, he0, rfl⟩ := List.mem_map.1 he
  simp only at he2 ⊢
  have ht : e0.2 = t := by
    have := idx_at (hT.snd e0 he0)
    rw [he2, hk] at this
    exact (Option.some.inj this).symm
  rcases (h.mem e0.1).1 (h2 e0 he0 ht) with ⟨_, b⟩ | ⟨p, hp, hpt⟩
  · exact absurd (hT.fst e0 he0) b
  · rw [hT.idx hpt]; exact hp
theorem merge_tied {n m : Nat} {es : List (Nat × Nat)} {T : List Nat} {L : List Int} {i c p t : Nat} {out : List Int} (hT : Tied n es T) (hm : m = T.length) (hL : ReachK (needE (renE T es)) m L) (h : MergeS n es T L i c out) (hp : L[c]? = some (p : Int)) (ht : T[p]? = some t) (hi : t < i ∨ i = n)
    (hnx : nextK (needE (renE T es)) m (L.take c) = some p) : MergeS n es T L i (c + 1) (out ++ [(t : Int)]) := by
  have hpc : canB (needE (renE T es)) (L.take c) p = true := (next_lt hnx).2
  obtain ⟨c1, c2⟩ := canB_iff.1 hpc
  have htn : t < n := hT.lt t (List.mem_of_getElem? ht)
  refine ⟨.step h.reach (next_of htn ?_ ?_), fun x => ?_⟩
  · refine canB_iff.2 ⟨fun hx => ?_, fun e he he2 => ?_⟩
    · rcases (h.mem t).1 hx with ⟨_, b⟩ | ⟨q, hq, hqt⟩
      · exact b (List.mem_of_getElem? ht)
      · obtain rfl : q = p := nodup_at hT.nd hqt ht
        exact c1 hq
    · subst he2
      have h1 := c2 _ (List.mem_map.2 ⟨e, he, rfl⟩) (hT.idx ht)
      exact (h.mem e.1).2 (.inr ⟨_, h1, idx_at (hT.fst e he)⟩)
  · intro k hk
    by_cases hkT : k ∈ T
    · have hk1 := idx_at hkT
      exact merge_not hT h hk1 (next_min hnx ((hT.lt_iff hk1 ht).2 hk))
    · rw [Bool.eq_false_iff]
      intro hx
      exact (canB_iff.1 hx).1 ((h.mem k).2 (.inl ⟨by omega, hkT⟩))
  · have h1 : L.take (c + 1) = L.take c ++ [(p : Int)] := by rw [List.take_add_one, hp]; rfl
    rw [List.mem_append, h.mem x, h1]
    constructor
    · rintro ((a | ⟨q, a, b⟩) | a)
      · exact .inl a
      · exact .inr ⟨q, by simp [a], b⟩
      · simp at a
        obtain rfl : x = t := by omega
        exact .inr ⟨p, by simp, ht⟩
    · rintro (a | ⟨q, a, b⟩)
      · exact .inl (.inl a)
      · rcases List.mem_append.1 a with a | a
        · exact .inl (.inr ⟨q, a, b⟩)
        · simp at a
          obtain rfl : q = p := by omega
          have : t = x := Option.some.inj (ht.symm.trans b)
          right; simp [this]
theorem merge_free {n m : Nat} {es : List (Nat × Nat)} {T : List Nat} {L : List Int} {i c : Nat} {out : List Int} (hT : Tied n es T) (hm : m = T.length) (h : MergeS n es T L i c out) (hi : i ∉ T) (hin : i < n)
    (hnx : nextK (needE (renE T es)) m (L.take c) = none ∨ ∃ p t : Nat, T[p]? = some t ∧ i < t ∧ nextK (needE (renE T es)) m (L.take c) = some p) : MergeS n es T L (i + 1) c (out ++ [(i : Int)]) := by
  refine ⟨.step h.reach (next_of hin ?_ ?_), fun x => ?_⟩
  · refine canB_iff.2 ⟨fun hx => ?_, fun e he he2 => ?_⟩
    · rcases (h.mem i).1 hx with ⟨a, _⟩ | ⟨q, _, hqt⟩
      · omega
      · exact hi (List.mem_of_getElem? hqt)
    · subst he2
      exact absurd (hT.snd e he) hi
  · intro k hk
    by_cases hkT : k ∈ T
    · have hk1 := idx_at hkT
      refine merge_not hT h hk1 ?_
      rcases hnx with hN | ⟨p, t, ht, hit, hN⟩
      · exact next_none hN (by rw [hm]; exact List.idxOf_lt_length_of_mem hkT)
      · exact next_min hN ((hT.lt_iff hk1 ht).2 (by omega))
    · rw [Bool.eq_false_iff]
      intro hx
      exact (canB_iff.1 hx).1 ((h.mem k).2 (.inl ⟨by omega, hkT⟩))
  · rw [List.mem_append, h.mem x]
    constructor
    · rintro ((⟨a, b⟩ | a) | a)
      · exact .inl ⟨by omega, b⟩
      · exact .inr a
      · simp at a
        obtain rfl : x = i := by omega
        exact .inl ⟨by omega, hi⟩
    · rintro (⟨a, b⟩ | a)
      · by_cases e : x = i
        · subst e; simp
        · exact .inl (.inl ⟨by omega, b⟩)
      · exact .inl (.inr a)
/-- The line's next place. -/
theorem line_next {need : Int → List Int} {m : Nat} {L : List Int} (h : ReachK need m L) : ∀ {c : Nat} {x : Int}, L[c]? = some x → ∃ p : Nat, p < m ∧ x = (p : Int) ∧ nextK need m (L.take c) = some p := by
  induction h with
  | nil => intro c x h; simp at h
  | @step told u h hu ih =>
    intro c x hx
    rcases Nat.lt_or_ge c told.length with hlt | hge
    · rw [List.getElem?_append_left hlt] at hx
      obtain ⟨p, a, b, e⟩ := ih hx
      exact ⟨p, a, b, by rw [List.take_append_of_le_length (by omega)]; exact e⟩
    · have hl := (List.getElem?_eq_some_iff.1 hx).1
      rw [List.length_append, List.length_singleton] at hl
      obtain rfl : c = told.length := by omega
      rw [List.getElem?_append_right (Nat.le_refl _), Nat.sub_self] at hx
      simp at hx
      exact ⟨u, (next_lt hu).1, hx.symm, by rw [List.take_left']; exact hu; rfl⟩
/-- What Sort answers: all, each in its turn; or nothing, where not all can be told. -/
def SortR (n : Nat) (es : List (Nat × Nat)) (out : List Int) (ok : Bool) : Prop := (ok = true ∧ ReachK (needE es) n out ∧ out.length = n) ∨ (ok = false ∧ out = [] ∧ ∀ told, ReachK (needE es) n told → told.length ≠ n)
theorem SortR.unique {n : Nat} {es : List (Nat × Nat)} {a b : List Int} {x y : Bool} (h : SortR n es a x) (t : SortR n es b y) : a = b ∧ x = y := by
  rcases h with ⟨rfl, h1, h2⟩ | ⟨rfl, rfl, h⟩ <;> rcases t with ⟨rfl, t1, t2⟩ | ⟨rfl, rfl, t⟩
  · exact ⟨reach_end h1 t1 (reach_full h1 h2) (reach_full t1 t2), rfl⟩
  · exact absurd h2 (t a h1)
  · exact absurd t2 (h b t1)
  · exact ⟨rfl, rfl⟩
theorem merge_end {n m : Nat} {es : List (Nat × Nat)} {T : List Nat} {L out : List Int} (hT : Tied n es T) (hm : m = T.length) (hL : ReachK (needE (renE T es)) m L) (hl : L.length = m) (h : MergeS n es T L n L.length out) : SortR n es out true := by
  left
  obtain ⟨hnd, hlt⟩ := reach_tame h.reach
  refine ⟨rfl, h.reach, Nat.le_antisymm (reach_len h.reach) ?_⟩
  have hall : ∀ v : Nat, v < n → (v : Int) ∈ out := fun v hv => by
    by_cases hvT : v ∈ T
    · have h1 := idx_at hvT
      obtain ⟨hn2, hlt2⟩ := reach_tame hL
      refine (h.mem v).2 (.inr ⟨_, ?_, h1⟩)
      rw [List.take_length]
      exact full_mem hn2 hlt2 hl (by rw [hm]; exact List.idxOf_lt_length_of_mem hvT)
    · exact (h.mem v).2 (.inl ⟨hv, hvT⟩)
  have h2 : ((List.range n).map fun v : Nat => (v : Int)).Nodup := by
    rw [List.Nodup, List.pairwise_map]
    exact (List.nodup_range).imp fun hab e => hab (by omega)
  have h3 := nodup_sub h2 (fun x hx => by
    obtain ⟨v, hv, rfl⟩ := List.mem_map.1 hx
    exact hall v (List.mem_range.1 hv))
  simpa using h3
theorem sort_stuck {n m : Nat} {es : List (Nat × Nat)} {T : List Nat} {L : List Int} (hT : Tied n es T) (hm : m = T.length) (hL : ReachK (needE (renE T es)) m L) (hN : nextK (needE (renE T es)) m L = none) (hl : L.length ≠ m) : SortR n es [] false := by
  refine .inr ⟨rfl, rfl, fun told ht hn => ?_⟩
  obtain ⟨u, hu, hw⟩ := stuck_ring (fun e he => by
    obtain ⟨e0, he0, rfl⟩ := List.mem_map.1 he
    rw [hm]; exact List.idxOf_lt_length_of_mem (hT.fst e0 he0)) hL hN hl
  have hback : ∀ {a b : Nat}, Walk (fun a b => (a, b) ∈ renE T es) a b → ∃ x y, T[a]? = some x ∧ T[b]? = some y ∧ Walk (fun a b => (a, b) ∈ es) x y := by
    intro a b h
    induction h with
    | @one a b he =>
      obtain ⟨e0, he0, e⟩ := List.mem_map.1 he
      injection e with e1 e2
      subst e1; subst e2
      exact ⟨_, _, idx_at (hT.fst e0 he0), idx_at (hT.snd e0 he0), .one he0⟩
    | @more a b c he _ ih =>
      obtain ⟨e0, he0, e⟩ := List.mem_map.1 he
      injection e with e1 e2
      subst e1; subst e2
      obtain ⟨x, y, hx, hy, hw⟩ := ih
      rw [idx_at (hT.snd e0 he0)] at hx
      obtain rfl := Option.some.inj hx
      exact ⟨_, y, idx_at (hT.fst e0 he0), hy, .more he0 hw⟩
  obtain ⟨x, y, hx, hy, hw2⟩ := hback hw
  obtain rfl : x = y := Option.some.inj (hx.symm.trans hy)
  obtain ⟨hnd, hlt⟩ := reach_tame ht
  obtain ⟨i, j, hij, hi, hj⟩ := reach_noring ht hw2 (full_mem hnd hlt hn (hT.lt x (List.mem_of_getElem? hx)))
  have := nodupI_at hnd hi hj
  omega
end Go.Proofs.Yteaencgbgfnokaa
