/- Mathematics of a board of an order: the line of its things; how far one comes from a number, back and on; what is single. Mathematics of a board of an order: what is single in a line, and the runs. Mathematics of reaches: the two sweeps. Mathematics: how many ways; what is ahead of what, and comparable, as an answer. Mathematics of what is asked for: of each knot the first thing; the board that is laid. -/
import Derived.Test.YtfpepoebammeoaaGreatV3
set_option linter.unusedVariables false
namespace Go.Proofs.YtfpepoebammeoaaGreat

noncomputable def pairA (R : Nat → Nat → Prop) (m : Nat) : EdN := open Classical in (List.range m).flatMap fun i => ((List.range m).filter fun j => decide (R i j)).map fun j => (i, j)
theorem mem_pairA {R : Nat → Nat → Prop} {m i j : Nat} : (i, j) ∈ pairA R m ↔ i < m ∧ j < m ∧ R i j := by
  classical
  unfold pairA
  rw [List.mem_flatMap]
  constructor
  · rintro ⟨a, ha, h⟩
    obtain ⟨b, hb, e⟩ := List.mem_map.1 h
    injection e with e1 e2
    subst e1; subst e2
    obtain ⟨h1, h2⟩ := List.mem_filter.1 hb
    exact ⟨List.mem_range.1 ha, List.mem_range.1 h1, of_decide_eq_true h2⟩
  · rintro ⟨h1, h2, h3⟩
    exact ⟨i, List.mem_range.2 h1, List.mem_map.2 ⟨j, List.mem_filter.2 ⟨List.mem_range.2 h2, decide_eq_true h3⟩, rfl⟩⟩
structure BoardS (R : Nat → Nat → Prop) (m D : Nat) (rk : Nat → Nat) (E : EdN) : Prop where
  lt : ∀ e ∈ E, e.1 < D + m ∧ e.2 < D + m
  up : ∀ e ∈ E, rk e.1 < rk e.2
  sorted : E.Pairwise fun e f => rk e.1 ≤ rk f.1
  walk : ∀ i j, i < m → j < m → (Walk (EdR E) (D + i) (D + j) ↔ R i j)
theorem rk_walk {rk : Nat → Nat} {E : EdN} (h : ∀ e ∈ E, rk e.1 < rk e.2) {a b : Nat} (hw : Walk (EdR E) a b) : rk a < rk b := by
  induction hw with
  | one he => exact h _ he
  | more he _ ih => exact Nat.lt_trans (h _ he) ih
theorem first_open {rk : Nat → Nat} {E : EdN} (h : ∀ e ∈ E, rk e.1 < rk e.2) {told : List Int} {x : Nat} (hx : (x : Int) ∉ told) : ∃ v, (v = x ∨ Walk (EdR E) v x) ∧ (v : Int) ∉ told ∧ ∀ e ∈ E, e.2 = v → (e.1 : Int) ∈ told := by
  have key : ∀ (d v : Nat), rk v ≤ d → (v = x ∨ Walk (EdR E) v x) → (v : Int) ∉ told → ∃ v, (v = x ∨ Walk (EdR E) v x) ∧ (v : Int) ∉ told ∧ ∀ e ∈ E, e.2 = v → (e.1 : Int) ∈ told := by
    intro d
    induction d with
    | zero =>
      intro v hd hv hn
      refine ⟨v, hv, hn, fun e he e2 => ?_⟩
      have := h e he
      rw [e2] at this; omega
    | succ d ih =>
      intro v hd hv hn
      by_cases hp : ∀ e ∈ E, e.2 = v → (e.1 : Int) ∈ told
      · exact ⟨v, hv, hn, hp⟩
      · have : ∃ e ∈ E, e.2 = v ∧ (e.1 : Int) ∉ told := by
          refine Classical.byContradiction fun c => hp fun e he e2 => Classical.byContradiction fun c2 => c ⟨e, he, e2, c2⟩
        obtain ⟨e, he, e2, hn2⟩ := this
        have hlt := h e he
        rw [e2] at hlt
        refine ih e.1 (by omega) (.inr ?_) hn2
        have hone : EdR E e.1 v := by rw [← e2]; exact he
        rcases hv with hv | hv
        · rw [← hv]; exact .one hone
        · exact .more hone hv
  exact key _ x (Nat.le_refl _) (.inl rfl) hx
section
variable {R : Nat → Nat → Prop} {m D : Nat} {rk : Nat → Nat} {E : EdN}
theorem BoardS.told (h : BoardS R m D rk E) {told : List Int} (hr : ReachK (needE E) (D + m) told) : ∃ L : List Int, told.filter (fun x => decide ((D : Int) ≤ x)) = L.map (fun x => (D : Int) + x) ∧ ReachK (needE (pairA R m)) m L := by
  induction hr with
  | nil => exact ⟨[], rfl, .nil⟩
  | @step told u h1 hu ih =>
    obtain ⟨L, e, hL⟩ := ih
    have hmem : ∀ i : Nat, (i : Int) ∈ L ↔ ((D + i : Nat) : Int) ∈ told := by
      intro i
      have : ((D + i : Nat) : Int) ∈ told ↔ ((D + i : Nat) : Int) ∈ told.filter (fun x => decide ((D : Int) ≤ x)) := by
        rw [List.mem_filter]
        exact ⟨fun c => ⟨c, decide_eq_true (by omega)⟩, fun c => c.1⟩
      rw [this, e, List.mem_map]
      constructor
      · exact fun c => ⟨_, c, by omega⟩
      · rintro ⟨a, ha, e2⟩
        rw [show (i : Int) = a by omega]; exact ha
    by_cases hd : u < D
    · refine ⟨L, ?_, hL⟩
      rw [List.filter_append, e, List.filter_cons_of_neg (by simp; omega)]
      simp
    · obtain ⟨i, rfl⟩ : ∃ i, u = D + i := ⟨u - D, by omega⟩
      obtain ⟨hlt, hcan⟩ := next_lt hu
      obtain ⟨hfresh, hneed⟩ := canB_iff.1 hcan
      have him : i < m := by omega
      refine ⟨L ++ [(i : Int)], ?_, .step hL (next_of him ?_ fun k hk => ?_)⟩
      · have hp : decide ((D : Int) ≤ ((D + i : Nat) : Int)) = true := decide_eq_true (by omega)
        rw [List.filter_append, e, List.filter_cons_of_pos (p := fun x : Int => decide ((D : Int) ≤ x)) hp]
        simp
      · refine canB_iff.2 ⟨fun c => hfresh ((hmem i).1 c), fun p hp e2 => ?_⟩
        obtain ⟨a, b⟩ := p
        simp only at e2
        subst e2
        obtain ⟨ha, _, hR⟩ := mem_pairA.1 hp
        have hw := (h.walk a b ha him).2 hR
        obtain ⟨j, k, hjk, hj, hk⟩ := reach_noring (.step h1 hu) hw (by simp)
        refine (hmem a).2 ?_
        have hjm := List.mem_of_getElem? hj
        rcases List.mem_append.1 hjm with c | c
        · exact c
        · have := List.mem_singleton.1 c
          have hr := rk_walk h.up hw
          rw [show D + a = D + b by omega] at hr
          omega
      · refine Bool.eq_false_iff.2 fun hc => ?_
        obtain ⟨hk1, hk2⟩ := canB_iff.1 hc
        have hkm : k < m := by omega
        obtain ⟨v, hv, hvn, hvp⟩ := first_open h.up (x := D + k) (told := told) (fun c => hk1 ((hmem k).2 c))
        have hcv : canB (needE E) told v = true := canB_iff.2 ⟨hvn, hvp⟩
        have hvu : ¬ v < D + i := fun c => by
          rw [next_min hu c] at hcv; cases hcv
        rcases hv with hv | hv
        · omega
        · have hvm : v < D + m := by
            cases hv with
            | one he => exact (h.lt _ he).1
            | more he _ => exact (h.lt _ he).1
          obtain ⟨j, rfl⟩ : ∃ j, v = D + j := ⟨v - D, by omega⟩
          have hR := (h.walk j k (by omega) hkm).1 hv
          have := hk2 (j, k) (mem_pairA.2 ⟨by omega, hkm, hR⟩) rfl
          exact hvn ((hmem j).1 this)
theorem BoardS.noring (h : BoardS R m D rk E) (u : Nat) : ¬ Walk (EdR E) u u := fun hw => by have := rk_walk h.up hw; omega
theorem BoardS.line (h : BoardS R m D rk E) {out : List Int} {ok : Bool} (hs : SortR (D + m) E out ok) : ok = true ∧ out.length = D + m ∧ ∃ L : List Int, out.filter (fun x => decide ((D : Int) ≤ x)) = L.map (fun x => (D : Int) + x) ∧ ReachK (needE (pairA R m)) m L ∧ L.length = m := by
  have hok := sort_ok (fun e he => (h.lt e he).1) h.noring hs
  subst hok
  obtain ⟨hr, hl⟩ : ReachK (needE E) (D + m) out ∧ out.length = D + m := by
    rcases hs with ⟨_, hr, hl⟩ | ⟨h, _⟩
    · exact ⟨hr, hl⟩
    · cases h
  refine ⟨rfl, hl, ?_⟩
  obtain ⟨L, e, hL⟩ := h.told hr
  refine ⟨L, e, hL, ?_⟩
  obtain ⟨n1, n2⟩ := reach_tame hL
  have hle := reach_len hL
  refine Nat.le_antisymm hle ?_
  have := nodup_sub (a := (List.range m).map fun i : Nat => (i : Int)) (b := L) ?_ ?_
  · simpa using this
  · rw [List.nodup_iff_pairwise_ne, List.pairwise_map]
    exact List.nodup_range.imp fun hab e => hab (by omega)
  · intro x hx
    obtain ⟨i, hi, rfl⟩ := List.mem_map.1 hx
    have him := List.mem_range.1 hi
    obtain ⟨t1, t2⟩ := reach_tame hr
    have hm := full_mem t1 t2 hl (v := D + i) (by omega)
    have : ((D + i : Nat) : Int) ∈ out.filter (fun x => decide ((D : Int) ≤ x)) := List.mem_filter.2 ⟨hm, decide_eq_true (by omega)⟩
    rw [e] at this
    obtain ⟨a, ha, e2⟩ := List.mem_map.1 this
    rw [show (i : Int) = a by omega]; exact ha
theorem line_ahead {L : List Int} (hL : ReachK (needE (pairA R m)) m L) {i j p q : Nat} (hp : L[p]? = some (i : Int)) (hq : L[q]? = some (j : Int)) (hR : R i j) : p < q := by
  obtain ⟨n1, n2⟩ := reach_tame hL
  have hi : i < m := by
    obtain ⟨u, hu, e⟩ := n2 _ (List.mem_of_getElem? hp); omega
  have hj : j < m := by
    obtain ⟨u, hu, e⟩ := n2 _ (List.mem_of_getElem? hq); omega
  obtain ⟨k, hk, e⟩ := reach_beh hL q _ hq (i : Int) (mem_needE.2 ⟨_, mem_pairA.2 ⟨hi, hj, hR⟩, rfl, rfl⟩)
  rw [nodupI_at n1 hp e]
  exact hk
end

theorem walk_lastR {rk : Nat → Nat} {L : EdN} {e : Nat × Nat} (h1 : ∀ f ∈ L, rk f.1 ≤ rk e.1) (h2 : rk e.1 < rk e.2) {a p : Nat} : Walk (EdR (L ++ [e])) a p ↔ Walk (EdR L) a p ∨ (p = e.2 ∧ (a = e.1 ∨ Walk (EdR L) a e.1)) := by
  have up : ∀ {x y : Nat}, EdR L x y → EdR (L ++ [e]) x y := fun h => List.mem_append.2 (.inl h)
  have none : ∀ {y : Nat}, ¬ Walk (EdR L) e.2 y := fun {y} h => by
    cases h with
    | one he => have := h1 _ he; simp only at this; omega
    | more he _ => have := h1 _ he; simp only at this; omega
  constructor
  · intro h
    induction h with
    | @one a b he =>
      rcases List.mem_append.1 he with he | he
      · exact .inl (.one he)
      · have := List.mem_singleton.1 he
        subst this
        exact .inr ⟨rfl, .inl rfl⟩
    | @more a b c he _ ih =>
      rcases List.mem_append.1 he with he | he
      · rcases ih with ih | ⟨rfl, rfl | ih⟩
        · exact .inl (.more he ih)
        · exact .inr ⟨rfl, .inr (.one he)⟩
        · exact .inr ⟨rfl, .inr (.more he ih)⟩
      · have := List.mem_singleton.1 he
        subst this
        rcases ih with ih | ⟨_, ih | ih⟩
        · exact absurd ih none
        · simp only at ih h2; rw [ih] at h2; omega
        · exact absurd ih none
  · rintro (h | ⟨rfl, rfl | h⟩)
    · exact walk_mono (fun a b h => up h) h
    · exact .one (List.mem_append.2 (.inr (List.mem_singleton.2 rfl)))
    · exact (walk_mono (fun a b h => up h) h).trans (.one (List.mem_append.2 (.inr (List.mem_singleton.2 rfl))))
theorem walk_firstR {rk : Nat → Nat} {L : EdN} {e : Nat × Nat} (h1 : ∀ f ∈ L, rk e.1 ≤ rk f.1) (hu : ∀ f ∈ L, rk f.1 < rk f.2) (h2 : rk e.1 < rk e.2) {a p : Nat} : Walk (EdR (e :: L)) a p ↔ Walk (EdR L) a p ∨ (a = e.1 ∧ (p = e.2 ∨ Walk (EdR L) e.2 p)) := by
  have up : ∀ {x y : Nat}, EdR L x y → EdR (e :: L) x y := fun h => List.mem_cons.2 (.inr h)
  have into : ∀ {x : Nat}, ¬ EdR L x e.1 := fun {x} h => by
    have a := h1 _ h; have b := hu _ h; simp only at a b; omega
  constructor
  · intro h
    induction h with
    | @one a b he =>
      rcases List.mem_cons.1 he with he | he
      · subst he
        exact .inr ⟨rfl, .inl rfl⟩
      · exact .inl (.one he)
    | @more a b c he _ ih =>
      rcases List.mem_cons.1 he with he | he
      · subst he
        rcases ih with ih | ⟨ih, _⟩
        · exact .inr ⟨rfl, .inr ih⟩
        · simp only at ih h2; rw [ih] at h2; omega
      · rcases ih with ih | ⟨rfl, _⟩
        · exact .inl (.more he ih)
        · exact absurd he into
  · rintro (h | ⟨rfl, rfl | h⟩)
    · exact walk_mono (fun a b h => up h) h
    · exact .one (List.mem_cons.2 (.inl rfl))
    · exact .more (List.mem_cons.2 (.inl rfl)) (walk_mono (fun a b h => up h) h)

def updI (f : Nat → Int) (v : Nat) (x : Int) : Nat → Int := fun u => if u = v then x else f u
def bkS (ob : Nat → Int) (f : Nat → Int) (e : Nat × Nat) : Nat → Int := updI f e.2 (max (max (f e.2) (f e.1)) (ob e.1))
def onS (oo : Nat → Int) (g : Nat → Int) (e : Nat × Nat) : Nat → Int := updI g e.1 (min (min (g e.1) (g e.2)) (oo e.2))
def BkI (ob : Nat → Int) (E : EdN) (f : Nat → Int) : Prop := ∀ x, (f x = -1 ∨ ∃ y, Walk (EdR E) y x ∧ ob y = f x) ∧ -1 ≤ f x ∧ ∀ y, Walk (EdR E) y x → ob y ≤ f x
def OnI (oo : Nat → Int) (m : Int) (E : EdN) (g : Nat → Int) : Prop := ∀ x, (g x = m ∨ ∃ y, Walk (EdR E) x y ∧ oo y = g x) ∧ g x ≤ m ∧ ∀ y, Walk (EdR E) x y → g x ≤ oo y
theorem noWalk {a b : Nat} : ¬ Walk (EdR []) a b := fun h => by
  cases h with
  | one he => cases he
  | more he _ => cases he
theorem bk_first (ob : Nat → Int) : BkI ob [] (fun _ => -1) := fun x => ⟨.inl rfl, Int.le_refl _, fun y hy => absurd hy noWalk⟩
theorem on_first (oo : Nat → Int) (m : Int) : OnI oo m [] (fun _ => m) := fun x => ⟨.inl rfl, Int.le_refl _, fun y hy => absurd hy noWalk⟩
theorem bk_step {ob : Nat → Int} {rk : Nat → Nat} {L : EdN} {e : Nat × Nat} {f : Nat → Int} (h : BkI ob L f) (h1 : ∀ f ∈ L, rk f.1 ≤ rk e.1) (h2 : rk e.1 < rk e.2) (ho : -1 ≤ ob e.1) : BkI ob (L ++ [e]) (bkS ob f e) := by
  intro x
  have hne : e.1 ≠ e.2 := fun c => by rw [c] at h2; omega
  unfold bkS updI
  obtain ⟨a1, a2, a3⟩ := h x
  by_cases hx : x = e.2
  · rw [if_pos hx]
    obtain ⟨b1, b2, b3⟩ := h e.1
    subst hx
    refine ⟨?_, by omega, fun y hy => ?_⟩
    · rcases Int.le_total (max (f e.2) (f e.1)) (ob e.1) with c | c
      · rw [Int.max_eq_right c]
        exact .inr ⟨e.1, (walk_lastR h1 h2).2 (.inr ⟨rfl, .inl rfl⟩), rfl⟩
      · rw [Int.max_eq_left c]
        rcases Int.le_total (f e.2) (f e.1) with d | d
        · rw [Int.max_eq_right d]
          rcases b1 with b1 | ⟨y, hy, e9⟩
          · exact .inl b1
          · exact .inr ⟨y, (walk_lastR h1 h2).2 (.inr ⟨rfl, .inr hy⟩), e9⟩
        · rw [Int.max_eq_left d]
          rcases a1 with a1 | ⟨y, hy, e9⟩
          · exact .inl a1
          · exact .inr ⟨y, (walk_lastR h1 h2).2 (.inl hy), e9⟩
    · rcases (walk_lastR h1 h2).1 hy with c | ⟨_, rfl | c⟩
      · have := a3 y c; omega
      · omega
      · have := b3 y c; omega
  · rw [if_neg hx]
    refine ⟨?_, a2, fun y hy => ?_⟩
    · rcases a1 with a1 | ⟨y, hy, e9⟩
      · exact .inl a1
      · exact .inr ⟨y, (walk_lastR h1 h2).2 (.inl hy), e9⟩
    · rcases (walk_lastR h1 h2).1 hy with c | ⟨c, _⟩
      · exact a3 y c
      · exact absurd c hx
theorem on_step {oo : Nat → Int} {m : Int} {rk : Nat → Nat} {L : EdN} {e : Nat × Nat} {g : Nat → Int} (h : OnI oo m L g) (h1 : ∀ f ∈ L, rk e.1 ≤ rk f.1) (hu : ∀ f ∈ L, rk f.1 < rk f.2) (h2 : rk e.1 < rk e.2) (ho : oo e.2 ≤ m) : OnI oo m (e :: L) (onS oo g e) := by
  intro x
  unfold onS updI
  obtain ⟨a1, a2, a3⟩ := h x
  by_cases hx : x = e.1
  · rw [if_pos hx]
    obtain ⟨b1, b2, b3⟩ := h e.2
    subst hx
    refine ⟨?_, by omega, fun y hy => ?_⟩
    · rcases Int.le_total (min (g e.1) (g e.2)) (oo e.2) with c | c
      · rw [Int.min_eq_left c]
        rcases Int.le_total (g e.1) (g e.2) with d | d
        · rw [Int.min_eq_left d]
          rcases a1 with a1 | ⟨y, hy, e9⟩
          · exact .inl a1
          · exact .inr ⟨y, (walk_firstR h1 hu h2).2 (.inl hy), e9⟩
        · rw [Int.min_eq_right d]
          rcases b1 with b1 | ⟨y, hy, e9⟩
          · exact .inl b1
          · exact .inr ⟨y, (walk_firstR h1 hu h2).2 (.inr ⟨rfl, .inr hy⟩), e9⟩
      · rw [Int.min_eq_right c]
        exact .inr ⟨e.2, (walk_firstR h1 hu h2).2 (.inr ⟨rfl, .inl rfl⟩), rfl⟩
    · rcases (walk_firstR h1 hu h2).1 hy with c | ⟨_, rfl | c⟩
      · have := a3 y c; omega
      · omega
      · have := b3 y c; omega
  · rw [if_neg hx]
    refine ⟨?_, a2, fun y hy => ?_⟩
    · rcases a1 with a1 | ⟨y, hy, e9⟩
      · exact .inl a1
      · exact .inr ⟨y, (walk_firstR h1 hu h2).2 (.inl hy), e9⟩
    · rcases (walk_firstR h1 hu h2).1 hy with c | ⟨c, _⟩
      · exact a3 y c
      · exact absurd c hx
def ownB (D : Nat) (L : List Int) (k : Nat) (y : Nat) : Int := if D ≤ y ∧ ((y - D : Nat) : Int) ∈ L.take k then (L.idxOf ((y - D : Nat) : Int) : Int) else -1
def ownO (D : Nat) (L : List Int) (k : Nat) (y : Nat) : Int := if D ≤ y ∧ ((y - D : Nat) : Int) ∈ L.take k then (L.idxOf ((y - D : Nat) : Int) : Int) else (L.length : Int)
theorem own_zero (D : Nat) (L : List Int) (y : Nat) : ownB D L 0 y = -1 ∧ ownO D L 0 y = (L.length : Int) := by simp [ownB, ownO]
theorem own_step {D : Nat} {L : List Int} (hn : L.Nodup) {k i : Nat} (h : L[k]? = some (i : Int)) (y : Nat) : ownB D L (k + 1) y = (if y = D + i then (k : Int) else ownB D L k y) ∧ ownO D L (k + 1) y = (if y = D + i then (k : Int) else ownO D L k y) := by
  unfold ownB ownO
  rw [List.take_add_one, h]
  by_cases e : y = D + i
  · subst e
    have e2 : D + i - D = i := by omega
    rw [if_pos rfl, if_pos rfl, e2, if_pos ⟨by omega, by simp⟩, if_pos ⟨by omega, by simp⟩, idxI_at hn h]
    exact ⟨rfl, rfl⟩
  · rw [if_neg e, if_neg e]
    have : (D ≤ y ∧ ((y - D : Nat) : Int) ∈ L.take k ++ (some (i : Int)).toList) ↔ (D ≤ y ∧ ((y - D : Nat) : Int) ∈ L.take k) := by
      rw [List.mem_append]
      simp
      omega
    simp only [this]
    exact ⟨trivial, trivial⟩
theorem own_tame {D : Nat} {L : List Int} (k y : Nat) : -1 ≤ ownB D L k y ∧ ownB D L k y < L.length + 1 ∧ 0 ≤ ownO D L k y ∧ ownO D L k y ≤ L.length := by
  unfold ownB ownO
  have : ∀ x : Int, L.idxOf x ≤ L.length := fun x => List.idxOf_le_length
  have h2 := this ((y - D : Nat) : Int)
  split
  · omega
  · omega
theorem own_end {D : Nat} {L : List Int} {y p : Nat} (hn : L.Nodup) (hy : L[p]? = some (((y - D : Nat) : Int))) (hD : D ≤ y) : ownB D L L.length y = p ∧ ownO D L L.length y = p := by
  unfold ownB ownO
  rw [List.take_length, if_pos ⟨hD, List.mem_of_getElem? hy⟩, if_pos ⟨hD, List.mem_of_getElem? hy⟩, idxI_at hn hy]
  exact ⟨rfl, rfl⟩
theorem own_back {D : Nat} {L : List Int} {y : Nat} (hn : 0 ≤ ownB D L L.length y) : D ≤ y ∧ ∃ p : Nat, L[p]? = some ((y - D : Nat) : Int) ∧ ownB D L L.length y = p := by
  unfold ownB at *
  rw [List.take_length] at *
  split at hn
  · rename_i c
    rw [if_pos c]
    exact ⟨c.1, _, by rw [List.getElem?_eq_getElem (List.idxOf_lt_length_of_mem c.2)]; exact congrArg some (List.getElem_idxOf _), rfl⟩
  · omega
theorem own_on {D : Nat} {L : List Int} {y : Nat} (hn : ownO D L L.length y < L.length) : D ≤ y ∧ ∃ p : Nat, L[p]? = some ((y - D : Nat) : Int) ∧ ownO D L L.length y = p := by
  unfold ownO at *
  rw [List.take_length] at *
  split at hn
  · rename_i c
    rw [if_pos c]
    exact ⟨c.1, _, by rw [List.getElem?_eq_getElem (List.idxOf_lt_length_of_mem c.2)]; exact congrArg some (List.getElem_idxOf _), rfl⟩
  · omega
end Go.Proofs.YtfpepoebammeoaaGreat
set_option linter.unusedVariables false
namespace Go.Proofs.YtfpepoebammeoaaGreat

def minF (c : Int) (h : Int → Int) (l : List Int) : Int := l.foldr (fun x b => min b (h x)) c
def maxF (c : Int) (h : Int → Int) (l : List Int) : Int := l.foldl (fun b x => max b (h x)) c
theorem minF_le {c k : Int} {h : Int → Int} : ∀ {l : List Int}, k ≤ minF c h l ↔ k ≤ c ∧ ∀ x ∈ l, k ≤ h x
  | [] => by simp [minF]
  | x :: l => by
    have ih := minF_le (c := c) (k := k) (h := h) (l := l)
    unfold minF at *
    rw [List.foldr_cons, List.forall_mem_cons, Int.le_min, ih]
    constructor
    · rintro ⟨⟨a, b⟩, d⟩; exact ⟨a, d, b⟩
    · rintro ⟨a, d, b⟩; exact ⟨⟨a, b⟩, d⟩
theorem maxF_snoc (c : Int) (h : Int → Int) (l : List Int) (x : Int) : maxF c h (l ++ [x]) = max (maxF c h l) (h x) := by simp [maxF]
theorem maxF_le {c k : Int} {h : Int → Int} {l : List Int} : maxF c h l ≤ k ↔ c ≤ k ∧ ∀ x ∈ l, h x ≤ k := by
  have key : ∀ (l : List Int) (c : Int), l.foldl (fun b x => max b (h x)) c ≤ k ↔ c ≤ k ∧ ∀ x ∈ l, h x ≤ k := by
    intro l
    induction l with
    | nil => intro c; simp
    | cons x l ih =>
      intro c
      rw [List.foldl_cons, ih, List.forall_mem_cons, Int.max_le]
      constructor
      · rintro ⟨⟨a, b⟩, d⟩; exact ⟨a, b, d⟩
      · rintro ⟨a, b, d⟩; exact ⟨⟨a, b⟩, d⟩
  exact key l c
def bkM (f : Nat → Int) (D : Nat) (L : List Int) (k : Nat) : Int := minF L.length (fun x => f (D + x.toNat)) (L.drop k)
def onM (g : Nat → Int) (D : Nat) (L : List Int) (k : Nat) : Int := maxF (-1) (fun x => g (D + x.toNat)) (L.take k)
theorem bkM_end (f : Nat → Int) (D : Nat) (L : List Int) : bkM f D L L.length = L.length := by simp [bkM, minF]
theorem bkM_at {f : Nat → Int} {D : Nat} {L : List Int} {k : Nat} {i : Nat} (h : L[k]? = some (i : Int)) : bkM f D L k = min (bkM f D L (k + 1)) (f (D + i)) := by
  obtain ⟨hk, e⟩ := List.getElem?_eq_some_iff.1 h
  unfold bkM minF
  rw [List.drop_eq_getElem_cons hk, e]
  simp
theorem onM_zero (g : Nat → Int) (D : Nat) (L : List Int) : onM g D L 0 = -1 := by simp [onM, maxF]
theorem onM_at {g : Nat → Int} {D : Nat} {L : List Int} {k : Nat} {i : Nat} (h : L[k]? = some (i : Int)) : onM g D L (k + 1) = max (onM g D L k) (g (D + i)) := by
  unfold onM
  rw [List.take_add_one, h]
  exact maxF_snoc _ _ _ _
def sglB (f g : Nat → Int) (D : Nat) (L : List Int) (k : Nat) : Bool := decide ((k : Int) ≤ bkM f D L (k + 1)) && decide (onM g D L k ≤ (k : Int))
section
variable {R : Nat → Nat → Prop} {m D : Nat} {rk : Nat → Nat} {E : EdN} {L : List Int} {f g : Nat → Int}
theorem line_at (hL : ReachK (needE (pairA R m)) m L) {k : Nat} {x : Int} (h : L[k]? = some x) : ∃ i : Nat, i < m ∧ x = (i : Int) := (reach_tame hL).2 _ (List.mem_of_getElem? h)
theorem line_lt (hL : ReachK (needE (pairA R m)) m L) {k i : Nat} (h : L[k]? = some (i : Int)) : i < m := by
  obtain ⟨j, hj, e⟩ := line_at hL h
  omega
theorem bk_is (hL : ReachK (needE (pairA R m)) m L) (hB : BoardS R m D rk E) (hf : BkI (ownB D L L.length) E f) {q j : Nat} (hq : L[q]? = some (j : Int)) {k : Nat} (h : (k : Int) ≤ f (D + j)) : ∃ (p i : Nat), k ≤ p ∧ L[p]? = some (i : Int) ∧ R i j := by
  have hj : j < m := line_lt hL hq
  obtain ⟨h1, _, _⟩ := hf (D + j)
  rcases h1 with h1 | ⟨y, hw, e⟩
  · omega
  · obtain ⟨hD, p, hp, e2⟩ := own_back (L := L) (y := y) (D := D) (by omega)
    obtain ⟨i, hi, e3⟩ := line_at hL hp
    have : y = D + i := by omega
    subst this
    exact ⟨p, i, by omega, by rw [hp]; congr 1, (hB.walk i j hi hj).1 hw⟩
theorem on_is (hL : ReachK (needE (pairA R m)) m L) (hB : BoardS R m D rk E) (hl : L.length = m) (hg : OnI (ownO D L L.length) m E g) {q j : Nat} (hq : L[q]? = some (j : Int)) {k : Nat} (hk : k < m) (h : g (D + j) ≤ (k : Int)) : ∃ (p i : Nat), p ≤ k ∧ L[p]? = some (i : Int) ∧ R j i := by
  have hj : j < m := line_lt hL hq
  obtain ⟨h1, _, _⟩ := hg (D + j)
  rcases h1 with h1 | ⟨y, hw, e⟩
  · omega
  · obtain ⟨hD, p, hp, e2⟩ := own_on (L := L) (y := y) (D := D) (by omega)
    obtain ⟨i, hi, e3⟩ := line_at hL hp
    have : y = D + i := by omega
    subst this
    exact ⟨p, i, by omega, by rw [hp]; congr 1, (hB.walk j i hj hi).1 hw⟩
theorem sgl_iff (hL : ReachK (needE (pairA R m)) m L) (hB : BoardS R m D rk E) (hl : L.length = m) (htr : ∀ a b c, R a b → R b c → R a c) (hf : BkI (ownB D L L.length) E f) (hg : OnI (ownO D L L.length) m E g) {k i : Nat} (hk : L[k]? = some (i : Int)) :
    sglB f g D L k = true ↔ ∀ q j : Nat, L[q]? = some (j : Int) → (k < q → R i j) ∧ (q < k → R j i) := by
  obtain ⟨n1, n2⟩ := reach_tame hL
  have hkl := (List.getElem?_eq_some_iff.1 hk).1
  have him : i < m := line_lt hL hk
  have ownAt : ∀ {p j : Nat}, L[p]? = some (j : Int) → ownB D L L.length (D + j) = p ∧ ownO D L L.length (D + j) = p := fun {p j} hp => own_end (y := D + j) n1 (by rw [show D + j - D = j by omega]; exact hp) (by omega)
  have h1 : (k : Int) ≤ bkM f D L (k + 1) ↔ ∀ q j : Nat, L[q]? = some (j : Int) → k < q → R i j := by
    unfold bkM
    rw [minF_le]
    constructor
    · rintro ⟨_, h⟩
      have key : ∀ (q : Nat), ∀ j : Nat, L[q]? = some (j : Int) → k < q → R i j := by
        intro q
        induction q using Nat.strongRecOn with
        | ind q ih =>
          intro j hq hlt
          have := h (j : Int) (by
            refine List.mem_of_getElem? (i := q - (k + 1)) ?_
            rw [List.getElem?_drop, show k + 1 + (q - (k + 1)) = q by omega]; exact hq)
          rw [Int.toNat_natCast] at this
          obtain ⟨p, a, hp, hpa, hR⟩ := bk_is hL hB hf hq this
          have hpq := line_ahead hL hpa hq hR
          rcases Nat.eq_or_lt_of_le hp with e | hkp
          · subst e
            rw [hk] at hpa
            have : i = a := by have := Option.some.inj hpa; omega
            rw [this]; exact hR
          · exact htr _ _ _ (ih p hpq a hpa hkp) hR
      exact key
    · intro h
      refine ⟨by omega, fun x hx => ?_⟩
      obtain ⟨t, ht⟩ := List.mem_iff_getElem?.1 hx
      rw [List.getElem?_drop] at ht
      obtain ⟨j, hj, rfl⟩ := line_at hL ht
      have hR := h _ j ht (by omega)
      rw [Int.toNat_natCast]
      have := (hf (D + j)).2.2 (D + i) ((hB.walk i j him hj).2 hR)
      rw [(ownAt hk).1] at this
      exact this
  have h2 : onM g D L k ≤ (k : Int) ↔ ∀ q j : Nat, L[q]? = some (j : Int) → q < k → R j i := by
    unfold onM
    rw [maxF_le]
    constructor
    · rintro ⟨_, h⟩
      have key : ∀ (d : Nat), ∀ q j : Nat, k - q = d → L[q]? = some (j : Int) → q < k → R j i := by
        intro d
        induction d using Nat.strongRecOn with
        | ind d ih =>
          intro q j hd hq hlt
          have := h (j : Int) (by
            refine List.mem_of_getElem? (i := q) ?_
            rw [List.getElem?_take_of_lt hlt]; exact hq)
          rw [Int.toNat_natCast] at this
          obtain ⟨p, a, hp, hpa, hR⟩ := on_is hL hB hl hg hq (by omega) this
          have hpq := line_ahead hL hq hpa hR
          rcases Nat.eq_or_lt_of_le hp with e | hkp
          · subst e
            rw [hk] at hpa
            have : i = a := by have := Option.some.inj hpa; omega
            rw [this]; exact hR
          · exact htr _ _ _ hR (ih (k - p) (by omega) p a rfl hpa hkp)
      exact fun q j => key _ q j rfl
    · intro h
      refine ⟨by omega, fun x hx => ?_⟩
      obtain ⟨t, ht⟩ := List.mem_iff_getElem?.1 hx
      have htk : t < k := by have := (List.getElem?_eq_some_iff.1 ht).1; rw [List.length_take] at this; omega
      rw [List.getElem?_take_of_lt htk] at ht
      obtain ⟨j, hj, rfl⟩ := line_at hL ht
      have hR := h _ j ht (by omega)
      rw [Int.toNat_natCast]
      have := (hg (D + j)).2.2 (D + i) ((hB.walk j i hj him).2 hR)
      rw [(ownAt hk).2] at this
      exact this
  unfold sglB
  rw [Bool.and_eq_true, decide_eq_true_iff, decide_eq_true_iff, h1, h2]
  constructor
  · rintro ⟨a, b⟩ q j hq
    exact ⟨a q j hq, b q j hq⟩
  · exact fun h => ⟨fun q j hq => (h q j hq).1, fun q j hq => (h q j hq).2⟩
end

def putL {α : Type} (G : List (List α)) (y : α) : List (List α) := G.dropLast ++ [(G.getLast?.getD []) ++ [y]]
def newR (s : Nat → Bool) (k : Nat) : Bool := k == 0 || s k || s (k - 1)
def runL {α : Type} (s : Nat → Bool) (x : Nat → α) : Nat → List (List α)
  | 0 => []
  | k + 1 => if newR s k then runL s x k ++ [[x k]] else putL (runL s x k) (x k)
theorem putL_len {α : Type} {G : List (List α)} (y : α) (h : G ≠ []) : (putL G y).length = G.length := by
  have := List.length_pos_iff.2 h
  simp [putL]; omega
theorem putL_set {α : Type} {G : List (List α)} (y : α) {g : List α} (h : G[G.length - 1]? = some g) : putL G y = G.set (G.length - 1) (g ++ [y]) := by
  have hne : G ≠ [] := fun e => by subst e; simp at h
  have e : G = G.dropLast ++ [g] := by
    conv => lhs; rw [← List.dropLast_concat_getLast hne]
    rw [List.getLast_eq_getElem]
    have := (List.getElem?_eq_some_iff.1 h).2
    rw [this]
  have hl : G.length - 1 = G.dropLast.length := by simp
  unfold putL
  rw [hl]
  conv => rhs; rw [e]
  rw [List.getLast?_eq_getElem?, h]
  simp
theorem runL_pos {α : Type} (s : Nat → Bool) (x : Nat → α) : ∀ k, 0 < k → runL s x k ≠ []
  | 0, h => absurd h (by omega)
  | k + 1, _ => by
    unfold runL putL
    split <;> simp
theorem runL_len {α : Type} (s : Nat → Bool) (x : Nat → α) : ∀ k, (runL s x k).length ≤ k
  | 0 => by simp [runL]
  | k + 1 => by
    have ih := runL_len s x k
    unfold runL
    split
    · simp; omega
    · rename_i h
      have hk : 0 < k := by
        rcases Nat.eq_zero_or_pos k with e | e
        · subst e; simp [newR] at h
        · exact e
      rw [putL_len _ (runL_pos s x k hk)]; omega
theorem runL_congr {α : Type} {s t : Nat → Bool} {x y : Nat → α} : ∀ {k : Nat}, (∀ i, i < k → s i = t i ∧ x i = y i) → runL s x k = runL t y k
  | 0, _ => rfl
  | k + 1, h => by
    have ih := runL_congr (k := k) fun i hi => h i (by omega)
    have e : newR s k = newR t k := by
      unfold newR
      rw [(h k (by omega)).1]
      rcases Nat.eq_zero_or_pos k with e | e
      · subst e; simp
      · rw [(h (k - 1) (by omega)).1]
    unfold runL
    rw [ih, e, (h k (by omega)).2]
theorem putL_map {α β : Type} (f : α → β) (G : List (List α)) (y : α) : (putL G y).map (List.map f) = putL (G.map (List.map f)) (f y) := by
  unfold putL
  rw [List.map_append, List.map_dropLast, List.getLast?_map]
  cases G.getLast? <;> simp
theorem runL_map {α β : Type} (f : α → β) (s : Nat → Bool) (x : Nat → α) : ∀ k, (runL s x k).map (List.map f) = runL s (fun i => f (x i)) k
  | 0 => rfl
  | k + 1 => by
    have ih := runL_map f s x k
    unfold runL
    split
    · rw [List.map_append, ih]; rfl
    · rw [putL_map, ih]
structure RunI (s : Nat → Bool) (k : Nat) (G : List (List Nat)) : Prop where
  flat : G.flatten = List.range k
  ne : ∀ g ∈ G, g ≠ []
  two : ∀ (i j : Nat) (a b : List Nat) (p q : Nat), i < j → G[i]? = some a → G[j]? = some b → p ∈ a → q ∈ b → ∃ r, p ≤ r ∧ r ≤ q ∧ s r = true
  odd : ∀ g ∈ G, 1 < g.length → ∀ p ∈ g, s p = false
theorem getLast_split {α : Type} {G : List (List α)} (h : G ≠ []) : ∃ G0 g, G = G0 ++ [g] ∧ ∀ y, putL G y = G0 ++ [g ++ [y]] := by
  refine ⟨G.dropLast, G.getLast h, (List.dropLast_concat_getLast h).symm, fun y => ?_⟩
  unfold putL
  rw [List.getLast?_eq_some_getLast h]
  rfl
theorem runI_all (s : Nat → Bool) : ∀ k, RunI s k (runL s id k)
  | 0 => ⟨rfl, fun g h => by simp [runL] at h, fun i j a b p q _ h => by simp [runL] at h, fun g h => by simp [runL] at h⟩
  | k + 1 => by
    have ih := runI_all s k
    unfold runL
    generalize hG : runL s id k = G at ih ⊢
    have hlt : ∀ g ∈ G, ∀ p ∈ g, p < k := fun g hg p hp => by
      have : p ∈ G.flatten := List.mem_flatten.2 ⟨g, hg, hp⟩
      rw [ih.flat] at this
      exact List.mem_range.1 this
    split
    · rename_i hn
      refine ⟨by rw [List.flatten_append, ih.flat, List.range_succ]; rfl, fun g hg => ?_, fun i j a b p q hij ha hb hp hq => ?_, fun g hg hl => ?_⟩
      · rcases List.mem_append.1 hg with c | c
        · exact ih.ne g c
        · rw [List.mem_singleton.1 c]; simp
      · have hjl := (List.getElem?_eq_some_iff.1 hb).1
        rw [List.length_append, List.length_singleton] at hjl
        rw [List.getElem?_append_left (by omega)] at ha
        rcases Nat.lt_or_ge j G.length with c | c
        · rw [List.getElem?_append_left c] at hb
          exact ih.two i j a b p q hij ha hb hp hq
        · obtain rfl : j = G.length := by omega
          rw [List.getElem?_append_right (Nat.le_refl _), Nat.sub_self] at hb
          obtain rfl := Option.some.inj hb
          have hqk : q = k := List.mem_singleton.1 hq
          have hpk := hlt a (List.mem_of_getElem? ha) p hp
          unfold newR at hn
          rw [Bool.or_eq_true, Bool.or_eq_true, beq_iff_eq] at hn
          rcases hn with (hn | hn) | hn
          · omega
          · exact ⟨k, by omega, by omega, hn⟩
          · exact ⟨k - 1, by omega, by omega, hn⟩
      · rcases List.mem_append.1 hg with c | c
        · exact ih.odd g c hl
        · rw [List.mem_singleton.1 c] at hl; simp at hl
    · rename_i hn
      unfold newR at hn
      rw [Bool.or_eq_true, Bool.or_eq_true, beq_iff_eq] at hn
      have hk : 0 < k := by omega
      have hs : s k = false := by cases h : s k <;> simp_all
      have hs1 : s (k - 1) = false := by cases h : s (k - 1) <;> simp_all
      have hne : G ≠ [] := by rw [← hG]; exact runL_pos s id k hk
      obtain ⟨G0, g, rfl, hp⟩ := getLast_split hne
      show RunI s (k + 1) (putL (G0 ++ [g]) k)
      rw [hp k]
      have hgne := ih.ne g (by simp)
      have hlast : k - 1 ∈ g := by
        have h1 := ih.flat
        rw [List.flatten_append, show k = k - 1 + 1 by omega, List.range_succ, List.flatten_singleton] at h1
        have h2 : (G0.flatten ++ g).getLast? = (List.range (k - 1) ++ [k - 1]).getLast? := by rw [h1]
        rw [List.getLast?_append, List.getLast?_append, List.getLast?_eq_some_getLast hgne] at h2
        refine List.mem_of_getLast? (by rw [List.getLast?_eq_some_getLast hgne, ← Option.some_or, h2]; rfl)
      refine ⟨?_, fun h hh => ?_, fun i j a b p q hij ha hb hp hq => ?_, fun h hh hl p hp => ?_⟩
      · have h1 := ih.flat
        rw [List.flatten_append, List.flatten_singleton] at h1 ⊢
        rw [← List.append_assoc, h1, List.range_succ]
      · rcases List.mem_append.1 hh with c | c
        · exact ih.ne h (List.mem_append.2 (.inl c))
        · rw [List.mem_singleton.1 c]; simp
      · have hjl := (List.getElem?_eq_some_iff.1 hb).1
        rw [List.length_append, List.length_singleton] at hjl
        rw [List.getElem?_append_left (by omega)] at ha
        have ha' : (G0 ++ [g])[i]? = some a := by rw [List.getElem?_append_left (by omega)]; exact ha
        rcases Nat.lt_or_ge j G0.length with c | c
        · rw [List.getElem?_append_left c] at hb
          exact ih.two i j a b p q hij ha' (by rw [List.getElem?_append_left c]; exact hb) hp hq
        · obtain rfl : j = G0.length := by omega
          rw [List.getElem?_append_right (Nat.le_refl _), Nat.sub_self] at hb
          obtain rfl := Option.some.inj hb
          have hg' : (G0 ++ [g])[G0.length]? = some g := by rw [List.getElem?_append_right (Nat.le_refl _), Nat.sub_self]; rfl
          rcases List.mem_append.1 hq with c | c
          · exact ih.two i _ a g p q hij ha' hg' hp c
          · have hqk : q = k := List.mem_singleton.1 c
            obtain ⟨r, r1, r2, r3⟩ := ih.two i _ a g p _ hij ha' hg' hp hlast
            exact ⟨r, r1, by omega, r3⟩
      · rcases List.mem_append.1 hh with c | c
        · exact ih.odd h (List.mem_append.2 (.inl c)) hl p hp
        · have hh2 : h = g ++ [k] := List.mem_singleton.1 c
          rw [hh2] at hp
          rcases List.mem_append.1 hp with d | d
          · rcases Nat.lt_or_ge 1 g.length with e | e
            · exact ih.odd g (by simp) e p d
            · obtain ⟨z, rfl⟩ : ∃ z, g = [z] := by
                match g, hgne, e with
                | [z], _, _ => exact ⟨z, rfl⟩
              have hz : p = z := List.mem_singleton.1 d
              have : k - 1 = z := List.mem_singleton.1 hlast
              rw [hz, ← this]; exact hs1
          · have hz : p = k := List.mem_singleton.1 d
            rw [hz]; exact hs
end Go.Proofs.YtfpepoebammeoaaGreat
set_option linter.unusedVariables false
namespace Go.Proofs.YtfpepoebammeoaaGreat

def bkA (ob : Nat → Int) (E : EdN) : Nat → Int := E.foldl (bkS ob) fun _ => -1
def onA (oo : Nat → Int) (m : Int) (E : EdN) : Nat → Int := E.reverse.foldl (onS oo) fun _ => m
theorem bkA_take {ob : Nat → Int} {E : EdN} {j : Nat} {e : Nat × Nat} (h : E[j]? = some e) : bkA ob (E.take (j + 1)) = bkS ob (bkA ob (E.take j)) e := by
  unfold bkA
  rw [List.take_add_one, h, List.foldl_append]
  rfl
theorem bk_all {ob : Nat → Int} {rk : Nat → Nat} {E : EdN} (hu : ∀ e ∈ E, rk e.1 < rk e.2) (hs : E.Pairwise fun e f => rk e.1 ≤ rk f.1) (ho : ∀ y, -1 ≤ ob y) : BkI ob E (bkA ob E) := by
  have key : ∀ j, j ≤ E.length → BkI ob (E.take j) (bkA ob (E.take j)) := by
    intro j
    induction j with
    | zero => intro _; exact bk_first ob
    | succ j ih =>
      intro hj
      have he : E[j]? = some (E[j]'(by omega)) := List.getElem?_eq_getElem _
      rw [bkA_take he]
      have h1 : E.take (j + 1) = E.take j ++ [E[j]'(by omega)] := by rw [List.take_add_one, he]; rfl
      rw [h1]
      refine bk_step (rk := rk) (ih (by omega)) (fun f hf => ?_) (hu _ (List.mem_of_getElem? he)) (ho _)
      obtain ⟨t, ht, rfl⟩ := List.mem_take_iff_getElem.1 hf
      exact List.pairwise_iff_getElem.1 hs t j (by omega) (by omega) (by omega)
  have := key E.length (Nat.le_refl _)
  rw [List.take_length] at this
  exact this
theorem onA_cons (oo : Nat → Int) (m : Int) (e : Nat × Nat) (L : EdN) : onA oo m (e :: L) = onS oo (onA oo m L) e := by
  unfold onA
  rw [List.reverse_cons, List.foldl_append]
  rfl
theorem on_all {oo : Nat → Int} {m : Int} {rk : Nat → Nat} : ∀ {E : EdN}, (∀ e ∈ E, rk e.1 < rk e.2) → (E.Pairwise fun e f => rk e.1 ≤ rk f.1) → (∀ y, oo y ≤ m) → OnI oo m E (onA oo m E)
  | [], _, _, _ => on_first oo m
  | e :: L, hu, hs, ho => by
    obtain ⟨h1, h2⟩ := List.pairwise_cons.1 hs
    rw [onA_cons]
    exact on_step (rk := rk) (on_all (fun f hf => hu f (List.mem_cons_of_mem _ hf)) h2 ho) h1 (fun f hf => hu f (List.mem_cons_of_mem _ hf)) (hu e List.mem_cons_self) (ho _)
section
variable {R : Nat → Nat → Prop} {m D : Nat} {rk : Nat → Nat} {E : EdN} {L : List Int}
theorem single_iff (hL : ReachK (needE (pairA R m)) m L) (hB : BoardS R m D rk E) (hl : L.length = m) (htr : ∀ a b c, R a b → R b c → R a c) {k i : Nat} (hk : L[k]? = some (i : Int)) :
    sglB (bkA (ownB D L L.length) E) (onA (ownO D L L.length) m E) D L k = true ↔ ∀ q j : Nat, L[q]? = some (j : Int) → (k < q → R i j) ∧ (q < k → R j i) :=
  sgl_iff hL hB hl htr (bk_all hB.up hB.sorted (fun y => (own_tame L.length y).1)) (on_all hB.up hB.sorted (fun y => by have := (own_tame (D := D) (L := L) L.length y).2.2.2; omega)) hk
end
end Go.Proofs.YtfpepoebammeoaaGreat
set_option linter.unusedVariables false
namespace Go.Proofs.YtfpepoebammeoaaGreat

theorem nodup_subN {α : Type} [DecidableEq α] : ∀ {a b : List α}, a.Nodup → (∀ x ∈ a, x ∈ b) → a.length ≤ b.length
  | [], _, _, _ => Nat.zero_le _
  | x :: a, b, hn, hs => by
    obtain ⟨h1, h2⟩ := List.nodup_cons.1 hn
    have hx := hs x List.mem_cons_self
    have := nodup_subN (a := a) (b := b.erase x) h2 fun y hy => (List.mem_erase_of_ne (fun e => h1 (by rw [e] at hy; exact hy))).2 (hs y (List.mem_cons_of_mem _ hy))
    rw [List.length_erase_of_mem hx] at this
    have hp := List.length_pos_of_mem hx
    simp only [List.length_cons]
    omega
theorem lex_nodup {W : EdN} (h : W.Pairwise lexL) : W.Nodup := h.imp fun {a b} hab e => by subst e; unfold lexL at hab; omega
theorem OrdS.wlen {n : Nat} {es : EdN} {T : List Nat} {pl : Nat → Nat} {W : EdN} (h : OrdS n es T pl W) : W.length ≤ es.length := by
  have := nodup_subN (lex_nodup h.sorted) (b := es.map fun e => (pl (T.idxOf e.1), pl (T.idxOf e.2))) fun x hx => by
    obtain ⟨p, q⟩ := x
    obtain ⟨_, e, he, h1, h2⟩ := (h.way p q).1 hx
    exact List.mem_map.2 ⟨e, he, by rw [h1, h2]⟩
  simpa using this
def hasB (n t : Int) : Bool := decide (0 ≤ t) && decide (t < n)
theorem hasB_iff {n t : Int} : hasB n t = true ↔ 0 ≤ t ∧ t < n := by simp [hasB]
noncomputable def ahB (n : Int) (es : EdN) (a b : Int) : Bool := open Classical in hasB n a && hasB n b && decide (AheadK (EdR es) a.toNat b.toNat)
noncomputable def cpB (n : Int) (es : EdN) (a b : Int) : Bool := open Classical in hasB n a && hasB n b && decide (Knot (EdR es) a.toNat b.toNat ∨ AheadK (EdR es) a.toNat b.toNat ∨ AheadK (EdR es) b.toNat a.toNat)
theorem ahB_iff {n : Int} {es : EdN} {a b : Int} : ahB n es a b = true ↔ 0 ≤ a ∧ a < n ∧ 0 ≤ b ∧ b < n ∧ AheadK (EdR es) a.toNat b.toNat := by
  classical
  unfold ahB
  rw [Bool.and_eq_true, Bool.and_eq_true, hasB_iff, hasB_iff, decide_eq_true_iff]
  constructor
  · rintro ⟨⟨⟨a, b⟩, c, d⟩, e⟩; exact ⟨a, b, c, d, e⟩
  · rintro ⟨a, b, c, d, e⟩; exact ⟨⟨⟨a, b⟩, c, d⟩, e⟩
theorem cpB_iff {n : Int} {es : EdN} {a b : Int} : cpB n es a b = true ↔ 0 ≤ a ∧ a < n ∧ 0 ≤ b ∧ b < n ∧ (Knot (EdR es) a.toNat b.toNat ∨ AheadK (EdR es) a.toNat b.toNat ∨ AheadK (EdR es) b.toNat a.toNat) := by
  classical
  unfold cpB
  rw [Bool.and_eq_true, Bool.and_eq_true, hasB_iff, hasB_iff, decide_eq_true_iff]
  constructor
  · rintro ⟨⟨⟨a, b⟩, c, d⟩, e⟩; exact ⟨a, b, c, d, e⟩
  · rintro ⟨a, b, c, d, e⟩; exact ⟨⟨⟨a, b⟩, c, d⟩, e⟩
theorem ah_out {n : Int} {es : EdN} {a b : Int} (h : hasB n a = false ∨ hasB n b = false) : ahB n es a b = false := by
  unfold ahB
  rcases h with h | h <;> simp [h]
theorem cp_out {n : Int} {es : EdN} {a b : Int} (h : hasB n a = false ∨ hasB n b = false) : cpB n es a b = false := by
  unfold cpB
  rcases h with h | h <;> simp [h]
theorem ahead_trans {R : Nat → Nat → Prop} {a b c : Nat} (h : AheadK R a b) (t : AheadK R b c) : AheadK R a c := ⟨h.1.trans t.1, fun hb => t.2 (hb.trans h.1)⟩
theorem ahead_irr {R : Nat → Nat → Prop} {a : Nat} (h : AheadK R a a) : False := h.2 h.1
noncomputable def metF (B : EdN) (lo j x : Nat) : Bool := open Classical in decide (x = 0 ∨ Walk (EdR (B.take j)) lo (lo + x))
theorem metF_iff {B : EdN} {lo j x : Nat} : metF B lo j x = true ↔ x = 0 ∨ Walk (EdR (B.take j)) lo (lo + x) := by
  classical
  unfold metF
  rw [decide_eq_true_iff]
theorem metF_first (B : EdN) (lo x : Nat) : metF B lo 0 x = (x == 0) := by
  rw [Bool.eq_iff_iff, metF_iff, beq_iff_eq, List.take_zero]
  constructor
  · rintro (h | h)
    · exact h
    · cases h with
      | one he => cases he
      | more he _ => cases he
  · exact .inl
theorem metF_step {B : EdN} {lo j : Nat} {e : Nat × Nat} (hs : B.Pairwise lexL) (hu : ∀ e ∈ B, e.1 < e.2) (h : B[j]? = some e) (hlo : lo ≤ e.1) (x : Nat) : metF B lo (j + 1) x = if lo + x = e.2 ∧ metF B lo j (e.1 - lo) = true then true else metF B lo j x := by
  have hl : ∀ f ∈ B.take j, f.1 ≤ e.1 := fun f hf => by
    obtain ⟨t, ht, rfl⟩ := List.mem_take_iff_getElem.1 hf
    have hj := (List.getElem?_eq_some_iff.1 h).1
    have := List.pairwise_iff_getElem.1 hs t j (by omega) hj (by omega)
    rw [(List.getElem?_eq_some_iff.1 h).2] at this
    unfold lexL at this
    omega
  have he := hu e (List.mem_of_getElem? h)
  have e1 : lo + (e.1 - lo) = e.1 := by omega
  have key : metF B lo (j + 1) x = true ↔ metF B lo j x = true ∨ (lo + x = e.2 ∧ metF B lo j (e.1 - lo) = true) := by
    rw [metF_iff, metF_iff, metF_iff, e1, List.take_add_one, h]
    show x = 0 ∨ Walk (EdR (B.take j ++ [e])) lo (lo + x) ↔ _
    rw [walk_last hl he]
    constructor
    · rintro (h | h | ⟨h1, h2 | h2⟩)
      · exact .inl (.inl h)
      · exact .inl (.inr h)
      · exact .inr ⟨h1, .inl (by omega)⟩
      · exact .inr ⟨h1, .inr h2⟩
    · rintro ((h | h) | ⟨h1, h2 | h2⟩)
      · exact .inl h
      · exact .inr (.inl h)
      · exact .inr (.inr ⟨h1, .inl (by omega)⟩)
      · exact .inr (.inr ⟨h1, .inr h2⟩)
  by_cases c : lo + x = e.2 ∧ metF B lo j (e.1 - lo) = true
  · rw [if_pos c]; exact key.2 (.inr c)
  · rw [if_neg c, Bool.eq_iff_iff, key]
    exact ⟨fun h => h.resolve_right c, .inl⟩
end Go.Proofs.YtfpepoebammeoaaGreat
set_option linter.unusedVariables false
namespace Go.Proofs.YtfpepoebammeoaaGreat

def askF (h : Int → Bool) (P : Int → Int) (out : List Int) (t : Int) : List Int := if h t && !((out.map P).contains (P t)) then out ++ [t] else out
def askL (h : Int → Bool) (P : Int → Int) (l : List Int) : List Int := l.foldl (askF h P) []
theorem ask_take {h : Int → Bool} {P : Int → Int} {l : List Int} {j : Nat} {t : Int} (ht : l[j]? = some t) : askL h P (l.take (j + 1)) = askF h P (askL h P (l.take j)) t := by
  unfold askL
  rw [List.take_add_one, ht, List.foldl_append]
  rfl
theorem ask_len (h : Int → Bool) (P : Int → Int) (l : List Int) : ∀ j, (askL h P (l.take j)).length ≤ j
  | 0 => by simp [askL]
  | j + 1 => by
    have ih := ask_len h P l j
    cases ht : l[j]? with
    | none =>
      have : l.take (j + 1) = l.take j := by rw [List.take_add_one, ht]; simp
      rw [this]; omega
    | some t =>
      rw [ask_take ht]
      unfold askF
      split
      · simp; omega
      · omega
theorem ask_is (h : Int → Bool) (P : Int → Int) (l : List Int) : (∀ x ∈ askL h P l, h x = true ∧ x ∈ l) ∧ ((askL h P l).map P).Nodup ∧ ∀ t ∈ l, h t = true → P t ∈ (askL h P l).map P := by
  have key : ∀ (l out : List Int), (out.map P).Nodup → (∀ x ∈ l.foldl (askF h P) out, x ∈ out ∨ (h x = true ∧ x ∈ l)) ∧ ((l.foldl (askF h P) out).map P).Nodup ∧ (∀ x ∈ out, x ∈ l.foldl (askF h P) out) ∧ ∀ t ∈ l, h t = true → P t ∈ (l.foldl (askF h P) out).map P := by
    intro l
    induction l with
    | nil => intro out ho; exact ⟨fun x hx => .inl hx, ho, fun x hx => hx, fun t ht => by cases ht⟩
    | cons a l ih =>
      intro out ho
      rw [List.foldl_cons]
      have hno : ((askF h P out a).map P).Nodup := by
        unfold askF
        split
        · rename_i hc
          rw [Bool.and_eq_true, Bool.not_eq_true'] at hc
          rw [List.map_append, List.nodup_append]
          refine ⟨ho, by simp, fun x hx y hy e => ?_⟩
          have : y = P a := by simpa using hy
          rw [this] at e
          rw [e] at hx
          have := hc.2
          rw [List.contains_eq_mem, decide_eq_false_iff_not] at this
          exact this hx
        · exact ho
      obtain ⟨h1, h2, h3, h4⟩ := ih (askF h P out a) hno
      have hin : ∀ x ∈ out, x ∈ askF h P out a := fun x hx => by
        unfold askF
        split
        · exact List.mem_append.2 (.inl hx)
        · exact hx
      refine ⟨fun x hx => ?_, h2, fun x hx => h3 x (hin x hx), fun t ht hh => ?_⟩
      · rcases h1 x hx with c | ⟨c, d⟩
        · unfold askF at c
          split at c
          · rename_i hc
            rw [Bool.and_eq_true] at hc
            rcases List.mem_append.1 c with c | c
            · exact .inl c
            · rw [List.mem_singleton.1 c]; exact .inr ⟨hc.1, by simp⟩
          · exact .inl c
        · exact .inr ⟨c, by simp [d]⟩
      · rcases List.mem_cons.1 ht with e | ht
        · subst e
          by_cases hc : ((out.map P).contains (P t)) = true
          · rw [List.contains_eq_mem, decide_eq_true_iff] at hc
            obtain ⟨x, hx, e⟩ := List.mem_map.1 hc
            exact List.mem_map.2 ⟨x, h3 x (hin x hx), e⟩
          · refine List.mem_map.2 ⟨t, h3 t ?_, rfl⟩
            unfold askF
            rw [hh, if_pos (by simpa using hc)]
            simp
        · exact h4 t ht hh
  obtain ⟨h1, h2, _, h4⟩ := key l [] .nil
  exact ⟨fun x hx => (h1 x hx).resolve_left (by simp), h2, h4⟩
theorem ask_congr {h g : Int → Bool} {P Q : Int → Int} {l : List Int} (hh : ∀ t, h t = g t) (hP : ∀ x y, h x = true → h y = true → (P x = P y ↔ Q x = Q y)) : askL h P l = askL g Q l := by
  have key : ∀ (l out : List Int), (∀ x ∈ out, h x = true) → l.foldl (askF h P) out = l.foldl (askF g Q) out := by
    intro l
    induction l with
    | nil => intro out _; rfl
    | cons a l ih =>
      intro out ho
      rw [List.foldl_cons, List.foldl_cons]
      have e : askF h P out a = askF g Q out a := by
        unfold askF
        rw [← hh a]
        by_cases ha : h a = true
        · have : (out.map P).contains (P a) = (out.map Q).contains (Q a) := by
            rw [Bool.eq_iff_iff, List.contains_eq_mem, List.contains_eq_mem, decide_eq_true_iff, decide_eq_true_iff, List.mem_map, List.mem_map]
            constructor
            · rintro ⟨x, hx, e⟩; exact ⟨x, hx, (hP x a (ho x hx) ha).1 e⟩
            · rintro ⟨x, hx, e⟩; exact ⟨x, hx, (hP x a (ho x hx) ha).2 e⟩
          rw [this]
        · have ha : h a = false := Bool.eq_false_iff.2 ha
          rw [ha]; rfl
      rw [← e]
      refine ih _ fun x hx => ?_
      unfold askF at hx
      split at hx
      · rename_i hc
        rw [Bool.and_eq_true] at hc
        rcases List.mem_append.1 hx with c | c
        · exact ho x c
        · rw [List.mem_singleton.1 c]; exact hc.1
      · exact ho x hx
  exact key l [] (by simp)
def sortI (l : List Int) : List Int := l.mergeSort fun x y => decide (x ≤ y)
theorem sortI_perm (l : List Int) : (sortI l).Perm l := List.mergeSort_perm _ _
theorem sortI_asc (l : List Int) : (sortI l).Pairwise (· ≤ ·) := by
  have := List.pairwise_mergeSort (le := fun x y : Int => decide (x ≤ y)) (fun a b c h1 h2 => by simp only [decide_eq_true_iff] at *; omega) (fun a b => by rw [Bool.or_eq_true, decide_eq_true_iff, decide_eq_true_iff]; omega) l
  exact this.imp fun h => of_decide_eq_true h
def askN (h : Int → Bool) (P : Int → Int) (l : List Int) : List Nat := (sortI (askL h P l)).map Int.toNat
structure AskS (n : Int) (P : Int → Int) (l : List Int) (A : List Nat) : Prop where
  asc : A.Pairwise (· < ·)
  lt : ∀ x ∈ A, (x : Int) < n
  mem : ∀ x ∈ A, (x : Int) ∈ l
  inj : ∀ i j x y : Nat, A[i]? = some x → A[j]? = some y → P x = P y → i = j
  all : ∀ t ∈ l, hasB n t = true → ∃ x ∈ A, P (x : Int) = P t
  ints : A.map (fun x : Nat => (x : Int)) = sortI (askL (hasB n) P l)
theorem askN_is (n : Int) (P : Int → Int) (l : List Int) : AskS n P l (askN (hasB n) P l) := by
  obtain ⟨h1, h2, h3⟩ := ask_is (hasB n) P l
  have hp := sortI_perm (askL (hasB n) P l)
  have hpos : ∀ x ∈ sortI (askL (hasB n) P l), 0 ≤ x ∧ x < n := fun x hx => hasB_iff.1 (h1 x (hp.mem_iff.1 hx)).1
  have hints : (askN (hasB n) P l).map (fun x : Nat => (x : Int)) = sortI (askL (hasB n) P l) := by
    unfold askN
    rw [List.map_map]
    conv => rhs; rw [← List.map_id (sortI (askL (hasB n) P l))]
    refine List.map_congr_left fun x hx => ?_
    have := (hpos x hx).1
    show ((x.toNat : Nat) : Int) = x
    omega
  have hnd : (sortI (askL (hasB n) P l)).Nodup := by
    have : (askL (hasB n) P l).Nodup := (List.nodup_iff_pairwise_ne.2 ((List.pairwise_map.1 (List.nodup_iff_pairwise_ne.1 h2)).imp fun hab e => hab (by rw [e])))
    exact hp.nodup_iff.2 this
  have hndP : ((sortI (askL (hasB n) P l)).map P).Nodup := (hp.map P).nodup_iff.2 h2
  have hmem : ∀ x : Nat, x ∈ askN (hasB n) P l ↔ (x : Int) ∈ sortI (askL (hasB n) P l) := fun x => by
    rw [← hints, List.mem_map]
    exact ⟨fun h => ⟨x, h, rfl⟩, fun ⟨y, hy, e⟩ => by rw [show x = y by omega]; exact hy⟩
  refine ⟨?_, fun x hx => (hpos _ ((hmem x).1 hx)).2, fun x hx => (h1 _ (hp.mem_iff.1 ((hmem x).1 hx))).2, fun i j x y hi hj e => ?_, fun t ht hh => ?_, hints⟩
  · have h4 := (sortI_asc (askL (hasB n) P l)).and (List.nodup_iff_pairwise_ne.1 hnd)
    rw [← hints, List.pairwise_map] at h4
    exact h4.imp fun h => by omega
  · have ei : ((sortI (askL (hasB n) P l)).map P)[i]? = some (P x) := by rw [← hints]; simp [hi]
    have ej : ((sortI (askL (hasB n) P l)).map P)[j]? = some (P x) := by rw [← hints]; simp [hj, e]
    exact (List.getElem?_inj (List.getElem?_eq_some_iff.1 ei).1 hndP).1 (ei.trans ej.symm)
  · obtain ⟨x, hx, e⟩ := List.mem_map.1 (h3 t ht hh)
    have hx2 := hp.mem_iff.2 hx
    have := (hpos x hx2).1
    refine ⟨x.toNat, (hmem _).2 (by rw [show ((x.toNat : Nat) : Int) = x by omega]; exact hx2), by rw [show ((x.toNat : Nat) : Int) = x by omega]; exact e⟩

def numK (P : Int → Int) (A : List Nat) (lo D k q : Nat) : Nat := if (A.take k).any (fun x : Nat => P (x : Int) == ((lo + q : Nat) : Int)) then D + (A.take k).findIdx (fun x : Nat => P (x : Int) == ((lo + q : Nat) : Int)) else q
theorem numK_zero (P : Int → Int) (A : List Nat) (lo D q : Nat) : numK P A lo D 0 q = q := by simp [numK]
theorem numK_step {P : Int → Int} {A : List Nat} (lo D : Nat) {k x : Nat} (hinj : ∀ i j x y : Nat, A[i]? = some x → A[j]? = some y → P x = P y → i = j) (hx : A[k]? = some x) (q : Nat) : numK P A lo D (k + 1) q = if P (x : Int) = ((lo + q : Nat) : Int) then D + k else numK P A lo D k q := by
  have hk := (List.getElem?_eq_some_iff.1 hx).1
  have e : A.take (k + 1) = A.take k ++ [x] := by rw [List.take_add_one, hx]; rfl
  unfold numK
  rw [e, List.any_append, List.findIdx_append]
  by_cases h : P (x : Int) = ((lo + q : Nat) : Int)
  · have hn : (A.take k).any (fun x : Nat => P (x : Int) == ((lo + q : Nat) : Int)) = false := by
      rw [Bool.eq_false_iff]
      intro c
      obtain ⟨y, hy, e2⟩ := List.any_eq_true.1 c
      obtain ⟨t, ht, rfl⟩ := List.mem_take_iff_getElem.1 hy
      have := hinj t k _ x (List.getElem?_eq_getElem (by omega)) hx (by rw [h]; simpa using e2)
      omega
    have hf : (A.take k).findIdx (fun x : Nat => P (x : Int) == ((lo + q : Nat) : Int)) = (A.take k).length := by
      rw [List.findIdx_eq_length]
      intro y hy
      exact List.any_eq_false.1 hn y hy |> Bool.eq_false_iff.2
    rw [hn, hf, if_neg (Nat.lt_irrefl _), if_pos h]
    have : [x].any (fun x : Nat => P (x : Int) == ((lo + q : Nat) : Int)) = true := by simp [h]
    rw [this, Bool.or_true, if_pos rfl]
    simp [h, List.findIdx_cons]
    omega
  · have : [x].any (fun x : Nat => P (x : Int) == ((lo + q : Nat) : Int)) = false := by simpa using h
    rw [this, Bool.or_false, if_neg h]
    by_cases c : (A.take k).any (fun x : Nat => P (x : Int) == ((lo + q : Nat) : Int)) = true
    · rw [if_pos c, if_pos c, if_pos (List.findIdx_lt_length.2 (by obtain ⟨y, hy, e2⟩ := List.any_eq_true.1 c; exact ⟨y, hy, e2⟩))]
    · rw [if_neg c, if_neg c]
theorem numK_hit {P : Int → Int} {A : List Nat} {lo D i x q : Nat} (hinj : ∀ i j x y : Nat, A[i]? = some x → A[j]? = some y → P x = P y → i = j) (hx : A[i]? = some x) (h : P (x : Int) = ((lo + q : Nat) : Int)) : ∀ k, i < k → k ≤ A.length → numK P A lo D k q = D + i := by
  intro k hk hl
  induction k with
  | zero => omega
  | succ k ih =>
    obtain ⟨y, hy⟩ : ∃ y, A[k]? = some y := ⟨A[k], List.getElem?_eq_getElem (by omega)⟩
    rw [numK_step lo D hinj hy q]
    rcases Nat.eq_or_lt_of_le (Nat.le_of_lt_succ hk) with e | e
    · subst e
      rw [hx] at hy
      obtain rfl := Option.some.inj hy
      rw [if_pos h]
    · rw [if_neg (fun c => by have := hinj i k x y hx hy (h.trans c.symm); omega)]
      exact ih e (by omega)
theorem numK_miss {P : Int → Int} {A : List Nat} {lo D q : Nat} (h : ∀ x ∈ A, P (x : Int) ≠ ((lo + q : Nat) : Int)) (k : Nat) : numK P A lo D k q = q := by
  unfold numK
  rw [if_neg]
  intro c
  obtain ⟨y, hy, e2⟩ := List.any_eq_true.1 c
  exact h y (List.mem_of_mem_take hy) (by simpa using e2)
def layE (f : Nat → Nat) (lo hi : Nat) (B : EdN) : EdN := (B.filter fun e => decide (e.2 < hi)).map fun e => (f (e.1 - lo), f (e.2 - lo))
theorem layE_take {f : Nat → Nat} {lo hi : Nat} {B : EdN} {j : Nat} {e : Nat × Nat} (h : B[j]? = some e) : layE f lo hi (B.take (j + 1)) = layE f lo hi (B.take j) ++ if e.2 < hi then [(f (e.1 - lo), f (e.2 - lo))] else [] := by
  unfold layE
  rw [List.take_add_one, h, List.filter_append, List.map_append]
  congr 1
  by_cases c : e.2 < hi
  · simp [c]
  · simp [c]
theorem layE_len (f : Nat → Nat) (lo hi : Nat) (B : EdN) (j : Nat) : (layE f lo hi (B.take j)).length ≤ j := by
  unfold layE
  rw [List.length_map]
  refine Nat.le_trans (List.length_filter_le _ _) ?_
  rw [List.length_take]; omega
theorem walk_map {f : Nat → Nat} {L : EdN} {S : Nat → Prop} (hS : ∀ e ∈ L, S e.1 ∧ S e.2) (hf : ∀ a b, S a → S b → f a = f b → a = b) {u v : Nat} : Walk (EdR (L.map fun e => (f e.1, f e.2))) u v ↔ ∃ a b, S a ∧ S b ∧ f a = u ∧ f b = v ∧ Walk (EdR L) a b := by
  constructor
  · intro h
    have edge : ∀ {u v : Nat}, EdR (L.map fun e => (f e.1, f e.2)) u v → ∃ a b, S a ∧ S b ∧ f a = u ∧ f b = v ∧ EdR L a b := fun {u v} he => by
      obtain ⟨e, hm, e2⟩ := List.mem_map.1 he
      injection e2 with e3 e4
      exact ⟨e.1, e.2, (hS e hm).1, (hS e hm).2, e3, e4, hm⟩
    induction h with
    | one he =>
      obtain ⟨a, b, h1, h2, h3, h4, h5⟩ := edge he
      exact ⟨a, b, h1, h2, h3, h4, .one h5⟩
    | more he _ ih =>
      obtain ⟨a, b, h1, h2, h3, h4, h5⟩ := edge he
      obtain ⟨c, d, g1, g2, g3, g4, g5⟩ := ih
      have := hf b c h2 g1 (h4.trans g3.symm)
      subst this
      exact ⟨a, d, h1, g2, h3, g4, .more h5 g5⟩
  · rintro ⟨a, b, h1, h2, rfl, rfl, h⟩
    clear h1 h2
    induction h with
    | one he => exact .one (List.mem_map.2 ⟨_, he, rfl⟩)
    | more he _ ih => exact .more (List.mem_map.2 ⟨_, he, rfl⟩) ih
end Go.Proofs.YtfpepoebammeoaaGreat
