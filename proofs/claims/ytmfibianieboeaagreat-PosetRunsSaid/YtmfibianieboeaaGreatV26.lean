/- Mathematics that the laws of knots want: knots told by a closure; edges in another order, told twice, turned about. Mathematics of package poset: knots as places in a line, ways from place to place; what is ahead of what, told by ways. Mathematics: how many ways; what is ahead of what, and comparable, as an answer. The contract of the document's Same over ints; literals that are read. -/
import Derived.Test.YtmfibianieboeaaGreatV11
import Derived.Test.YtmfibianieboeaaGreatV25
set_option linter.unusedVariables false
namespace Go.Proofs.YtmfibianieboeaaGreat

def viaB (E : Nat → Nat → Bool) : Nat → Nat → Nat → Bool
  | 0, i, j => E i j
  | k + 1, i, j => viaB E k i j || (viaB E k i k && viaB E k k j)
theorem viaB_iff {E : Nat → Nat → Bool} {R : Nat → Nat → Prop} (h : ∀ a b, E a b = true ↔ R a b) : ∀ k i j, viaB E k i j = true ↔ Via R k i j
  | 0, i, j => h i j
  | k + 1, i, j => by
    unfold viaB Via
    rw [Bool.or_eq_true, Bool.and_eq_true, viaB_iff h k i j, viaB_iff h k i k, viaB_iff h k k j]
def knotB (E : Nat → Nat → Bool) (n x y : Nat) : Bool := x == y || (viaB E n x y && viaB E n y x)
theorem knotB_iff {E : Nat → Nat → Bool} {R : Nat → Nat → Prop} {n : Nat} (h : ∀ a b, E a b = true ↔ R a b) (hR : ∀ a b, R a b → b < n) (x y : Nat) : knotB E n x y = true ↔ Knot R x y := by
  unfold knotB Knot Back
  rw [Bool.or_eq_true, Bool.and_eq_true, beq_iff_eq, viaB_iff h, viaB_iff h, via_iff hR, via_iff hR]
  constructor
  · rintro (h | ⟨h, t⟩)
    · exact ⟨.inl h, .inl h.symm⟩
    · exact ⟨.inr h, .inr t⟩
  · rintro ⟨h | h, t | t⟩
    · exact .inl h
    · exact .inl h
    · exact .inl t.symm
    · exact .inr ⟨h, t⟩
theorem least_of {E : Nat → Nat → Bool} {R : Nat → Nat → Prop} {n : Nat} (h : ∀ a b, E a b = true ↔ R a b) (hR : ∀ a b, R a b → b < n) {x k : Nat} (h1 : knotB E n x k = true) (h2 : ∀ b, b < k → knotB E n x b = false) : LeastK R x k := by
  refine ⟨(knotB_iff h hR x k).1 h1, fun b hb => ?_⟩
  rcases Nat.lt_or_ge b k with hlt | hge
  · have := (knotB_iff h hR x b).2 hb
    rw [h2 b hlt] at this
    cases this
  · exact hge
def edB (es : List (Nat × Nat)) (a b : Nat) : Bool := es.contains (a, b)
theorem edB_iff (es : List (Nat × Nat)) (a b : Nat) : edB es a b = true ↔ EdR es a b := by simp [edB, EdR]

def ansL (ks : Nat → Nat) (n : Nat) : List Nat := (List.range n).map ks
theorem ansL_congr {f g : Nat → Nat} {n : Nat} (h : ∀ x, x < n → f x = g x) : ansL f n = ansL g n := List.map_congr_left fun x hx => h x (List.mem_range.1 hx)
theorem ans_unique {R S : Nat → Nat → Prop} {f g : Nat → Nat} {n : Nat} (h : ∀ x y, Knot R x y ↔ Knot S x y) (hf : ∀ x, x < n → LeastK R x (f x)) (hg : ∀ x, x < n → LeastK S x (g x)) : ansL f n = ansL g n :=
  ansL_congr fun x hx => (hf x hx).unique ⟨(h _ _).2 (hg x hx).1, fun b hb => (hg x hx).2 b ((h _ _).1 hb)⟩
theorem walk_mono {R S : Nat → Nat → Prop} (h : ∀ a b, R a b → S a b) {a b : Nat} (hw : Walk R a b) : Walk S a b := by
  induction hw with
  | one he => exact .one (h _ _ he)
  | more he _ ih => exact .more (h _ _ he) ih
theorem walk_turn {R S : Nat → Nat → Prop} (h : ∀ a b, R a b → S b a) {a b : Nat} (hw : Walk R a b) : Walk S b a := by
  induction hw with
  | one he => exact .one (h _ _ he)
  | more he _ ih => exact ih.trans (.one (h _ _ he))
theorem knot_same {R S : Nat → Nat → Prop} (h : ∀ a b, R a b ↔ S a b) (x y : Nat) : Knot R x y ↔ Knot S x y := by
  have : R = S := by funext a b; exact propext (h a b)
  rw [this]
theorem knot_turn {R S : Nat → Nat → Prop} (h : ∀ a b, R a b ↔ S b a) (x y : Nat) : Knot R x y ↔ Knot S x y := by
  have back1 : ∀ {a b}, Back R a b → Back S b a := fun hb => by
    rcases hb with rfl | hb
    · exact .inl rfl
    · exact .inr (walk_turn (fun a b hr => (h a b).1 hr) hb)
  have back2 : ∀ {a b}, Back S a b → Back R b a := fun hb => by
    rcases hb with rfl | hb
    · exact .inl rfl
    · exact .inr (walk_turn (fun a b hr => (h b a).2 hr) hb)
  exact ⟨fun hk => ⟨back1 hk.2, back1 hk.1⟩, fun hk => ⟨back2 hk.2, back2 hk.1⟩⟩
theorem canB_same {es fs : List (Nat × Nat)} (h : ∀ e, e ∈ es ↔ e ∈ fs) (told : List Int) (u : Nat) : canB (needE es) told u = canB (needE fs) told u := by
  rw [Bool.eq_iff_iff, canB_iff, canB_iff]
  constructor
  · rintro ⟨a, b⟩; exact ⟨a, fun e he => b e ((h e).2 he)⟩
  · rintro ⟨a, b⟩; exact ⟨a, fun e he => b e ((h e).1 he)⟩
theorem next_same {es fs : List (Nat × Nat)} (h : ∀ e, e ∈ es ↔ e ∈ fs) (n : Nat) (told : List Int) : nextK (needE es) n told = nextK (needE fs) n told := by
  unfold nextK
  congr 1
  funext u
  exact canB_same h told u
theorem reach_same {es fs : List (Nat × Nat)} (h : ∀ e, e ∈ es ↔ e ∈ fs) {n : Nat} {told : List Int} (hr : ReachK (needE es) n told) : ReachK (needE fs) n told := by
  induction hr with
  | nil => exact .nil
  | step _ hu ih => exact .step ih (by rw [← next_same h]; exact hu)
theorem sort_same {es fs : List (Nat × Nat)} (h : ∀ e, e ∈ es ↔ e ∈ fs) {n : Nat} {out : List Int} {ok : Bool} (hs : SortR n es out ok) : SortR n fs out ok := by
  rcases hs with ⟨h1, h2, h3⟩ | ⟨h1, h2, h3⟩
  · exact .inl ⟨h1, reach_same h h2, h3⟩
  · exact .inr ⟨h1, h2, fun told ht => h3 told (reach_same (fun e => (h e).symm) ht)⟩
end Go.Proofs.YtmfibianieboeaaGreat
set_option linter.unusedVariables false
namespace Go.Proofs.YtmfibianieboeaaGreat

abbrev EdN := List (Nat × Nat)
def thrE (f : Nat → Nat) (es : EdN) : EdN := (es.map fun e => (f e.1, f e.2)).filter fun e => e.1 != e.2
theorem mem_thrE {f : Nat → Nat} {es : EdN} {a b : Nat} : (a, b) ∈ thrE f es ↔ a ≠ b ∧ ∃ e ∈ es, f e.1 = a ∧ f e.2 = b := by
  unfold thrE
  rw [List.mem_filter, List.mem_map, bne_iff_ne]
  constructor
  · rintro ⟨⟨e, he, e1⟩, hn⟩
    injection e1 with e1 e2
    exact ⟨hn, e, he, e1, e2⟩
  · rintro ⟨hn, e, he, e1, e2⟩
    exact ⟨⟨e, he, by rw [e1, e2]⟩, hn⟩
theorem same_iff {R : Nat → Nat → Prop} {ls : Nat → Nat} {m : Nat} (h : ∀ x, x < m → LeastK R x (ls x)) {x y : Nat} (hx : x < m) (hy : y < m) : ls x = ls y ↔ Knot R x y := by
  constructor
  · intro e
    have h1 := (h x hx).1
    have h2 := (h y hy).1
    rw [← e] at h2
    exact h1.trans h2.symm
  · intro hk
    refine (h x hx).unique ⟨hk.trans (h y hy).1, fun b hb => (h y hy).2 b (hk.symm.trans hb)⟩
theorem walk_thr {ls : Nat → Nat} {m : Nat} {es : EdN} (hlt : ∀ e ∈ es, e.1 < m ∧ e.2 < m) (h : ∀ x, x < m → LeastK (EdR es) x (ls x)) {a b : Nat} (hw : Walk (EdR (thrE ls es)) a b) : ∃ x y, x < m ∧ y < m ∧ ls x = a ∧ ls y = b ∧ Walk (EdR es) x y := by
  induction hw with
  | one he =>
    obtain ⟨_, e, hm, rfl, rfl⟩ := mem_thrE.1 he
    exact ⟨e.1, e.2, (hlt e hm).1, (hlt e hm).2, rfl, rfl, .one hm⟩
  | more he _ ih =>
    obtain ⟨_, e, hm, rfl, e2⟩ := mem_thrE.1 he
    obtain ⟨x, y, hx, hy, e3, e4, hw⟩ := ih
    refine ⟨e.1, y, (hlt e hm).1, hy, rfl, e4, ?_⟩
    have hk := (same_iff h (hlt e hm).2 hx).1 (e2.trans e3.symm)
    rcases hk.1 with e5 | hb
    · rw [← e5] at hw; exact .more hm hw
    · exact .more hm (hb.trans hw)
theorem thr_noring {ls : Nat → Nat} {m : Nat} {es : EdN} (hlt : ∀ e ∈ es, e.1 < m ∧ e.2 < m) (h : ∀ x, x < m → LeastK (EdR es) x (ls x)) {u : Nat} (hw : Walk (EdR (thrE ls es)) u u) : False := by
  cases hw with
  | one he => exact (mem_thrE.1 he).1 rfl
  | more he t =>
    obtain ⟨hn, e, hm, e1, e2⟩ := mem_thrE.1 he
    obtain ⟨x, y, hx, hy, e3, e4, hw⟩ := walk_thr hlt h t
    have k1 := (same_iff h (hlt e hm).2 hx).1 (e2.trans e3.symm)
    have k2 := (same_iff h hy (hlt e hm).1).1 (e4.trans e1.symm)
    have hk : Knot (EdR es) e.1 e.2 := ⟨.inr (.one hm), k1.1.trans (Back.trans (.inr hw) k2.1)⟩
    have := (same_iff h (hlt e hm).1 (hlt e hm).2).2 hk
    exact hn (by rw [← e1, ← e2]; exact this)
theorem reach_top {need : Int → List Int} {n : Nat} : ∀ (d : Nat) {told : List Int}, ReachK need n told → n - told.length = d → ∃ t, ReachK need n t ∧ nextK need n t = none := by
  intro d
  induction d with
  | zero =>
    intro told h hd
    have := reach_len h
    exact ⟨told, h, reach_full h (by omega)⟩
  | succ d ih =>
    intro told h hd
    cases hn : nextK need n told with
    | none => exact ⟨told, h, hn⟩
    | some u => exact ih (.step h hn) (by simp; omega)
theorem sort_ok {es : EdN} {m : Nat} {out : List Int} {ok : Bool} (hr : ∀ e ∈ es, e.1 < m) (hn : ∀ u, ¬ Walk (EdR es) u u) (hs : SortR m es out ok) : ok = true := by
  rcases hs with ⟨h, _⟩ | ⟨_, _, h⟩
  · exact h
  · obtain ⟨t, ht, hN⟩ := reach_top (n := m) (need := needE es) _ .nil rfl
    obtain ⟨u, _, hw⟩ := stuck_ring hr ht hN (h t ht)
    exact absurd hw (hn u)

def repB (ls : Nat → Nat) (x : Int) : Bool := ls x.toNat == x.toNat
def cntR (ls : Nat → Nat) (out : List Int) (k : Nat) : Nat := (out.take k).countP (repB ls)
theorem cntR_zero (ls : Nat → Nat) (out : List Int) : cntR ls out 0 = 0 := by simp [cntR]
theorem cntR_succ {ls : Nat → Nat} {out : List Int} {k : Nat} {x : Int} (h : out[k]? = some x) : cntR ls out (k + 1) = cntR ls out k + if repB ls x then 1 else 0 := by
  unfold cntR
  rw [List.take_add_one, h, List.countP_append]
  simp [List.countP_cons]
theorem cntR_mono (ls : Nat → Nat) (out : List Int) {i j : Nat} (h : i ≤ j) : cntR ls out i ≤ cntR ls out j := by
  unfold cntR
  have : out.take i = (out.take j).take i := by rw [List.take_take, Nat.min_eq_left h]
  rw [this]
  exact (List.take_sublist _ _).countP_le
theorem cntR_le (ls : Nat → Nat) (out : List Int) (k : Nat) : cntR ls out k ≤ k := Nat.le_trans List.countP_le_length (by rw [List.length_take]; exact Nat.min_le_left _ _)
def atR (ls : Nat → Nat) (out : List Int) (k x : Nat) : Nat := if ls x = x ∧ (x : Int) ∈ out.take k then cntR ls out (out.idxOf (x : Int)) else 0
theorem atR_zero (ls : Nat → Nat) (out : List Int) (x : Nat) : atR ls out 0 x = 0 := by simp [atR]
theorem idxI_at {l : List Int} (hn : l.Nodup) {k : Nat} {x : Int} (h : l[k]? = some x) : l.idxOf x = k := by
  have hm := List.mem_of_getElem? h
  have h2 : l[l.idxOf x]? = some x := by
    rw [List.getElem?_eq_getElem (List.idxOf_lt_length_of_mem hm)]
    exact congrArg some (List.getElem_idxOf _)
  exact nodupI_at hn h2 h
theorem atR_skip {ls : Nat → Nat} {out : List Int} {k x : Nat} (h : out[k]? = some (x : Int)) (hr : ls x ≠ x) (y : Nat) : atR ls out (k + 1) y = atR ls out k y := by
  unfold atR
  rw [List.take_add_one, h]
  by_cases e : y = x
  · subst e
    rw [if_neg (fun c => hr c.1), if_neg (fun c => hr c.1)]
  · have : (y : Int) ∈ out.take k ++ (some (x : Int)).toList ↔ (y : Int) ∈ out.take k := by
      rw [List.mem_append]
      simp
      intro c
      omega
    simp only [this]
theorem atR_take {ls : Nat → Nat} {out : List Int} (hn : out.Nodup) {k x : Nat} (h : out[k]? = some (x : Int)) (hr : ls x = x) (y : Nat) : atR ls out (k + 1) y = if y = x then cntR ls out k else atR ls out k y := by
  unfold atR
  rw [List.take_add_one, h]
  by_cases e : y = x
  · subst e
    rw [if_pos rfl, if_pos ⟨hr, by simp⟩, idxI_at hn h]
  · rw [if_neg e]
    have : (y : Int) ∈ out.take k ++ (some (x : Int)).toList ↔ (y : Int) ∈ out.take k := by
      rw [List.mem_append]
      simp
      intro c
      omega
    simp only [this]

def lexL (a b : Nat × Nat) : Prop := a.1 < b.1 ∨ a.1 = b.1 ∧ a.2 < b.2
structure OrdS (n : Nat) (es : EdN) (T : List Nat) (pl : Nat → Nat) (W : EdN) : Prop where
  tied : Tied n es T
  same : ∀ i j x y, T[i]? = some x → T[j]? = some y → (pl i = pl j ↔ Knot (EdR es) x y)
  lt : ∀ i, i < T.length → pl i < T.length
  sorted : W.Pairwise lexL
  up : ∀ e ∈ W, e.1 < e.2
  way : ∀ p q, (p, q) ∈ W ↔ p ≠ q ∧ ∃ e ∈ es, pl (T.idxOf e.1) = p ∧ pl (T.idxOf e.2) = q
theorem ren_lt {n : Nat} {es : EdN} {T : List Nat} (hT : Tied n es T) : ∀ e ∈ renE T es, e.1 < T.length ∧ e.2 < T.length := by
  intro e he
  obtain ⟨e0, h0, rfl⟩ := List.mem_map.1 he
  exact ⟨List.idxOf_lt_length_of_mem (hT.fst e0 h0), List.idxOf_lt_length_of_mem (hT.snd e0 h0)⟩
theorem ren_knot {n : Nat} {es : EdN} {T : List Nat} (hT : Tied n es T) {i j x y : Nat} (hx : T[i]? = some x) (hy : T[j]? = some y) : Knot (EdR (renE T es)) i j ↔ Knot (EdR es) x y := by
  have ex := hT.idx hx
  have ey := hT.idx hy
  have back : ∀ {i j x y : Nat}, T[i]? = some x → T[j]? = some y → T.idxOf x = i → T.idxOf y = j → (Back (EdR (renE T es)) i j ↔ Back (EdR es) x y) := by
    intro i j x y hx hy ex ey
    constructor
    · rintro (e | h)
      · subst e
        rw [hx] at hy
        exact .inl (Option.some.inj hy)
      · obtain ⟨x', y', h1, h2, h3⟩ := ren_back hT h
        rw [hx] at h1; rw [hy] at h2
        obtain rfl := Option.some.inj h1
        obtain rfl := Option.some.inj h2
        exact .inr h3
    · rintro (e | h)
      · subst e
        exact .inl (ex.symm.trans ey)
      · have := (ren_forth hT h).1
        rw [ex, ey] at this
        exact .inr this
  exact and_congr (back hx hy ex ey) (back hy hx ey ex)
theorem out_at {es : EdN} {m : Nat} {out : List Int} (h : ReachK (needE es) m out) (hl : out.length = m) {v : Nat} (hv : v < m) : out[out.idxOf (v : Int)]? = some (v : Int) := by
  obtain ⟨h1, h2⟩ := reach_tame h
  have hm := full_mem h1 h2 hl hv
  rw [List.getElem?_eq_getElem (List.idxOf_lt_length_of_mem hm)]
  exact congrArg some (List.getElem_idxOf _)
theorem atR_rise {es : EdN} {ls : Nat → Nat} {m : Nat} {out : List Int} (h : ReachK (needE es) m out) (hl : out.length = m) {x y : Nat} (hx : x < m) (hy : y < m) (rx : ls x = x) (ry : ls y = y) (hlt : out.idxOf (x : Int) < out.idxOf (y : Int)) : atR ls out m x < atR ls out m y := by
  obtain ⟨h1, h2⟩ := reach_tame h
  have mx := full_mem h1 h2 hl hx
  have my := full_mem h1 h2 hl hy
  unfold atR
  rw [if_pos ⟨rx, by rw [← hl, List.take_length]; exact mx⟩, if_pos ⟨ry, by rw [← hl, List.take_length]; exact my⟩]
  have hs := cntR_succ (ls := ls) (out_at h hl hx)
  have hr : repB ls (x : Int) = true := by unfold repB; rw [Int.toNat_natCast, rx]; simp
  rw [hr] at hs
  have := cntR_mono ls out (show out.idxOf (x : Int) + 1 ≤ out.idxOf (y : Int) by omega)
  simp at hs
  omega
theorem atR_inj {es : EdN} {ls : Nat → Nat} {m : Nat} {out : List Int} (h : ReachK (needE es) m out) (hl : out.length = m) {x y : Nat} (hx : x < m) (hy : y < m) (rx : ls x = x) (ry : ls y = y) (e : atR ls out m x = atR ls out m y) : x = y := by
  rcases Nat.lt_trichotomy (out.idxOf (x : Int)) (out.idxOf (y : Int)) with hlt | heq | hlt
  · have := atR_rise h hl hx hy rx ry hlt; omega
  · have h1 := out_at h hl hx
    have h2 := out_at h hl hy
    rw [heq, h2] at h1
    have := Option.some.inj h1
    omega
  · have := atR_rise h hl hy hx ry rx hlt; omega
theorem ord_made {n : Nat} {es : EdN} {T : List Nat} (hT : Tied n es T) {ls : Nat → Nat} (hls : ∀ x, x < T.length → LeastK (EdR (renE T es)) x (ls x)) {out : List Int} {ok : Bool} (hs : SortR T.length (thrE ls (renE T es)) out ok) {W : EdN}
    (hW : W.Pairwise lexL) (hm : ∀ e, e ∈ W ↔ e ∈ thrE (atR ls out T.length) (thrE ls (renE T es))) : OrdS n es T (fun i => atR ls out T.length (ls i)) W := by
  have hlt := ren_lt hT
  have hok := sort_ok (fun e he => by
    obtain ⟨a, b⟩ := e
    obtain ⟨_, e0, h0, e1, _⟩ := mem_thrE.1 he
    have h1 := hlt e0 h0
    have := (hls e0.1 h1.1).le
    omega) (fun u hw => thr_noring hlt hls hw) hs
  subst hok
  obtain ⟨hr, hl⟩ : ReachK (needE (thrE ls (renE T es))) T.length out ∧ out.length = T.length := by
    rcases hs with ⟨_, hr, hl⟩ | ⟨h, _⟩
    · exact ⟨hr, hl⟩
    · cases h
  have hle : ∀ x, x < T.length → ls x < T.length := fun x hx => Nat.lt_of_le_of_lt (hls x hx).le hx
  have hid : ∀ x, x < T.length → ls (ls x) = ls x := fun x hx => (same_iff hls (hle x hx) hx).2 (hls x hx).1.symm
  have hinj : ∀ x y, x < T.length → y < T.length → (atR ls out T.length (ls x) = atR ls out T.length (ls y) ↔ ls x = ls y) := fun x y hx hy => ⟨fun e => atR_inj hr hl (hle x hx) (hle y hy) (hid x hx) (hid y hy) e, fun e => by rw [e]⟩
  refine ⟨hT, fun i j x y hi hj => ?_, fun i hi => ?_, hW, fun e he => ?_, fun p q => ?_⟩
  · have hil := (List.getElem?_eq_some_iff.1 hi).1
    have hjl := (List.getElem?_eq_some_iff.1 hj).1
    show atR ls out T.length (ls i) = atR ls out T.length (ls j) ↔ _
    rw [hinj i j hil hjl, same_iff hls hil hjl]
    exact ren_knot hT hi hj
  · show atR ls out T.length (ls i) < T.length
    unfold atR
    split
    · have h1 : out.idxOf ((ls i : Nat) : Int) < out.length := by
        obtain ⟨h1, h2⟩ := reach_tame hr
        exact List.idxOf_lt_length_of_mem (full_mem h1 h2 hl (hle i hi))
      have := cntR_le ls out (out.idxOf ((ls i : Nat) : Int))
      omega
    · omega
  · obtain ⟨p, q⟩ := e
    obtain ⟨hn, ⟨a, b⟩, h1, rfl, rfl⟩ := mem_thrE.1 ((hm _).1 he)
    obtain ⟨hab, e0, h0, rfl, rfl⟩ := mem_thrE.1 h1
    have hl0 := hlt e0 h0
    refine atR_rise hr hl (hle _ hl0.1) (hle _ hl0.2) (hid _ hl0.1) (hid _ hl0.2) ?_
    obtain ⟨j, hj, hjd⟩ := reach_beh hr _ _ (out_at hr hl (hle _ hl0.2)) ((ls e0.1 : Nat) : Int) (mem_needE.2 ⟨_, h1, rfl, rfl⟩)
    have := idxI_at (reach_tame hr).1 hjd
    show out.idxOf ((ls e0.1 : Nat) : Int) < out.idxOf ((ls e0.2 : Nat) : Int)
    omega
  · rw [hm, mem_thrE]
    refine and_congr_right fun hpq => ?_
    constructor
    · rintro ⟨⟨a, b⟩, h1, rfl, rfl⟩
      obtain ⟨hab, e0, h0, rfl, rfl⟩ := mem_thrE.1 h1
      obtain ⟨e1, he1, rfl⟩ := List.mem_map.1 h0
      exact ⟨e1, he1, rfl, rfl⟩
    · rintro ⟨e1, he1, rfl, rfl⟩
      refine ⟨(ls (T.idxOf e1.1), ls (T.idxOf e1.2)), mem_thrE.2 ⟨fun e => hpq (by show atR ls out T.length (ls (T.idxOf e1.1)) = _; rw [e]), (T.idxOf e1.1, T.idxOf e1.2), List.mem_map.2 ⟨e1, he1, rfl⟩, rfl, rfl⟩, rfl, rfl⟩

def AheadK (R : Nat → Nat → Prop) (a b : Nat) : Prop := Walk R a b ∧ ¬ Walk R b a
theorem walk_up {W : EdN} (h : ∀ e ∈ W, e.1 < e.2) {a b : Nat} (hw : Walk (EdR W) a b) : a < b := by
  induction hw with
  | one he => exact h _ he
  | more he _ ih => exact Nat.lt_trans (h _ he) ih
section
variable {n : Nat} {es : EdN} {T : List Nat} {pl : Nat → Nat} {W : EdN}
theorem OrdS.forth (h : OrdS n es T pl W) {x y : Nat} (hw : Walk (EdR es) x y) : x ∈ T ∧ y ∈ T ∧ (pl (T.idxOf x) = pl (T.idxOf y) ∨ Walk (EdR W) (pl (T.idxOf x)) (pl (T.idxOf y))) := by
  have edge : ∀ {a b : Nat}, EdR es a b → a ∈ T ∧ b ∈ T ∧ (pl (T.idxOf a) = pl (T.idxOf b) ∨ EdR W (pl (T.idxOf a)) (pl (T.idxOf b))) := fun {a b} he => by
    refine ⟨h.tied.fst _ he, h.tied.snd _ he, ?_⟩
    by_cases e : pl (T.idxOf a) = pl (T.idxOf b)
    · exact .inl e
    · exact .inr ((h.way _ _).2 ⟨e, _, he, rfl, rfl⟩)
  induction hw with
  | one he =>
    obtain ⟨h1, h2, h3⟩ := edge he
    exact ⟨h1, h2, h3.imp id .one⟩
  | more he _ ih =>
    obtain ⟨h1, h2, h3⟩ := edge he
    obtain ⟨_, i2, i3⟩ := ih
    refine ⟨h1, i2, ?_⟩
    rcases h3 with h3 | h3
    · rw [h3]; exact i3
    · rcases i3 with i3 | i3
      · rw [← i3]; exact .inr (.one h3)
      · exact .inr (.more h3 i3)
theorem OrdS.knot (h : OrdS n es T pl W) {x y : Nat} (hx : x ∈ T) (hy : y ∈ T) : pl (T.idxOf x) = pl (T.idxOf y) ↔ Knot (EdR es) x y := h.same _ _ _ _ (idx_at hx) (idx_at hy)
theorem OrdS.back (h : OrdS n es T pl W) {p q : Nat} (hw : Walk (EdR W) p q) : ∀ {x y : Nat}, x ∈ T → y ∈ T → pl (T.idxOf x) = p → pl (T.idxOf y) = q → Walk (EdR es) x y := by
  have edge : ∀ {p q : Nat}, EdR W p q → ∃ a b, EdR es a b ∧ pl (T.idxOf a) = p ∧ pl (T.idxOf b) = q := fun {p q} he => by
    obtain ⟨_, e, hm, h1, h2⟩ := (h.way _ _).1 he
    exact ⟨e.1, e.2, hm, h1, h2⟩
  induction hw with
  | one he =>
    intro x y hx hy e1 e2
    obtain ⟨a, b, hab, h1, h2⟩ := edge he
    have k1 := (h.knot hx (h.tied.fst _ hab)).1 (e1.trans h1.symm)
    have k2 := (h.knot (h.tied.snd _ hab) hy).1 (h2.trans e2.symm)
    have hw := (Walk.one hab).back k2.1
    rcases k1.1 with e | hb
    · rw [e]; exact hw
    · exact hb.trans hw
  | more he _ ih =>
    intro x y hx hy e1 e2
    obtain ⟨a, b, hab, h1, h2⟩ := edge he
    have k1 := (h.knot hx (h.tied.fst _ hab)).1 (e1.trans h1.symm)
    have hw := Walk.more hab (ih (h.tied.snd _ hab) hy h2 e2)
    rcases k1.1 with e | hb
    · rw [e]; exact hw
    · exact hb.trans hw
theorem OrdS.ahead (h : OrdS n es T pl W) {x y : Nat} : AheadK (EdR es) x y ↔ x ∈ T ∧ y ∈ T ∧ Walk (EdR W) (pl (T.idxOf x)) (pl (T.idxOf y)) := by
  constructor
  · rintro ⟨h1, h2⟩
    obtain ⟨hx, hy, h3⟩ := h.forth h1
    refine ⟨hx, hy, h3.resolve_left fun e => ?_⟩
    rcases ((h.knot hx hy).1 e).2 with e | hb
    · subst e; exact h2 h1
    · exact h2 hb
  · rintro ⟨hx, hy, hw⟩
    refine ⟨h.back hw hx hy rfl rfl, fun hb => ?_⟩
    have hu := walk_up h.up hw
    rcases (h.forth hb).2.2 with e | hb
    · omega
    · have := walk_up h.up hb; omega
end
theorem walk_last {L : EdN} {e : Nat × Nat} (h1 : ∀ f ∈ L, f.1 ≤ e.1) (h2 : e.1 < e.2) {a p : Nat} : Walk (EdR (L ++ [e])) a p ↔ Walk (EdR L) a p ∨ (p = e.2 ∧ (a = e.1 ∨ Walk (EdR L) a e.1)) := by
  have up : ∀ {x y : Nat}, EdR L x y → EdR (L ++ [e]) x y := fun h => List.mem_append.2 (.inl h)
  have none : ∀ {y : Nat}, ¬ Walk (EdR L) e.2 y := fun {y} h => by
    cases h with
    | one he => have := h1 _ he; simp only at this; omega
    | more he _ => have := h1 _ he; simp only at this; omega
  constructor
  · intro h
    induction h with
    | @one a b he =>
      rcases List.mem_append.1 he with he | he
      · exact .inl (.one he)
      · have := List.mem_singleton.1 he
        subst this
        exact .inr ⟨rfl, .inl rfl⟩
    | @more a b c he _ ih =>
      rcases List.mem_append.1 he with he | he
      · rcases ih with ih | ⟨rfl, rfl | ih⟩
        · exact .inl (.more he ih)
        · exact .inr ⟨rfl, .inr (.one he)⟩
        · exact .inr ⟨rfl, .inr (.more he ih)⟩
      · have := List.mem_singleton.1 he
        subst this
        rcases ih with ih | ⟨_, ih | ih⟩
        · exact absurd ih none
        · simp only at ih h2; omega
        · exact absurd ih none
  · rintro (h | ⟨rfl, rfl | h⟩)
    · exact walk_mono (fun a b h => up h) h
    · exact .one (List.mem_append.2 (.inr (List.mem_singleton.2 rfl)))
    · exact (walk_mono (fun a b h => up h) h).trans (.one (List.mem_append.2 (.inr (List.mem_singleton.2 rfl))))
def betw (W : EdN) (lo hi : Nat) : EdN := W.filter fun e => decide (lo ≤ e.1) && decide (e.1 < hi)
theorem walk_betw {W : EdN} (h : ∀ e ∈ W, e.1 < e.2) {lo hi a b : Nat} (hl : lo ≤ a) (hh : b ≤ hi) : Walk (EdR (betw W lo hi)) a b ↔ Walk (EdR W) a b := by
  constructor
  · exact walk_mono fun a b h => (List.mem_filter.1 h).1
  · intro hw
    induction hw with
    | one he => exact .one (List.mem_filter.2 ⟨he, by have := h _ he; simp only at this; simp; omega⟩)
    | more he t ih =>
      have h1 := h _ he
      have h2 := walk_up h t
      simp only at h1
      exact .more (List.mem_filter.2 ⟨he, by simp; omega⟩) (ih (by omega) hh)
end Go.Proofs.YtmfibianieboeaaGreat
set_option linter.unusedVariables false
namespace Go.Proofs.YtmfibianieboeaaGreat

theorem nodup_subN {α : Type} [DecidableEq α] : ∀ {a b : List α}, a.Nodup → (∀ x ∈ a, x ∈ b) → a.length ≤ b.length
  | [], _, _, _ => Nat.zero_le _
  | x :: a, b, hn, hs => by
    obtain ⟨h1, h2⟩ := List.nodup_cons.1 hn
    have hx := hs x List.mem_cons_self
    have := nodup_subN (a := a) (b := b.erase x) h2 fun y hy => (List.mem_erase_of_ne (fun e => h1 (by rw [e] at hy; exact hy))).2 (hs y (List.mem_cons_of_mem _ hy))
    rw [List.length_erase_of_mem hx] at this
    have hp := List.length_pos_of_mem hx
    simp only [List.length_cons]
    omega
theorem lex_nodup {W : EdN} (h : W.Pairwise lexL) : W.Nodup := h.imp fun {a b} hab e => by subst e; unfold lexL at hab; omega
theorem OrdS.wlen {n : Nat} {es : EdN} {T : List Nat} {pl : Nat → Nat} {W : EdN} (h : OrdS n es T pl W) : W.length ≤ es.length := by
  have := nodup_subN (lex_nodup h.sorted) (b := es.map fun e => (pl (T.idxOf e.1), pl (T.idxOf e.2))) fun x hx => by
    obtain ⟨p, q⟩ := x
    obtain ⟨_, e, he, h1, h2⟩ := (h.way p q).1 hx
    exact List.mem_map.2 ⟨e, he, by rw [h1, h2]⟩
  simpa using this
def hasB (n t : Int) : Bool := decide (0 ≤ t) && decide (t < n)
theorem hasB_iff {n t : Int} : hasB n t = true ↔ 0 ≤ t ∧ t < n := by simp [hasB]
noncomputable def ahB (n : Int) (es : EdN) (a b : Int) : Bool := open Classical in hasB n a && hasB n b && decide (AheadK (EdR es) a.toNat b.toNat)
noncomputable def cpB (n : Int) (es : EdN) (a b : Int) : Bool := open Classical in hasB n a && hasB n b && decide (Knot (EdR es) a.toNat b.toNat ∨ AheadK (EdR es) a.toNat b.toNat ∨ AheadK (EdR es) b.toNat a.toNat)
theorem ahB_iff {n : Int} {es : EdN} {a b : Int} : ahB n es a b = true ↔ 0 ≤ a ∧ a < n ∧ 0 ≤ b ∧ b < n ∧ AheadK (EdR es) a.toNat b.toNat := by
  classical
  unfold ahB
  rw [Bool.and_eq_true, Bool.and_eq_true, hasB_iff, hasB_iff, decide_eq_true_iff]
  constructor
  · rintro ⟨⟨⟨a, b⟩, c, d⟩, e⟩; exact ⟨a, b, c, d, e⟩
  · rintro ⟨a, b, c, d, e⟩; exact ⟨⟨⟨a, b⟩, c, d⟩, e⟩
theorem cpB_iff {n : Int} {es : EdN} {a b : Int} : cpB n es a b = true ↔ 0 ≤ a ∧ a < n ∧ 0 ≤ b ∧ b < n ∧ (Knot (EdR es) a.toNat b.toNat ∨ AheadK (EdR es) a.toNat b.toNat ∨ AheadK (EdR es) b.toNat a.toNat) := by
  classical
  unfold cpB
  rw [Bool.and_eq_true, Bool.and_eq_true, hasB_iff, hasB_iff, decide_eq_true_iff]
  constructor
  · rintro ⟨⟨⟨a, b⟩, c, d⟩, e⟩; exact ⟨a, b, c, d, e⟩
  · rintro ⟨a, b, c, d, e⟩; exact ⟨⟨⟨a, b⟩, c, d⟩, e⟩
theorem ah_out {n : Int} {es : EdN} {a b : Int} (h : hasB n a = false ∨ hasB n b = false) : ahB n es a b = false := by
  unfold ahB
  rcases h with h | h <;> simp [h]
theorem cp_out {n : Int} {es : EdN} {a b : Int} (h : hasB n a = false ∨ hasB n b = false) : cpB n es a b = false := by
  unfold cpB
  rcases h with h | h <;> simp [h]
theorem ahead_trans {R : Nat → Nat → Prop} {a b c : Nat} (h : AheadK R a b) (t : AheadK R b c) : AheadK R a c := ⟨h.1.trans t.1, fun hb => t.2 (hb.trans h.1)⟩
theorem ahead_irr {R : Nat → Nat → Prop} {a : Nat} (h : AheadK R a a) : False := h.2 h.1
noncomputable def metF (B : EdN) (lo j x : Nat) : Bool := open Classical in decide (x = 0 ∨ Walk (EdR (B.take j)) lo (lo + x))
theorem metF_iff {B : EdN} {lo j x : Nat} : metF B lo j x = true ↔ x = 0 ∨ Walk (EdR (B.take j)) lo (lo + x) := by
  classical
  unfold metF
  rw [decide_eq_true_iff]
theorem metF_first (B : EdN) (lo x : Nat) : metF B lo 0 x = (x == 0) := by
  rw [Bool.eq_iff_iff, metF_iff, beq_iff_eq, List.take_zero]
  constructor
  · rintro (h | h)
    · exact h
    · cases h with
      | one he => cases he
      | more he _ => cases he
  · exact .inl
theorem metF_step {B : EdN} {lo j : Nat} {e : Nat × Nat} (hs : B.Pairwise lexL) (hu : ∀ e ∈ B, e.1 < e.2) (h : B[j]? = some e) (hlo : lo ≤ e.1) (x : Nat) : metF B lo (j + 1) x = if lo + x = e.2 ∧ metF B lo j (e.1 - lo) = true then true else metF B lo j x := by
  have hl : ∀ f ∈ B.take j, f.1 ≤ e.1 := fun f hf => by
    obtain ⟨t, ht, rfl⟩ := List.mem_take_iff_getElem.1 hf
    have hj := (List.getElem?_eq_some_iff.1 h).1
    have := List.pairwise_iff_getElem.1 hs t j (by omega) hj (by omega)
    rw [(List.getElem?_eq_some_iff.1 h).2] at this
    unfold lexL at this
    omega
  have he := hu e (List.mem_of_getElem? h)
  have e1 : lo + (e.1 - lo) = e.1 := by omega
  have key : metF B lo (j + 1) x = true ↔ metF B lo j x = true ∨ (lo + x = e.2 ∧ metF B lo j (e.1 - lo) = true) := by
    rw [metF_iff, metF_iff, metF_iff, e1, List.take_add_one, h]
    show x = 0 ∨ Walk (EdR (B.take j ++ [e])) lo (lo + x) ↔ _
    rw [walk_last hl he]
    constructor
    · rintro (h | h | ⟨h1, h2 | h2⟩)
      · exact .inl (.inl h)
      · exact .inl (.inr h)
      · exact .inr ⟨h1, .inl (by omega)⟩
      · exact .inr ⟨h1, .inr h2⟩
    · rintro ((h | h) | ⟨h1, h2 | h2⟩)
      · exact .inl h
      · exact .inr (.inl h)
      · exact .inr (.inr ⟨h1, .inl (by omega)⟩)
      · exact .inr (.inr ⟨h1, .inr h2⟩)
  by_cases c : lo + x = e.2 ∧ metF B lo j (e.1 - lo) = true
  · rw [if_pos c]; exact key.2 (.inr c)
  · rw [if_neg c, Bool.eq_iff_iff, key]
    exact ⟨fun h => h.resolve_right c, .inl⟩
end Go.Proofs.YtmfibianieboeaaGreat
set_option linter.unusedVariables false
namespace Go.Proofs.YtmfibianieboeaaGreat
open Go.ChangeShapes Go.WideShapes Go.ChangeAt Go.RowKit

theorem RI.ofBk {B n : Nat} {w : World} {v : Value} {ks : Nat → Nat} (h : Row 1 B w v n (bkv ks n)) : RI w v (nl (ansL ks n)) := by
  have e : bkv ks n = iv (nl (ansL ks n)) := by
    unfold bkv iv nl ansL
    rw [List.map_map, List.map_map]
    rfl
  have hl : (nl (ansL ks n)).length = n := by simp [ansL]
  refine RI.ofRow (B := B) ?_
  rw [hl, ← e]
  exact h
theorem belowD (w : World) (d : Nat) : Below w.heap.size w (w.drewN d) := Below.drewN (Below.refl _ _)
set_option maxHeartbeats 1000000 in
theorem sameI_any (a b : List Int) (va vb : Value) (w : World) (ha : RI w va a) (hb : RI w vb b) (hl : a.length ≤ 1000000) (hl2 : b.length ≤ 1000000) :
    Calls Tryz.prog 34 #[va, vb] w fun e w' => e = .returned (.bool (decide (a = b))) ∧ Below w.heap.size w w' := by
  obtain ⟨aa, ac, rfl⟩ := ha.form
  obtain ⟨ba, bc, rfl⟩ := hb.form
  obtain ⟨n, hn⟩ : ∃ n, n = a.length := ⟨_, rfl⟩
  obtain ⟨k, hk⟩ : ∃ k, k = b.length := ⟨_, rfl⟩
  rw [← hn] at ha hl ⊢
  rw [← hk] at hb hl2 ⊢
  have HA := Lib.hid ha
  have HB := Lib.hid hb
  have HN := Lib.hid hn
  have HK := Lib.hid hk
  clear ha hb hn hk
  by_cases hnk : n = k
  · subst hnk
    go_enter Tryz.func34, Tryz.ntmps34
    go_wp2_with fail
    go_loopw [5] (fun jv wr => ∃ j : Nat, jv = .int .i64 (j : Nat) ∧ j ≤ n ∧ Hid (a.take j = b.take j) ∧ ∃ d, wr = w.drewN d) (fun jv _ => n - (intOf jv).toNat)
    case atStart => exact ⟨0, rfl, Nat.zero_le _, Lib.hid (by simp), 0, rfl⟩
    case round =>
      obtain ⟨j, rfl, hjn, HT, d, rfl⟩ := hrel
      by_cases hlt : j < n
      · obtain ⟨x, hx⟩ : ∃ x, a[j]? = some x := ⟨a[j]'(by rw [← HN.out]; exact hlt), by simp⟩
        obtain ⟨y, hy⟩ : ∃ y, b[j]? = some y := ⟨b[j]'(by rw [← HK.out]; exact hlt), by simp⟩
        obtain ⟨xb, xo, rfl, _, hxc1, hxc2, cx⟩ := HA.out.at hx
        obtain ⟨yb, yo, rfl, _, hyc1, hyc2, cy⟩ := HB.out.at hy
        have cx' : (w.drewN d).cell? ⟨xb, xo + j, none⟩ = some (.int .i64 x) := cx
        have cy' : (w.drewN d).cell? ⟨yb, yo + j, none⟩ = some (.int .i64 y) := cy
        unfold maxLen at hxc2 hyc2
        have HX := Lib.hid hx
        have HY := Lib.hid hy
        clear hx hy
        by_cases he : x = y
        · subst he
          have HT2 : Hid (a.take (j + 1) = b.take (j + 1)) := Lib.hid (by rw [List.take_add_one, List.take_add_one, HX.out, HY.out, HT.out])
          go_wp2_with fail
          go_quiet (fail)
          go_wp2_with fail
          exact ⟨⟨j + 1, by go_num, by omega, HT2, _, rfl⟩, by simp [intOf]; omega⟩
        · have hne : (x == y) = false := by rw [beq_eq_false_iff_ne]; exact he
          have HF : Hid (decide (a = b) = false) := Lib.hid (decide_eq_false (fun e => he (by
            have := HX.out
            rw [e, HY.out] at this
            exact (Option.some.inj this).symm)))
          go_wp2_with fail
          go_quiet (fail)
          go_wp2_with fail
          go_ret
          exact ⟨by rw [HF.out]; rfl, Below.drewN (belowD w _)⟩
      · have hje : n = j := by omega
        have HF : Hid (decide (a = b) = true) := Lib.hid (decide_eq_true (by
          have h := HT.out
          rw [List.take_of_length_le (by rw [← HN.out]; omega), List.take_of_length_le (by rw [← HK.out]; omega)] at h
          exact h))
        subst hje
        go_wp2_with fail
        go_ret
        exact ⟨by rw [HF.out]; rfl, belowD w _⟩
  · have hne : ((n : Int) == (k : Int)) = false := by rw [beq_eq_false_iff_ne]; omega
    have HF : Hid (decide (a = b) = false) := Lib.hid (decide_eq_false (fun e => hnk (by rw [HN.out, HK.out, e])))
    have hnk2 : ¬ (n : Int) = (k : Int) := by omega
    go_enter Tryz.func34, Tryz.ntmps34
    go_wp2_with fail
    go_ret
    exact ⟨by rw [HF.out]; rfl, Below.refl _ _⟩

theorem re_lit {w : World} {t : TypeId} (es : Ed) (c : Nat) (hc : c = es.length) (h0 : es ≠ []) (hm : c ≤ maxLen) : RE (w.alloc (.cells (evs es).toArray t)) (.slice (some ⟨w.heap.size, 0, none⟩) c c) es := by
  subst hc
  refine .inr ⟨h0, w.heap.size, 0, es.length, rfl, Nat.le_refl _, hm, by simp, fun j e he => ?_⟩
  obtain ⟨h1, h2⟩ := evs_at he
  rw [Nat.zero_add]
  constructor
  · rw [World.cell?_alloc_at _ _ _ _ rfl]
    simpa using h1
  · rw [World.cell?_alloc_at _ _ _ _ rfl]
    simpa using h2
theorem ri_lit {w : World} {t : TypeId} (l : List Int) (c : Nat) (hc : c = l.length) (h0 : l ≠ []) (hm : c ≤ maxLen) : RI (w.alloc (.cells (iv l).toArray t)) (.slice (some ⟨w.heap.size, 0, none⟩) c c) l := by
  subst hc
  refine .inr ⟨h0, w.heap.size, 0, l.length, rfl, Nat.le_refl _, hm, by simp, fun j x hx => ?_⟩
  rw [Nat.zero_add, World.cell?_alloc_at _ _ _ _ rfl]
  simp [iv, hx]

theorem aw_sort {out : List Int} {ok : Bool} (h : SortR 3 [(2, 0)] out ok) : out = [1, 2, 0] ∧ ok = true := by
  refine h.unique (b := [1, 2, 0]) (y := true) (.inl ⟨rfl, ?_, rfl⟩)
  have r0 : ReachK (needE [(2, 0)]) 3 [] := .nil
  have r1 : ReachK (needE [(2, 0)]) 3 [1] := ReachK.step (u := 1) r0 (by decide +kernel)
  have r2 : ReachK (needE [(2, 0)]) 3 [1, 2] := ReachK.step (u := 2) r1 (by decide +kernel)
  exact ReachK.step (u := 0) r2 (by decide +kernel)
theorem aw_knots {ks : Nat → Nat} (h : ∀ x, x < 4 → LeastK (EdR [(0, 1), (1, 2), (2, 1), (2, 3)]) x (ks x)) : nl (ansL ks 4) = [0, 1, 1, 3] := by
  have hR : ∀ a b, EdR [(0, 1), (1, 2), (2, 1), (2, 3)] a b → b < 4 := by
    intro a b h
    simp [EdR] at h
    omega
  have key : ∀ x k, knotB (edB [(0, 1), (1, 2), (2, 1), (2, 3)]) 4 x k = true → (∀ b, b < k → knotB (edB [(0, 1), (1, 2), (2, 1), (2, 3)]) 4 x b = false) → LeastK (EdR [(0, 1), (1, 2), (2, 1), (2, 3)]) x k := fun x k h1 h2 => least_of (edB_iff _) hR h1 h2
  have e0 : ks 0 = 0 := (h 0 (by omega)).unique (key 0 0 (by decide +kernel) (by decide +kernel))
  have e1 : ks 1 = 1 := (h 1 (by omega)).unique (key 1 1 (by decide +kernel) (by decide +kernel))
  have e2 : ks 2 = 1 := (h 2 (by omega)).unique (key 2 1 (by decide +kernel) (by decide +kernel))
  have e3 : ks 3 = 3 := (h 3 (by omega)).unique (key 3 3 (by decide +kernel) (by decide +kernel))
  have : ansL ks 4 = [ks 0, ks 1, ks 2, ks 3] := rfl
  rw [this, e0, e1, e2, e3]
  rfl

end Go.Proofs.YtmfibianieboeaaGreat
