/-   Mathematics: walks along edges, knots; the hunt for knots, its state and what holds of it. Mathematics: how long the hunt takes; the document's closure; things that all come from others make a ring. Mathematics: the order of things, told by those that edges tie, and the others put among them. -/
import Derived.Test.YtmfibianieboeaaGreatV0
/- What the order of places reaches, from nothing told on: each place once, the end is one. -/
set_option linter.unusedVariables false
namespace Go.Proofs.YtmfibianieboeaaGreat

inductive ReachK (need : Int → List Int) (n : Nat) : List Int → Prop
  | nil : ReachK need n []
  | step {told : List Int} {u : Nat} (h : ReachK need n told) (hu : nextK need n told = some u) : ReachK need n (told ++ [(u : Int)])
theorem next_lt {need : Int → List Int} {n u : Nat} {told : List Int} (h : nextK need n told = some u) : u < n ∧ canB need told u = true := ⟨List.mem_range.1 (List.mem_of_find?_eq_some h), List.find?_some h⟩
theorem can_fresh {need : Int → List Int} {u : Nat} {told : List Int} (h : canB need told u = true) : (u : Int) ∉ told := by
  intro hm
  unfold canB at h
  simp [hm] at h
theorem reach_tame {need : Int → List Int} {n : Nat} {told : List Int} (h : ReachK need n told) : told.Nodup ∧ ∀ x ∈ told, ∃ u : Nat, u < n ∧ x = (u : Int) := by
  induction h with
  | nil => exact ⟨List.nodup_nil, fun x hx => by cases hx⟩
  | step h hu ih =>
    obtain ⟨h1, h2⟩ := next_lt hu
    constructor
    · rw [List.nodup_append]
      refine ⟨ih.1, by simp, ?_⟩
      intro a ha b hb e
      obtain rfl := List.mem_singleton.1 hb
      subst e
      exact can_fresh h2 ha
    · intro x hx
      rcases List.mem_append.1 hx with hx | hx
      · exact ih.2 x hx
      · exact ⟨_, h1, List.mem_singleton.1 hx⟩
theorem nodup_len : ∀ {n : Nat} {l : List Int}, l.Nodup → (∀ x ∈ l, ∃ u : Nat, u < n ∧ x = (u : Int)) → l.length ≤ n := by
  intro n
  induction n with
  | zero =>
    intro l _ hb
    cases l with
    | nil => exact Nat.le_refl _
    | cons x l =>
      obtain ⟨u, hu, _⟩ := hb x (by simp)
      exact absurd hu (Nat.not_lt_zero _)
  | succ n ih =>
    intro l hd hb
    have h1 := ih (hd.erase (n : Int)) fun x hx => by
      obtain ⟨hne, hm⟩ := (List.Nodup.mem_erase_iff hd).1 hx
      obtain ⟨u, hu, rfl⟩ := hb x hm
      exact ⟨u, by omega, rfl⟩
    have h2 := List.length_erase (a := (n : Int)) (l := l)
    split at h2 <;> omega
theorem reach_len {need : Int → List Int} {n : Nat} {told : List Int} (h : ReachK need n told) : told.length ≤ n := nodup_len (reach_tame h).1 (reach_tame h).2
theorem reach_full {need : Int → List Int} {n : Nat} {told : List Int} (h : ReachK need n told) (hl : told.length = n) : nextK need n told = none := by
  cases hn : nextK need n told with
  | none => rfl
  | some u =>
    have := reach_len (ReachK.step h hn)
    rw [List.length_append, hl, List.length_singleton] at this
    omega
theorem reach_total {need : Int → List Int} {n : Nat} {a b : List Int} (ha : ReachK need n a) (hb : ReachK need n b) : a <+: b ∨ b <+: a := by
  induction ha generalizing b with
  | nil => exact .inl (List.nil_prefix)
  | step h hu ih =>
    rename_i told u
    rcases ih hb with hp | hp
    · obtain ⟨t, rfl⟩ := hp
      cases t with
      | nil => right; rw [List.append_nil]; exact List.prefix_append _ _
      | cons x t =>
        left
        have key : ∀ {c : List Int}, ReachK need n c → ∀ y s, c = told ++ y :: s → y = (u : Int) := by
          intro c hc
          induction hc with
          | nil => intro y s e; simp at e
          | step h2 hu2 ih2 =>
            rename_i told2 u2
            intro y s e
            rcases List.eq_nil_or_concat s with rfl | ⟨s', z, rfl⟩
            · have e1 : told2 = told := by
                have := List.append_inj' e rfl
                exact this.1
              have e2 : (u2 : Int) = y := by
                have := List.append_inj' e rfl
                simpa using this.2
              subst e1
              rw [hu] at hu2
              injection hu2 with hu3
              rw [← e2, hu3]
            · refine ih2 y s' ?_
              have : told2 ++ [(u2 : Int)] = (told ++ y :: s') ++ [z] := by rw [e]; simp
              exact (List.append_inj' this rfl).1
        rw [key hb x t rfl]
        exact ⟨t, by simp⟩
    · right
      exact hp.trans (List.prefix_append _ _)
theorem reach_end {need : Int → List Int} {n : Nat} {a b : List Int} (ha : ReachK need n a) (hb : ReachK need n b) (ea : nextK need n a = none) (eb : nextK need n b = none) : a = b := by
  have key : ∀ {c d : List Int}, ReachK need n c → ReachK need n d → nextK need n c = none → c <+: d → c = d := by
    intro c d hc hd ec hp
    induction hd with
    | nil => exact List.prefix_nil.1 hp
    | step h hu ih =>
      rename_i told u
      rcases List.prefix_concat_iff.1 hp with e | hp
      · exact e
      · have e := ih hp
        subst e
        rw [ec] at hu
        cases hu
  rcases reach_total ha hb with hp | hp
  · exact key ha hb ea hp
  · exact (key hb ha eb hp).symm
end Go.Proofs.YtmfibianieboeaaGreat
/- Behind one that is told: its users wait for one less each; whose waiting that ends is pushed. One round of that loop. -/
set_option linter.unusedVariables false
namespace Go.Proofs.YtmfibianieboeaaGreat

def Lowered (n : Nat) (W0 us : List Int) (j : Nat) (W r1 r : List Int) : Prop := W.length = n ∧ ∀ u : Nat, u < n → W.getD u 0 = W0.getD u 0 - ((us.take j).count (u : Int) : Nat) ∧ r.count (u : Int) = r1.count (u : Int) + if 0 < W0.getD u 0 ∧ W.getD u 0 = 0 then 1 else 0
theorem lowered_begin {n : Nat} {W0 us r1 : List Int} (h : W0.length = n) : Lowered n W0 us 0 W0 r1 r1 := by
  refine ⟨h, fun u hu => ?_⟩
  rw [if_neg (by omega)]
  simp
theorem count_take_le {us : List Int} {j : Nat} {x : Int} : (us.take j).count x ≤ us.count x := (List.take_sublist j us).count_le x
theorem take_count {us : List Int} {j : Nat} (hj : j < us.length) (x : Int) : (us.take (j + 1)).count x = (us.take j).count x + if us[j] = x then 1 else 0 := by
  rw [List.take_add_one, List.getElem?_eq_getElem hj, List.count_append]
  by_cases h : us[j] = x <;> simp [h]
theorem lowered_step {n : Nat} {W0 us W r1 r r' : List Int} {j v : Nat} (h : Lowered n W0 us j W r1 r) (hj : j < us.length) (hv : v < n) (e : us[j] = (v : Int)) (hb : ((us.count (v : Int) : Nat) : Int) ≤ W0.getD v 0)
    (hr : ∀ u : Nat, u < n → r'.count (u : Int) = r.count (u : Int) + if u = v ∧ W.getD v 0 - 1 = 0 then 1 else 0) : Lowered n W0 us (j + 1) (W.set v (W.getD v 0 - 1)) r1 r' := by
  refine ⟨by rw [List.length_set]; exact h.1, fun u hu => ?_⟩
  obtain ⟨h1, h2⟩ := h.2 u hu
  have h3 := hr u hu
  have hc := take_count hj (u : Int)
  have hc2 := take_count hj (v : Int)
  have hm : (us.take (j + 1)).count (v : Int) ≤ us.count (v : Int) := count_take_le
  rw [e] at hc hc2
  rw [if_pos rfl] at hc2
  have hl := h.1
  by_cases huv : u = v
  · subst huv
    have g : (W.set u (W.getD u 0 - 1)).getD u 0 = W.getD u 0 - 1 := by
      rw [List.getD_eq_getElem?_getD, List.getElem?_set, if_pos rfl, if_pos (by omega)]
      rfl
    rw [g, hc2]
    refine ⟨by omega, ?_⟩
    have hw : 0 < W0.getD u 0 := by omega
    have hW : W.getD u 0 ≠ 0 := by omega
    rw [if_neg (fun k => hW k.2)] at h2
    rw [h3, h2]
    by_cases z : W.getD u 0 - 1 = 0
    · rw [if_pos ⟨rfl, z⟩, if_pos ⟨hw, z⟩]
    · rw [if_neg (fun k => z k.2), if_neg (fun k => z k.2)]
  · have g : (W.set v (W.getD v 0 - 1)).getD u 0 = W.getD u 0 := by
      rw [List.getD_eq_getElem?_getD, List.getElem?_set, if_neg (fun k => huv k.symm), ← List.getD_eq_getElem?_getD]
    rw [if_neg (by omega)] at hc
    rw [if_neg (fun k => huv k.1)] at h3
    rw [g, hc]
    refine ⟨by omega, ?_⟩
    rw [h3]
    omega
theorem lowered_end {need : Int → List Int} {n : Nat} {told W0 us W r1 r : List Int} {i : Nat} (hnt : (i : Int) ∉ told) (h : Lowered n W0 us us.length W r1 r) (hW : ∀ u : Nat, u < n → W0.getD u 0 = (waitK need told (u : Int) : Nat)) (hu : ∀ u : Nat, u < n → us.count (u : Int) = (need (u : Int)).count (i : Int)) : (∀ u : Nat, u < n → W.getD u 0 = (waitK need (told ++ [(i : Int)]) (u : Int) : Nat)) ∧ ∀ u : Nat, u < n → r.count (u : Int) = r1.count (u : Int) + if 0 < waitK need told u ∧ waitK need (told ++ [(i : Int)]) u = 0 then 1 else 0 := by
  have key : ∀ u : Nat, u < n → W.getD u 0 = (waitK need (told ++ [(i : Int)]) (u : Int) : Nat) := by
    intro u hn
    have h1 := (h.2 u hn).1
    rw [List.take_length, hW u hn, hu u hn] at h1
    have := wait_step (need := need) hnt (u : Int)
    omega
  refine ⟨key, fun u hn => ?_⟩
  have h2 := (h.2 u hn).2
  rw [key u hn, hW u hn] at h2
  rw [h2]
  by_cases c : 0 < waitK need told (u : Int) ∧ waitK need (told ++ [(i : Int)]) (u : Int) = 0
  · rw [if_pos c, if_pos ⟨by omega, by omega⟩]
  · rw [if_neg c, if_neg (fun k => c ⟨by omega, by omega⟩)]
theorem lowered_room {need : Int → List Int} {n : Nat} {told W0 us : List Int} {i : Nat} (hnt : (i : Int) ∉ told) (hW : ∀ u : Nat, u < n → W0.getD u 0 = (waitK need told (u : Int) : Nat)) (hu : ∀ u : Nat, u < n → us.count (u : Int) = (need (u : Int)).count (i : Int)) : ∀ u : Nat, u < n → ((us.count (u : Int) : Nat) : Int) ≤ W0.getD u 0 := by
  intro u hn
  rw [hW u hn, hu u hn]
  have := wait_step (need := need) hnt (u : Int)
  omega
end Go.Proofs.YtmfibianieboeaaGreat
set_option linter.unusedVariables false
namespace Go.Proofs.YtmfibianieboeaaGreat

inductive Walk (E : Nat → Nat → Prop) : Nat → Nat → Prop
  | one {a b : Nat} (h : E a b) : Walk E a b
  | more {a b c : Nat} (h : E a b) (t : Walk E b c) : Walk E a c
theorem Walk.trans {E : Nat → Nat → Prop} {a b c : Nat} (h : Walk E a b) (t : Walk E b c) : Walk E a c := by
  induction h with
  | one h => exact .more h t
  | more h _ ih => exact .more h (ih t)
def Back (E : Nat → Nat → Prop) (a b : Nat) : Prop := a = b ∨ Walk E a b
theorem Back.trans {E : Nat → Nat → Prop} {a b c : Nat} (h : Back E a b) (t : Back E b c) : Back E a c := by
  rcases h with rfl | h
  · exact t
  · rcases t with rfl | t
    · exact .inr h
    · exact .inr (h.trans t)
theorem Walk.back {E : Nat → Nat → Prop} {a b c : Nat} (h : Walk E a b) (t : Back E b c) : Walk E a c := by
  rcases t with rfl | t
  · exact h
  · exact h.trans t
def Knot (E : Nat → Nat → Prop) (a b : Nat) : Prop := Back E a b ∧ Back E b a
theorem Knot.symm {E : Nat → Nat → Prop} {a b : Nat} (h : Knot E a b) : Knot E b a := ⟨h.2, h.1⟩
theorem Knot.trans {E : Nat → Nat → Prop} {a b c : Nat} (h : Knot E a b) (t : Knot E b c) : Knot E a c := ⟨h.1.trans t.1, t.2.trans h.2⟩
theorem Knot.refl {E : Nat → Nat → Prop} (a : Nat) : Knot E a a := ⟨.inl rfl, .inl rfl⟩
def LeastK (E : Nat → Nat → Prop) (a k : Nat) : Prop := Knot E a k ∧ ∀ b, Knot E a b → k ≤ b
theorem LeastK.unique {E : Nat → Nat → Prop} {a k l : Nat} (h : LeastK E a k) (t : LeastK E a l) : k = l := Nat.le_antisymm (h.2 l t.1) (t.2 k h.1)
theorem LeastK.le {E : Nat → Nat → Prop} {a k : Nat} (h : LeastK E a k) : k ≤ a := h.2 a (Knot.refl a)

abbrev toldK : Nat := 9223372036854775807
def upd (f : Nat → Nat) (v x : Nat) : Nat → Nat := fun u => if u = v then x else f u
theorem upd_same (f : Nat → Nat) (v x : Nat) : upd f v x v = x := by simp [upd]
theorem upd_other (f : Nat → Nat) {v u : Nat} (x : Nat) (h : u ≠ v) : upd f v x u = f u := by simp [upd, h]

structure Stp where
  c : Nat
  p : Nat
  l : List Nat

def DoneE (op : List Nat) (bk : Nat → Nat) (v w : Nat) : Prop := bk w = toldK ∨ ∃ r : Nat, op[r]? = some w ∧ bk v ≤ r + 1
structure Sg (adj : Nat → List Nat) (op : List Nat) (bk : Nat → Nat) (s : Stp) (hi : Nat) : Prop where
  p1 : 1 ≤ s.p
  ph : s.p ≤ hi
  at_ : op[s.p - 1]? = some s.c
  pre : ∃ pre, adj s.c = pre ++ s.l ∧ ∀ w ∈ pre, DoneE op bk s.c w
  down : ∀ q v, s.p ≤ q + 1 → q < hi → op[q]? = some v → Back (fun a b => b ∈ adj a) s.c v
  rest : ∀ q v, s.p ≤ q → q < hi → op[q]? = some v → bk v ≤ q ∧ ∀ w ∈ adj v, DoneE op bk v w
  low : ∀ q v, s.p ≤ q + 1 → q < hi → op[q]? = some v → bk s.c ≤ bk v ∨ ∃ d l, s.l = d :: l ∧ ∃ r : Nat, op[r]? = some d ∧ r ≤ q ∧ bk d ≤ bk v
def SW (adj : Nat → List Nat) (op : List Nat) (bk : Nat → Nat) : List Stp → Nat → Prop
  | [], hi => hi = 0
  | s :: rest, hi => Sg adj op bk s hi ∧ SW adj op bk rest (s.p - 1) ∧ ∀ t ∈ rest.head?, ∃ l, t.l = s.c :: l
structure TI (m : Nat) (adj : Nat → List Nat) (op : List Nat) (bk ls : Nat → Nat) (st : List Stp) : Prop where
  nd : op.Nodup
  lt : ∀ v ∈ op, v < m
  g1 : ∀ q v, op[q]? = some v → 1 ≤ bk v ∧ bk v ≤ q + 1 ∧ ∃ u, op[bk v - 1]? = some u ∧ Back (fun a b => b ∈ adj a) v u
  g2 : ∀ v, v < m → bk v = 0 ∨ bk v = toldK ∨ v ∈ op
  g3 : ∀ v, v < m → bk v = toldK → ∀ w ∈ adj v, bk w = toldK
  g4 : ∀ v, v < m → bk v = toldK → LeastK (fun a b => b ∈ adj a) v (ls v)
  sw : SW adj op bk st op.length

theorem nodup_at {l : List Nat} (h : l.Nodup) {i j v : Nat} (hi : l[i]? = some v) (hj : l[j]? = some v) : i = j := by
  exact (List.getElem?_inj (List.getElem?_eq_some_iff.1 hi).1 h).1 (hi.trans hj.symm)
theorem sg_mono {adj : Nat → List Nat} {op op' : List Nat} {bk bk' : Nat → Nat} {s : Stp} {hi : Nat} (h : Sg adj op bk s hi) (h1 : ∀ q, q < hi → op'[q]? = op[q]?) (h2 : ∀ q v, q < hi → op[q]? = some v → bk' v = bk v)
    (h3 : ∀ w, bk w = toldK → bk' w = toldK) (h4 : ∀ (r w : Nat), op[r]? = some w → op'[r]? = some w ∨ bk' w = toldK) : Sg adj op' bk' s hi := by
  have hp1 := h.p1
  have hph := h.ph
  have hd : ∀ q v w, q < hi → op[q]? = some v → DoneE op bk v w → DoneE op' bk' v w := by
    intro q v w hq hv hd
    rcases hd with hd | ⟨r, hr, hb⟩
    · exact .inl (h3 w hd)
    · rcases h4 r w hr with h | h
      · exact .inr ⟨r, h, by rw [h2 q v hq hv]; exact hb⟩
      · exact .inl h
  refine ⟨hp1, hph, (h1 _ (by omega)).trans h.at_, ?_, fun q v a b c => h.down q v a b ((h1 q b).symm.trans c), fun q v a b c => ?_, fun q v a b c => ?_⟩
  · obtain ⟨pre, e, hx⟩ := h.pre
    exact ⟨pre, e, fun w hw => hd _ _ w (by omega) h.at_ (hx w hw)⟩
  · have c' := (h1 q b).symm.trans c
    obtain ⟨x, y⟩ := h.rest q v a b c'
    exact ⟨by rw [h2 q v b c']; exact x, fun w hw => hd q v w b c' (y w hw)⟩
  · have c' := (h1 q b).symm.trans c
    rw [h2 q v b c', h2 _ _ (by omega) h.at_]
    rcases h.low q v a b c' with x | ⟨d, l, e, r, hr, hq, hb⟩
    · exact .inl x
    · exact .inr ⟨d, l, e, r, (h1 r (by omega)).trans hr, hq, by rw [h2 r d (by omega) hr]; exact hb⟩
theorem sw_mono {adj : Nat → List Nat} {op op' : List Nat} {bk bk' : Nat → Nat} : ∀ {st : List Stp} {hi : Nat}, SW adj op bk st hi → (∀ q, q < hi → op'[q]? = op[q]?) → (∀ q v, q < hi → op[q]? = some v → bk' v = bk v) →
    (∀ w, bk w = toldK → bk' w = toldK) → (∀ (r w : Nat), op[r]? = some w → op'[r]? = some w ∨ bk' w = toldK) → SW adj op' bk' st hi
  | [], _, h, _, _, _, _ => h
  | s :: rest, hi, ⟨a, b, c⟩, h1, h2, h3, h4 => by
    have := a.p1
    have := a.ph
    exact ⟨sg_mono a h1 h2 h3 h4, sw_mono b (fun q hq => h1 q (by omega)) (fun q v hq => h2 q v (by omega)) h3 h4, c⟩

theorem nodupN_len : ∀ {n : Nat} {l : List Nat}, l.Nodup → (∀ x ∈ l, x < n) → l.length ≤ n
  | 0, l, _, h => by
    cases l with
    | nil => simp
    | cons a l => exact absurd (h a (by simp)) (by omega)
  | n + 1, l, hn, h => by
    have h1 := nodupN_len (n := n) (hn.erase n) (fun x hx => by
      have h2 := (hn.mem_erase_iff).1 hx
      have := h x h2.2
      have := h2.1
      omega)
    have := List.length_erase (a := n) (l := l)
    split at this <;> omega

theorem ti_end {m : Nat} {adj : Nat → List Nat} {op : List Nat} {bk ls : Nat → Nat} (h : TI m adj op bk ls []) : op = [] := by
  have : op.length = 0 := h.sw
  exact List.length_eq_zero_iff.1 this
theorem ti_len {m : Nat} {adj : Nat → List Nat} {op : List Nat} {bk ls : Nat → Nat} {st : List Stp} (h : TI m adj op bk ls st) : op.length ≤ m := by
  exact nodupN_len h.nd h.lt
theorem ti_begin (m : Nat) (adj : Nat → List Nat) (ls : Nat → Nat) : TI m adj [] (fun _ => 0) ls [] :=
  ⟨List.nodup_nil, by simp, by simp, fun v _ => .inl rfl, fun v _ h => absurd h (by decide), fun v _ h => absurd h (by decide), rfl⟩

theorem ti_enter {m : Nat} {adj : Nat → List Nat} {op : List Nat} {bk ls : Nat → Nat} {st : List Stp} {v : Nat} (h : TI m adj op bk ls st) (hv : v < m) (h0 : bk v = 0) (ht : ∀ t ∈ st.head?, ∃ l, t.l = v :: l) (hm : m + 1 < toldK) :
    TI m adj (op ++ [v]) (upd bk v (op.length + 1)) ls (⟨v, op.length + 1, adj v⟩ :: st) := by
  have hn : v ∉ op := fun hx => by
    obtain ⟨q, hq⟩ := List.getElem?_of_mem hx
    have := (h.g1 q v hq).1
    omega
  have hl := ti_len h
  have hne : ∀ q u, op[q]? = some u → u ≠ v := fun q u hq e => hn (e ▸ List.mem_of_getElem? hq)
  have hat : ∀ q, q < op.length → (op ++ [v])[q]? = op[q]? := fun q hq => List.getElem?_append_left hq
  have hlast : ∀ q u, op.length ≤ q → (op ++ [v])[q]? = some u → q = op.length ∧ u = v := by
    intro q u hq hu
    have hlt := (List.getElem?_eq_some_iff.1 hu).1
    rw [List.length_append, List.length_singleton] at hlt
    obtain rfl : q = op.length := by omega
    rw [List.getElem?_append_right (Nat.le_refl _), Nat.sub_self] at hu
    simp at hu
    exact ⟨rfl, hu.symm⟩
  have hb : upd bk v (op.length + 1) v = op.length + 1 := upd_same _ _ _
  have hT : ∀ w, bk w = toldK → upd bk v (op.length + 1) w = toldK := fun w hw => by
    rw [upd_other _ _ (fun e => by rw [e, h0] at hw; exact absurd hw (by decide))]; exact hw
  refine ⟨?_, ?_, ?_, ?_, ?_, ?_, ?_⟩
  · rw [List.nodup_append]
    exact ⟨h.nd, by simp, fun a ha b hb e => hn (by simp at hb; rw [← hb, ← e]; exact ha)⟩
  · intro u hu
    rcases List.mem_append.1 hu with hu | hu
    · exact h.lt u hu
    · simp at hu; omega
  · intro q u hq
    rcases Nat.lt_or_ge q op.length with hlt | hge
    · rw [hat q hlt] at hq
      rw [upd_other _ _ (hne q u hq)]
      obtain ⟨a, b, x, hx, hw⟩ := h.g1 q u hq
      exact ⟨a, b, x, (hat _ (by omega)).trans hx, hw⟩
    · obtain ⟨rfl, rfl⟩ := hlast q u hge hq
      rw [hb]
      exact ⟨by omega, Nat.le_refl _, u, by simp, .inl rfl⟩
  · intro u hu
    by_cases e : u = v
    · subst e; exact .inr (.inr (by simp))
    · rw [upd_other _ _ e]
      rcases h.g2 u hu with a | a | a
      · exact .inl a
      · exact .inr (.inl a)
      · exact .inr (.inr (by simp [a]))
  · intro u hu hT' w hw
    by_cases e : u = v
    · subst e; rw [hb] at hT'; omega
    · rw [upd_other _ _ e] at hT'
      exact hT w (h.g3 u hu hT' w hw)
  · intro u hu hT'
    by_cases e : u = v
    · subst e; rw [hb] at hT'; omega
    · rw [upd_other _ _ e] at hT'
      exact h.g4 u hu hT'
  · refine ⟨⟨by simp, by simp, by simp, ⟨[], rfl, by simp⟩, ?_, ?_, ?_⟩, ?_, ht⟩
    · intro q u hp _ hq
      obtain ⟨_, rfl⟩ := hlast q u (by simp at hp; omega) hq
      exact .inl rfl
    · intro q u hp hlt hq
      simp at hp hlt
      omega
    · intro q u hp _ hq
      obtain ⟨_, rfl⟩ := hlast q u (by simp at hp; omega) hq
      exact .inl (Nat.le_refl _)
    · show SW adj (op ++ [v]) _ st (op.length + 1 - 1)
      rw [Nat.add_sub_cancel]
      exact sw_mono h.sw hat (fun q u _ hq => upd_other _ _ (hne q u hq)) hT (fun r w hr => .inl ((hat r (List.getElem?_eq_some_iff.1 hr).1).trans hr))

theorem ti_along {m : Nat} {adj : Nat → List Nat} {op : List Nat} {bk ls : Nat → Nat} {c p d : Nat} {l : List Nat} {rest : List Stp} (h : TI m adj op bk ls (⟨c, p, d :: l⟩ :: rest)) (hd : d < m) (h0 : bk d ≠ 0) (hm : m + 1 < toldK) :
    TI m adj op (upd bk c (min (bk c) (bk d))) ls (⟨c, p, l⟩ :: rest) := by
  obtain ⟨hs, hr, ht⟩ := h.sw
  have hl := ti_len h
  have hp1 : 1 ≤ p := hs.p1
  have hph : p ≤ op.length := hs.ph
  have hc : op[p - 1]? = some c := hs.at_
  have hcb := h.g1 _ _ hc
  have hcT : bk c ≠ toldK := by omega
  have hadj : d ∈ adj c := by
    obtain ⟨pre, e, _⟩ := hs.pre
    simp only at e
    rw [e]; simp
  have hb : upd bk c (min (bk c) (bk d)) c = min (bk c) (bk d) := upd_same _ _ _
  have hT : ∀ w, bk w = toldK → upd bk c (min (bk c) (bk d)) w = toldK := fun w hw => by
    rw [upd_other _ _ (fun e => hcT (by rw [← e]; exact hw))]; exact hw
  have hT' : ∀ w, upd bk c (min (bk c) (bk d)) w = toldK → bk w = toldK ∧ w ≠ c := fun w hw => by
    by_cases e : w = c
    · subst e; rw [hb] at hw; omega
    · rw [upd_other _ _ e] at hw; exact ⟨hw, e⟩
  have hle : ∀ w, upd bk c (min (bk c) (bk d)) w ≤ bk w := fun w => by
    by_cases e : w = c
    · subst e; rw [hb]; omega
    · rw [upd_other _ _ e]; exact Nat.le_refl _
  have hD : ∀ v w, DoneE op bk v w → DoneE op (upd bk c (min (bk c) (bk d))) v w := by
    intro v w hx
    rcases hx with hx | ⟨r, hr, hbx⟩
    · exact .inl (hT w hx)
    · exact .inr ⟨r, hr, Nat.le_trans (hle v) hbx⟩
  have hdo : bk d = toldK ∨ ∃ r : Nat, op[r]? = some d := by
    rcases h.g2 d hd with a | a | a
    · exact absurd a h0
    · exact .inl a
    · exact .inr (List.getElem?_of_mem a)
  refine ⟨h.nd, h.lt, ?_, ?_, ?_, ?_, ?_, ?_, ht⟩
  · intro q v hq
    by_cases e : v = c
    · subst e
      obtain rfl := nodup_at h.nd hq hc
      rw [hb]
      obtain ⟨a, b, u, hu, hw⟩ := hcb
      rcases hdo with hdT | ⟨r, hrd⟩
      · rw [hdT, Nat.min_eq_left (by omega)]
        exact ⟨a, b, u, hu, hw⟩
      · obtain ⟨a', b', u', hu', hw'⟩ := h.g1 r d hrd
        rcases Nat.le_total (bk v) (bk d) with hx | hx
        · rw [Nat.min_eq_left hx]
          exact ⟨a, b, u, hu, hw⟩
        · rw [Nat.min_eq_right hx]
          exact ⟨a', by omega, u', hu', .inr ((Walk.one hadj).back hw')⟩
    · rw [upd_other _ _ e]
      exact h.g1 q v hq
  · intro v hv
    by_cases e : v = c
    · subst e; exact .inr (.inr (List.mem_of_getElem? hc))
    · rw [upd_other _ _ e]; exact h.g2 v hv
  · intro v hv hvT w hw
    exact hT w (h.g3 v hv (hT' v hvT).1 w hw)
  · intro v hv hvT
    exact h.g4 v hv (hT' v hvT).1
  · refine ⟨hp1, hph, hc, ?_, hs.down, ?_, ?_⟩
    · obtain ⟨pre, e, hx⟩ := hs.pre
      simp only at e hx
      refine ⟨pre ++ [d], by simp only; rw [e]; simp, fun w hw => ?_⟩
      rcases List.mem_append.1 hw with hw | hw
      · exact hD _ w (hx w hw)
      · simp at hw
        subst hw
        rcases hdo with hdT | ⟨r, hrd⟩
        · exact .inl (hT w hdT)
        · refine .inr ⟨r, hrd, ?_⟩
          have := (h.g1 r w hrd).2.1
          show upd bk c (min (bk c) (bk w)) c ≤ _
          rw [upd_same]
          omega
    · intro q v a b hq
      obtain ⟨x, y⟩ := hs.rest q v a b hq
      exact ⟨Nat.le_trans (hle v) x, fun w hw => hD v w (y w hw)⟩
    · intro q v a b hq
      left
      show upd bk c (min (bk c) (bk d)) c ≤ _
      by_cases e : v = c
      · subst e; exact Nat.le_refl _
      · rw [hb, upd_other _ _ e]
        rcases hs.low q v a b hq with x | ⟨d', l', e', r, hr, hrq, hbx⟩
        · simp only at x; omega
        · simp only at e'
          injection e' with e1 e2
          subst e1
          omega
  · exact sw_mono hr (fun q _ => rfl) (fun q v hq hv => upd_other _ _ (fun e => by
      subst e
      have := nodup_at h.nd hv hc
      simp only at hq
      omega)) hT (fun r w hw => .inl hw)

theorem ti_leave {m : Nat} {adj : Nat → List Nat} {op : List Nat} {bk ls : Nat → Nat} {c p : Nat} {rest : List Stp} (h : TI m adj op bk ls (⟨c, p, []⟩ :: rest)) (hb : bk c < p) : TI m adj op bk ls rest := by
  obtain ⟨hs, hr, ht⟩ := h.sw
  have hp1 : 1 ≤ p := hs.p1
  have hph : p ≤ op.length := hs.ph
  have hc : op[p - 1]? = some c := hs.at_
  have hcb := h.g1 _ _ hc
  refine ⟨h.nd, h.lt, h.g1, h.g2, h.g3, h.g4, ?_⟩
  cases rest with
  | nil =>
    have : p - 1 = 0 := hr
    omega
  | cons t rest =>
    obtain ⟨hs', hr', ht'⟩ := hr
    obtain ⟨l, hl⟩ := ht t (by simp)
    simp only at hl hs'
    have hph' : t.p ≤ p - 1 := hs'.ph
    have hadj : c ∈ adj t.c := by
      obtain ⟨pre, e, _⟩ := hs'.pre
      rw [e, hl]; simp
    refine ⟨⟨hs'.p1, by omega, hs'.at_, hs'.pre, ?_, ?_, ?_⟩, hr', ht'⟩
    · intro q v a b hq
      rcases Nat.lt_or_ge q (p - 1) with hlt | hge
      · exact hs'.down q v a hlt hq
      · exact .inr ((Walk.one hadj).back (hs.down q v (by simp only; omega) b hq))
    · intro q v a b hq
      rcases Nat.lt_or_ge q (p - 1) with hlt | hge
      · exact hs'.rest q v a hlt hq
      · rcases Nat.lt_or_ge q p with hlt | hge2
        · obtain rfl : q = p - 1 := by omega
          obtain rfl : c = v := Option.some.inj (hc.symm.trans hq)
          obtain ⟨pre, e, hx⟩ := hs.pre
          simp only at e hx
          rw [List.append_nil] at e
          exact ⟨by omega, fun w hw => hx w (e ▸ hw)⟩
        · exact hs.rest q v hge2 b hq
    · intro q v a b hq
      rcases Nat.lt_or_ge q (p - 1) with hlt | hge
      · exact hs'.low q v a hlt hq
      · right
        refine ⟨c, l, hl, p - 1, hc, hge, ?_⟩
        rcases hs.low q v (by simp only; omega) b hq with x | ⟨d, l', e', _⟩
        · exact x
        · cases e'

theorem sw_at {adj : Nat → List Nat} {op : List Nat} {bk : Nat → Nat} : ∀ {st : List Stp} {hi q v : Nat}, SW adj op bk st hi → q < hi → op[q]? = some v → (∃ s ∈ st, s.c = v) ∨ bk v ≤ q
  | [], hi, q, v, h, hq, hv => by
    have : hi = 0 := h
    omega
  | s :: rest, hi, q, v, ⟨hs, hr, ht⟩, hq, hv => by
    have := hs.p1
    rcases Nat.lt_or_ge q (s.p - 1) with hlt | hge
    · rcases sw_at hr hlt hv with ⟨t, a, b⟩ | a
      · exact .inl ⟨t, List.mem_cons_of_mem _ a, b⟩
      · exact .inr a
    · rcases Nat.lt_or_ge q s.p with hlt | hge2
      · obtain rfl : q = s.p - 1 := by omega
        exact .inl ⟨s, by simp, Option.some.inj (hs.at_.symm.trans hv)⟩
      · exact .inr (hs.rest q v hge2 hq hv).1
theorem sw_chain {adj : Nat → List Nat} {op : List Nat} {bk : Nat → Nat} : ∀ {st : List Stp} {s : Stp} {hi : Nat}, SW adj op bk (s :: st) hi → ∀ t ∈ s :: st, Back (fun a b => b ∈ adj a) t.c s.c
  | [], s, hi, h, t, ht => by
    simp at ht; subst ht; exact .inl rfl
  | s' :: rest, s, hi, ⟨hs, hr, hh⟩, t, ht => by
    rcases List.mem_cons.1 ht with e | ht
    · subst e; exact .inl rfl
    · have h1 := sw_chain hr t ht
      obtain ⟨l, hl⟩ := hh s' (by simp)
      obtain ⟨pre, e, _⟩ := hr.1.pre
      have : s.c ∈ adj s'.c := by rw [e, hl]; simp
      exact h1.trans (.inr (.one this))
theorem sw_up {m : Nat} {adj : Nat → List Nat} {op : List Nat} {bk ls : Nat → Nat} {s : Stp} {rest : List Stp} (h : TI m adj op bk ls (s :: rest)) : ∀ (n q v : Nat), q < n → op[q]? = some v → Back (fun a b => b ∈ adj a) v s.c
  | 0, q, v, hn, _ => absurd hn (by omega)
  | n + 1, q, v, hn, hv => by
    have hlt := (List.getElem?_eq_some_iff.1 hv).1
    rcases sw_at h.sw hlt hv with ⟨t, ht, rfl⟩ | hb
    · exact sw_chain h.sw t ht
    · obtain ⟨a, b, u, hu, hw⟩ := h.g1 q v hv
      exact hw.trans (sw_up h n (bk v - 1) u (by omega) hu)
theorem walkIn {adj : Nat → List Nat} {P : Nat → Prop} (hP : ∀ v, P v → ∀ w ∈ adj v, P w) {a b : Nat} (h : Walk (fun a b => b ∈ adj a) a b) (ha : P a) : P b := by
  induction h with
  | one h => exact hP _ ha _ h
  | more h _ ih => exact ih (hP _ ha _ h)

def minL : List Nat → Nat
  | [] => 0
  | a :: l => l.foldl min a
theorem foldl_min : ∀ (l : List Nat) (a : Nat), l.foldl min a ≤ a ∧ (∀ x ∈ l, l.foldl min a ≤ x) ∧ (l.foldl min a = a ∨ l.foldl min a ∈ l)
  | [], a => ⟨Nat.le_refl _, by simp, .inl rfl⟩
  | b :: l, a => by
    obtain ⟨h1, h2, h3⟩ := foldl_min l (min a b)
    simp only [List.foldl_cons]
    refine ⟨by omega, fun x hx => ?_, ?_⟩
    · rcases List.mem_cons.1 hx with rfl | hx
      · omega
      · exact h2 x hx
    · rcases h3 with h3 | h3
      · rw [h3]
        rcases Nat.le_total a b with h | h
        · rw [Nat.min_eq_left h]; exact .inl rfl
        · rw [Nat.min_eq_right h]; exact .inr (by simp)
      · exact .inr (List.mem_cons_of_mem _ h3)
theorem minL_mem {l : List Nat} (h : l ≠ []) : minL l ∈ l := by
  cases l with
  | nil => exact absurd rfl h
  | cons a l =>
    rcases (foldl_min l a).2.2 with h | h
    · show l.foldl min a ∈ _
      rw [h]; simp
    · exact List.mem_cons_of_mem _ h
theorem minL_le {l : List Nat} {x : Nat} (h : x ∈ l) : minL l ≤ x := by
  cases l with
  | nil => cases h
  | cons a l =>
    rcases List.mem_cons.1 h with rfl | h
    · exact (foldl_min l x).1
    · exact (foldl_min l a).2.1 x h

theorem ti_tell {m : Nat} {adj : Nat → List Nat} {op : List Nat} {bk ls bk' ls' : Nat → Nat} {c p : Nat} {rest : List Stp} (h : TI m adj op bk ls (⟨c, p, []⟩ :: rest)) (hb : ¬ bk c < p) (hm : m + 1 < toldK) (hA : ∀ v, ∀ w ∈ adj v, w < m)
    (hk1 : ∀ v ∈ op.drop (p - 1), bk' v = toldK ∧ ls' v = minL (op.drop (p - 1))) (hk2 : ∀ v, v ∉ op.drop (p - 1) → bk' v = bk v ∧ ls' v = ls v) : TI m adj (op.take (p - 1)) bk' ls' rest := by
  obtain ⟨hs, hr, ht⟩ := h.sw
  have hl := ti_len h
  have hp1 : 1 ≤ p := hs.p1
  have hph : p ≤ op.length := hs.ph
  have hc : op[p - 1]? = some c := hs.at_
  obtain ⟨c1, c2, _⟩ := h.g1 _ _ hc
  have hbc : bk c = p := by omega
  have hmem : ∀ v, v ∈ op.drop (p - 1) ↔ ∃ q, p ≤ q + 1 ∧ op[q]? = some v := by
    intro v
    constructor
    · intro hv
      obtain ⟨i, hi⟩ := List.getElem?_of_mem hv
      rw [List.getElem?_drop] at hi
      exact ⟨_, by omega, hi⟩
    · rintro ⟨q, hq, hv⟩
      refine List.mem_of_getElem? (i := q - (p - 1)) ?_
      rw [List.getElem?_drop, show p - 1 + (q - (p - 1)) = q by omega]
      exact hv
  have hopT : ∀ q v, op[q]? = some v → bk v ≠ toldK := fun q v hq => by
    have := (List.getElem?_eq_some_iff.1 hq).1
    have := (h.g1 q v hq).2.1
    omega
  have hlow : ∀ q v, p ≤ q + 1 → op[q]? = some v → p ≤ bk v := by
    intro q v hq hv
    rcases hs.low q v hq (List.getElem?_eq_some_iff.1 hv).1 hv with x | ⟨d, l', e', _⟩
    · simp only at x; omega
    · cases e'
  have hcl : ∀ v, v ∈ op.drop (p - 1) → ∀ w ∈ adj v, bk w = toldK ∨ w ∈ op.drop (p - 1) := by
    intro v hv w hw
    obtain ⟨q, hq, hvq⟩ := (hmem v).1 hv
    have hd : DoneE op bk v w := by
      rcases Nat.lt_or_ge q p with hlt | hge
      · obtain rfl : q = p - 1 := by omega
        obtain rfl : c = v := Option.some.inj (hc.symm.trans hvq)
        obtain ⟨pre, e, hx⟩ := hs.pre
        simp only at e hx
        rw [List.append_nil] at e
        exact hx w (e ▸ hw)
      · exact (hs.rest q v hge (List.getElem?_eq_some_iff.1 hvq).1 hvq).2 w hw
    rcases hd with hd | ⟨r, hr, hbr⟩
    · exact .inl hd
    · exact .inr ((hmem w).2 ⟨r, by have := hlow q v hq hvq; omega, hr⟩)
  have hTop : ∀ v, v < m → (bk v = toldK ∨ v ∈ op.drop (p - 1)) → ∀ w ∈ adj v, bk w = toldK ∨ w ∈ op.drop (p - 1) := by
    intro v hvm hv w hw
    rcases hv with hv | hv
    · exact .inl (h.g3 v hvm hv w hw)
    · exact hcl v hv w hw
  have hcm : c < m := h.lt c (List.mem_of_getElem? hc)
  have hck : c ∈ op.drop (p - 1) := (hmem c).2 ⟨p - 1, by omega, hc⟩
  have hin : ∀ u, Knot (fun a b => b ∈ adj a) c u ↔ u ∈ op.drop (p - 1) := by
    intro u
    constructor
    · rintro ⟨h1, h2⟩
      rcases h1 with rfl | h1
      · exact hck
      · have hu : u < m ∧ (bk u = toldK ∨ u ∈ op.drop (p - 1)) := walkIn (P := fun v => v < m ∧ (bk v = toldK ∨ v ∈ op.drop (p - 1))) (fun v hv w hw => ⟨hA v w hw, hTop v hv.1 hv.2 w hw⟩) h1 ⟨hcm, .inr hck⟩
        rcases hu.2 with hT | hk
        · exfalso
          rcases h2 with rfl | h2
          · exact hopT _ _ hc hT
          · have := walkIn (P := fun v => v < m ∧ bk v = toldK) (fun v hv w hw => ⟨hA v w hw, h.g3 v hv.1 hv.2 w hw⟩) h2 ⟨hu.1, hT⟩
            exact hopT _ _ hc this.2
        · exact hk
    · intro hu
      obtain ⟨q, hq, hv⟩ := (hmem u).1 hu
      have hlt := (List.getElem?_eq_some_iff.1 hv).1
      exact ⟨hs.down q u hq hlt hv, sw_up h (q + 1) q u (by omega) hv⟩
  have hne : op.drop (p - 1) ≠ [] := List.ne_nil_of_mem hck
  have hleast : ∀ v ∈ op.drop (p - 1), LeastK (fun a b => b ∈ adj a) v (minL (op.drop (p - 1))) := by
    intro v hv
    have h1 := (hin v).2 hv
    refine ⟨h1.symm.trans ((hin _).2 (minL_mem hne)), fun u hu => minL_le ((hin u).1 (h1.trans hu))⟩
  have hoff : ∀ q v, q < p - 1 → op[q]? = some v → v ∉ op.drop (p - 1) := by
    intro q v hq hv hx
    obtain ⟨r, hr1, hr2⟩ := (hmem v).1 hx
    have := nodup_at h.nd hv hr2
    omega
  have hT : ∀ w, bk w = toldK → bk' w = toldK := fun w hw => by
    by_cases hx : w ∈ op.drop (p - 1)
    · exact (hk1 w hx).1
    · rw [(hk2 w hx).1]; exact hw
  have hT' : ∀ w, bk' w = toldK → bk w = toldK ∨ w ∈ op.drop (p - 1) := fun w hw => by
    by_cases hx : w ∈ op.drop (p - 1)
    · exact .inr hx
    · rw [(hk2 w hx).1] at hw; exact .inl hw
  have htk : ∀ q, q < p - 1 → (op.take (p - 1))[q]? = op[q]? := fun q hq => List.getElem?_take_of_lt hq
  have htk2 : ∀ q v, (op.take (p - 1))[q]? = some v → q < p - 1 ∧ op[q]? = some v := by
    intro q v hq
    have hlt := (List.getElem?_eq_some_iff.1 hq).1
    rw [List.length_take] at hlt
    have hq1 : q < p - 1 := by omega
    exact ⟨hq1, (htk q hq1).symm.trans hq⟩
  refine ⟨h.nd.sublist (List.take_sublist _ _), fun v hv => h.lt v (List.mem_of_mem_take hv), ?_, ?_, ?_, ?_, ?_⟩
  · intro q v hq
    obtain ⟨hq1, hv⟩ := htk2 q v hq
    rw [(hk2 v (hoff q v hq1 hv)).1]
    obtain ⟨a, b, u, hu, hw⟩ := h.g1 q v hv
    exact ⟨a, b, u, (htk _ (by omega)).trans hu, hw⟩
  · intro v hv
    by_cases hx : v ∈ op.drop (p - 1)
    · exact .inr (.inl (hk1 v hx).1)
    · rw [(hk2 v hx).1]
      rcases h.g2 v hv with a | a | a
      · exact .inl a
      · exact .inr (.inl a)
      · obtain ⟨q, hq⟩ := List.getElem?_of_mem a
        have : q < p - 1 := by
          rcases Nat.lt_or_ge q (p - 1) with h | h
          · exact h
          · exact absurd ((hmem v).2 ⟨q, by omega, hq⟩) hx
        exact .inr (.inr (List.mem_of_getElem? ((htk q this).trans hq)))
  · intro v hv hvT w hw
    rcases hTop v hv (hT' v hvT) w hw with a | a
    · exact hT w a
    · exact (hk1 w a).1
  · intro v hv hvT
    by_cases hx : v ∈ op.drop (p - 1)
    · rw [(hk1 v hx).2]; exact hleast v hx
    · rw [(hk2 v hx).2]
      rw [(hk2 v hx).1] at hvT
      exact h.g4 v hv hvT
  · rw [List.length_take, Nat.min_eq_left (by omega)]
    exact sw_mono hr htk (fun q v hq hv => (hk2 v (hoff q v hq hv)).1) hT (fun r w hw => by
      by_cases hx : w ∈ op.drop (p - 1)
      · exact .inr (hk1 w hx).1
      · left
        have : r < p - 1 := by
          rcases Nat.lt_or_ge r (p - 1) with h | h
          · exact h
          · exact absurd ((hmem w).2 ⟨r, by omega, hw⟩) hx
        exact (htk r this).trans hw)
end Go.Proofs.YtmfibianieboeaaGreat
set_option linter.unusedVariables false
namespace Go.Proofs.YtmfibianieboeaaGreat

def sumK (f : Nat → Nat) (m : Nat) : Nat := ((List.range m).map f).sum
theorem sumK_succ (f : Nat → Nat) (m : Nat) : sumK f (m + 1) = sumK f m + f m := by simp [sumK, List.range_succ]
theorem sumK_le {f g : Nat → Nat} : ∀ {m : Nat}, (∀ u, u < m → f u ≤ g u) → sumK f m ≤ sumK g m
  | 0, _ => by simp [sumK]
  | m + 1, h => by
    rw [sumK_succ, sumK_succ]
    have := sumK_le (m := m) (fun u hu => h u (by omega))
    have := h m (by omega)
    omega
theorem sumK_lt {f g : Nat → Nat} {v k : Nat} : ∀ {m : Nat}, v < m → (∀ u, u < m → u ≠ v → f u ≤ g u) → f v + k ≤ g v → sumK f m + k ≤ sumK g m
  | 0, hv, _, _ => absurd hv (by omega)
  | m + 1, hv, h, hk => by
    rw [sumK_succ, sumK_succ]
    by_cases e : v = m
    · subst e
      have := sumK_le (f := f) (g := g) (m := v) (fun u hu => h u (by omega) (by omega))
      omega
    · have := sumK_lt (f := f) (g := g) (v := v) (k := k) (m := m) (by omega) (fun u hu hne => h u (by omega) hne) hk
      have := h m (by omega) (fun x => e x.symm)
      omega
def measK (m : Nat) (adj : Nat → List Nat) (bk : Nat → Nat) (st : List Stp) : Nat := sumK (fun v => if bk v = 0 then (adj v).length + 2 else 0) m + (st.map fun s => s.l.length + 1).sum
theorem meas_enter {m : Nat} {adj : Nat → List Nat} {bk : Nat → Nat} {st : List Stp} {v p x : Nat} (hv : v < m) (h0 : bk v = 0) (hx : x ≠ 0) : measK m adj (upd bk v x) (⟨v, p, adj v⟩ :: st) + 1 ≤ measK m adj bk st := by
  unfold measK
  have := sumK_lt (f := fun u => if upd bk v x u = 0 then (adj u).length + 2 else 0) (g := fun u => if bk u = 0 then (adj u).length + 2 else 0) (v := v) (k := (adj v).length + 2) (m := m) hv
    (fun u _ hne => by simp [upd_other _ _ hne]) (by simp [upd_same, hx, h0])
  simp only [List.map_cons, List.sum_cons]
  omega
theorem meas_along {m : Nat} {adj : Nat → List Nat} {bk : Nat → Nat} {rest : List Stp} {c p d x : Nat} {l : List Nat} (h0 : bk c ≠ 0) (hx : x ≠ 0) : measK m adj (upd bk c x) (⟨c, p, l⟩ :: rest) + 1 ≤ measK m adj bk (⟨c, p, d :: l⟩ :: rest) := by
  unfold measK
  have := sumK_le (f := fun u => if upd bk c x u = 0 then (adj u).length + 2 else 0) (g := fun u => if bk u = 0 then (adj u).length + 2 else 0) (m := m) (fun u _ => by
    by_cases e : u = c
    · subst e; simp [upd_same, hx]
    · simp [upd_other _ _ e])
  simp only [List.map_cons, List.sum_cons, List.length_cons]
  omega
theorem meas_leave {m : Nat} {adj : Nat → List Nat} {bk bk' : Nat → Nat} {rest : List Stp} {s : Stp} (h : ∀ u, u < m → bk' u = 0 → bk u = 0) : measK m adj bk' rest + 1 ≤ measK m adj bk (s :: rest) := by
  unfold measK
  have := sumK_le (f := fun u => if bk' u = 0 then (adj u).length + 2 else 0) (g := fun u => if bk u = 0 then (adj u).length + 2 else 0) (m := m) (fun u hu => by
    by_cases e : bk' u = 0
    · simp [e, h u hu e]
    · simp [e])
  simp only [List.map_cons, List.sum_cons]
  omega

def Via (E : Nat → Nat → Prop) : Nat → Nat → Nat → Prop
  | 0, i, j => E i j
  | k + 1, i, j => Via E k i j ∨ (Via E k i k ∧ Via E k k j)
theorem via_walk {E : Nat → Nat → Prop} : ∀ {k i j : Nat}, Via E k i j → Walk E i j
  | 0, i, j, h => .one h
  | k + 1, i, j, h => by
    rcases h with h | ⟨h, t⟩
    · exact via_walk h
    · exact (via_walk h).trans (via_walk t)
theorem via_mid {E : Nat → Nat → Prop} : ∀ {k i d j : Nat}, d < k → Via E k i d → Via E k d j → Via E k i j
  | 0, _, _, _, h, _, _ => absurd h (by omega)
  | k + 1, i, d, j, hd, h, t => by
    by_cases e : d = k
    · subst e
      have h1 : Via E d i d := by
        rcases h with h | ⟨h, _⟩ <;> exact h
      have t1 : Via E d d j := by
        rcases t with t | ⟨_, t⟩ <;> exact t
      exact .inr ⟨h1, t1⟩
    · have hk : d < k := by omega
      rcases h with h | ⟨h1, h2⟩
      · rcases t with t | ⟨t1, t2⟩
        · exact .inl (via_mid hk h t)
        · exact .inr ⟨via_mid hk h t1, t2⟩
      · rcases t with t | ⟨t1, t2⟩
        · exact .inr ⟨h1, via_mid hk h2 t⟩
        · exact .inr ⟨h1, t2⟩
theorem via_up {E : Nat → Nat → Prop} {i j : Nat} (h : E i j) : ∀ k, Via E k i j
  | 0 => h
  | k + 1 => .inl (via_up h k)
theorem walk_via {E : Nat → Nat → Prop} {n : Nat} (hE : ∀ a b, E a b → b < n) {i j : Nat} (h : Walk E i j) : Via E n i j := by
  induction h with
  | one h => exact via_up h n
  | more h _ ih => exact via_mid (hE _ _ h) (via_up h n) ih
theorem via_iff {E : Nat → Nat → Prop} {n : Nat} (hE : ∀ a b, E a b → b < n) (i j : Nat) : Via E n i j ↔ Walk E i j := ⟨via_walk, walk_via hE⟩

theorem ring_of {E : Nat → Nat → Prop} {P : Nat → Prop} {n : Nat} (hn : ∀ v, P v → v < n) (hP : ∀ v, P v → ∃ u, P u ∧ E u v) {v : Nat} (hv : P v) : ∃ u, P u ∧ Walk E u u := by
  have key : ∀ k, ∃ l : List Nat, l.length = k + 1 ∧ (∀ x ∈ l, P x) ∧ (∀ (i j : Nat) x y, i < j → l[i]? = some x → l[j]? = some y → Walk E x y) := by
    intro k
    induction k with
    | zero => exact ⟨[v], rfl, by simp [hv], fun i j x y hij _ hy => by
        have := (List.getElem?_eq_some_iff.1 hy).1
        simp at this
        omega⟩
    | succ k ih =>
      obtain ⟨l, hl, h1, h2⟩ := ih
      cases l with
      | nil => simp at hl
      | cons a l =>
        obtain ⟨u, hu, he⟩ := hP a (h1 a (by simp))
        refine ⟨u :: a :: l, by simp at hl ⊢; omega, fun x hx => ?_, fun i j x y hij hx hy => ?_⟩
        · rcases List.mem_cons.1 hx with rfl | hx
          · exact hu
          · exact h1 x hx
        · cases j with
          | zero => omega
          | succ j =>
            rw [List.getElem?_cons_succ] at hy
            cases i with
            | zero =>
              simp at hx
              subst hx
              cases j with
              | zero =>
                simp at hy
                subst hy
                exact .one he
              | succ j => exact .more he (h2 0 (j + 1) a y (by omega) (by simp) hy)
            | succ i =>
              rw [List.getElem?_cons_succ] at hx
              exact h2 i j x y (by omega) hx hy
  obtain ⟨l, hl, h1, h2⟩ := key n
  have hnd : ¬ l.Nodup := fun h => by
    have := nodupN_len h (fun x hx => hn x (h1 x hx))
    omega
  have : ∃ i j : Nat, i < j ∧ ∃ x, l[i]? = some x ∧ l[j]? = some x := by
    refine Classical.byContradiction fun hx => hnd ?_
    unfold List.Nodup
    rw [List.pairwise_iff_getElem]
    intro i j hi hj hij he
    exact hx ⟨i, j, hij, l[i], List.getElem?_eq_getElem hi, by rw [he]; exact List.getElem?_eq_getElem hj⟩
  obtain ⟨i, j, hij, x, hx, hy⟩ := this
  exact ⟨x, h1 x (List.mem_of_getElem? hx), h2 i j x x hij hx hy⟩
theorem ring_knot {E : Nat → Nat → Prop} {v : Nat} (h : Walk E v v) : E v v ∨ ∃ u, u ≠ v ∧ Knot E v u := by
  have key : ∀ {a b : Nat}, Walk E a b → b = v → Back E v a → E v v ∨ ∃ u, u ≠ v ∧ Knot E v u := by
    intro a b h
    induction h with
    | @one a b g =>
      intro e hb
      subst e
      by_cases ha : a = b
      · subst ha; exact .inl g
      · exact .inr ⟨a, ha, hb, .inr (.one g)⟩
    | @more a b c g t ih =>
      intro e hb
      subst e
      by_cases ha : a = c
      · subst ha
        by_cases hbc : b = a
        · subst hbc; exact .inl g
        · exact .inr ⟨b, hbc, .inr (.one g), .inr t⟩
      · exact .inr ⟨a, ha, hb, .inr (.more g t)⟩
  exact key h rfl (.inl rfl)
end Go.Proofs.YtmfibianieboeaaGreat
set_option linter.unusedVariables false
namespace Go.Proofs.YtmfibianieboeaaGreat

def needE (es : List (Nat × Nat)) (u : Int) : List Int := (es.filter fun e => (e.2 : Int) == u).map fun e => (e.1 : Int)
theorem mem_needE {es : List (Nat × Nat)} {u : Nat} {d : Int} : d ∈ needE es (u : Int) ↔ ∃ e ∈ es, e.2 = u ∧ d = (e.1 : Int) := by
  simp only [needE, List.mem_map, List.mem_filter, beq_iff_eq, Int.natCast_inj]
  constructor
  · rintro ⟨e, ⟨a, b⟩, c⟩; exact ⟨e, a, b, c.symm⟩
  · rintro ⟨e, a, b, c⟩; exact ⟨e, ⟨a, b⟩, c.symm⟩
theorem canB_iff {es : List (Nat × Nat)} {told : List Int} {u : Nat} : canB (needE es) told u = true ↔ (u : Int) ∉ told ∧ ∀ e ∈ es, e.2 = u → (e.1 : Int) ∈ told := by
  unfold canB waitK
  simp only [Bool.and_eq_true, Bool.not_eq_true', beq_iff_eq, List.countP_eq_zero]
  constructor
  · rintro ⟨a, b⟩
    refine ⟨by simpa using a, fun e he h2 => ?_⟩
    have := b _ (mem_needE.2 ⟨e, he, h2, rfl⟩)
    simpa using this
  · rintro ⟨a, b⟩
    refine ⟨by simpa using a, fun d hd => ?_⟩
    obtain ⟨e, he, h2, rfl⟩ := mem_needE.1 hd
    simpa using b e he h2
theorem next_of {es : List (Nat × Nat)} {n u : Nat} {told : List Int} (hu : u < n) (hc : canB (needE es) told u = true) (hl : ∀ k, k < u → canB (needE es) told k = false) : nextK (needE es) n told = some u := find_range hu hc hl
theorem next_min {need : Int → List Int} {n u : Nat} {told : List Int} (h : nextK need n told = some u) {k : Nat} (hk : k < u) : canB need told k = false := by
  unfold nextK at h
  rw [List.find?_eq_some_iff_append] at h
  obtain ⟨hc, as, bs, he, hn⟩ := h
  have hun := (next_lt (need := need) (n := n) (told := told) (u := u) (by unfold nextK; rw [List.find?_eq_some_iff_append]; exact ⟨hc, as, bs, he, hn⟩)).1
  have hlen : as.length = u := by
    have h1 : (List.range n)[as.length]? = some u := by rw [he]; simp
    rw [List.getElem?_range (by have := congrArg List.length he; simp at this; omega)] at h1
    exact Option.some.inj h1
  have hk2 : k ∈ as := by
    have h1 : (List.range n)[k]? = some k := List.getElem?_range (by omega)
    rw [he, List.getElem?_append_left (by omega)] at h1
    exact List.mem_of_getElem? h1
  simpa using hn k hk2
theorem next_none {need : Int → List Int} {n : Nat} {told : List Int} (h : nextK need n told = none) {k : Nat} (hk : k < n) : canB need told k = false := by
  unfold nextK at h
  rw [List.find?_eq_none] at h
  simpa using h k (List.mem_range.2 hk)
theorem reach_beh {need : Int → List Int} {n : Nat} {told : List Int} (h : ReachK need n told) : ∀ (k : Nat) x, told[k]? = some x → ∀ d ∈ need x, ∃ j : Nat, j < k ∧ told[j]? = some d := by
  induction h with
  | nil => intro k x hk; simp at hk
  | @step told u h hu ih =>
    intro k x hk d hd
    rcases Nat.lt_or_ge k told.length with hlt | hge
    · rw [List.getElem?_append_left hlt] at hk
      obtain ⟨j, hj, he⟩ := ih k x hk d hd
      exact ⟨j, hj, by rw [List.getElem?_append_left (by omega)]; exact he⟩
    · have hkl := (List.getElem?_eq_some_iff.1 hk).1
      rw [List.length_append, List.length_singleton] at hkl
      obtain rfl : k = told.length := by omega
      rw [List.getElem?_append_right (Nat.le_refl _), Nat.sub_self] at hk
      simp at hk
      subst hk
      have hc := (next_lt hu).2
      unfold canB waitK at hc
      simp only [Bool.and_eq_true, beq_iff_eq, List.countP_eq_zero] at hc
      have := hc.2 d hd
      simp at this
      obtain ⟨j, hj⟩ := List.getElem?_of_mem this
      exact ⟨j, (List.getElem?_eq_some_iff.1 hj).1, by rw [List.getElem?_append_left (List.getElem?_eq_some_iff.1 hj).1]; exact hj⟩
theorem nodupI_at {l : List Int} (h : l.Nodup) {i j : Nat} {v : Int} (hi : l[i]? = some v) (hj : l[j]? = some v) : i = j := (List.getElem?_inj (List.getElem?_eq_some_iff.1 hi).1 h).1 (hi.trans hj.symm)
theorem reach_noring {es : List (Nat × Nat)} {n : Nat} {told : List Int} (h : ReachK (needE es) n told) {a b : Nat} (hw : Walk (fun a b => (a, b) ∈ es) a b) (hb : (b : Int) ∈ told) : ∃ i j : Nat, i < j ∧ told[i]? = some (a : Int) ∧ told[j]? = some (b : Int) := by
  induction hw with
  | @one a b he =>
    obtain ⟨j, hj⟩ := List.getElem?_of_mem hb
    obtain ⟨i, hi, e⟩ := reach_beh h j _ hj (a : Int) (mem_needE.2 ⟨_, he, rfl, rfl⟩)
    exact ⟨i, j, hi, e, hj⟩
  | @more a b c he _ ih =>
    obtain ⟨i, j, hij, hi, hj⟩ := ih hb
    obtain ⟨k, hk, e⟩ := reach_beh h i _ hi (a : Int) (mem_needE.2 ⟨_, he, rfl, rfl⟩)
    exact ⟨k, j, by omega, e, hj⟩
theorem full_mem {l : List Int} {n : Nat} (hn : l.Nodup) (h : ∀ x ∈ l, ∃ u : Nat, u < n ∧ x = (u : Int)) (hl : l.length = n) {v : Nat} (hv : v < n) : (v : Int) ∈ l := by
  refine Classical.byContradiction fun hx => ?_
  have h1 : (l ++ [(v : Int)]).Nodup := by
    rw [List.nodup_append]
    exact ⟨hn, by simp, fun a ha b hb e => hx (by simp at hb; rw [← hb, ← e]; exact ha)⟩
  have := nodup_len h1 (n := n) (fun x hx => by
    rcases List.mem_append.1 hx with hx | hx
    · exact h x hx
    · simp at hx; exact ⟨v, hv, hx⟩)
  simp at this
  omega
theorem nodup_sub : ∀ {a b : List Int}, a.Nodup → (∀ x ∈ a, x ∈ b) → a.length ≤ b.length
  | [], _, _, _ => by simp
  | x :: a, b, hn, h => by
    rw [List.nodup_cons] at hn
    have h1 := nodup_sub (a := a) (b := b.erase x) hn.2 (fun y hy => (List.mem_erase_of_ne (fun e => hn.1 (by rw [← e]; exact hy))).2 (h y (by simp [hy])))
    have h2 := List.length_erase_of_mem (h x (by simp))
    have h3 := List.length_pos_of_mem (h x (by simp))
    rw [List.length_cons]
    omega
theorem stuck_ring {es : List (Nat × Nat)} {n : Nat} {told : List Int} (hr : ∀ e ∈ es, e.1 < n) (h : ReachK (needE es) n told) (hN : nextK (needE es) n told = none) (hl : told.length ≠ n) : ∃ u, u < n ∧ Walk (fun a b => (a, b) ∈ es) u u := by
  obtain ⟨hnd, hlt⟩ := reach_tame h
  have hle := reach_len h
  have hex : ∃ v, v < n ∧ (v : Int) ∉ told := by
    refine Classical.byContradiction fun hx => ?_
    have h1 : ∀ v : Nat, v < n → (v : Int) ∈ told := fun v hv => Classical.byContradiction fun hy => hx ⟨v, hv, hy⟩
    have h2 : ((List.range n).map fun v : Nat => (v : Int)).Nodup := by
      rw [List.Nodup, List.pairwise_map]
      exact (List.nodup_range).imp fun hab e => hab (by omega)
    have h3 := nodup_sub h2 (fun x hx => by
      obtain ⟨v, hv, rfl⟩ := List.mem_map.1 hx
      exact h1 v (List.mem_range.1 hv))
    simp at h3
    omega
  obtain ⟨v, hv, hvt⟩ := hex
  obtain ⟨u, hu, hw⟩ := ring_of (E := fun a b => (a, b) ∈ es) (P := fun v => v < n ∧ (v : Int) ∉ told) (n := n) (fun v h => h.1) (fun v hv => by
    have hc := next_none hN hv.1
    refine Classical.byContradiction fun hx => ?_
    have : canB (needE es) told v = true := canB_iff.2 ⟨hv.2, fun e he h2 => Classical.byContradiction fun hy => hx ⟨e.1, ⟨hr e he, hy⟩, by subst h2; exact he⟩⟩
    rw [hc] at this
    cases this) ⟨hv, hvt⟩
  exact ⟨u, hu.1, hw⟩

structure Tied (n : Nat) (es : List (Nat × Nat)) (T : List Nat) : Prop where
  asc : T.Pairwise (· < ·)
  lt : ∀ t ∈ T, t < n
  fst : ∀ e ∈ es, e.1 ∈ T
  snd : ∀ e ∈ es, e.2 ∈ T
def renE (T : List Nat) (es : List (Nat × Nat)) : List (Nat × Nat) := es.map fun e => (T.idxOf e.1, T.idxOf e.2)
theorem Tied.nd {n : Nat} {es : List (Nat × Nat)} {T : List Nat} (h : Tied n es T) : T.Nodup := h.asc.imp fun hab e => by omega
theorem idx_at {T : List Nat} {t : Nat} (h : t ∈ T) : T[T.idxOf t]? = some t := by
  have := List.idxOf_lt_length_of_mem h
  rw [List.getElem?_eq_getElem this]
  simp
theorem Tied.idx {n : Nat} {es : List (Nat × Nat)} {T : List Nat} (h : Tied n es T) {p t : Nat} (hp : T[p]? = some t) : T.idxOf t = p := nodup_at h.nd (idx_at (List.mem_of_getElem? hp)) hp
theorem Tied.lt_iff {n : Nat} {es : List (Nat × Nat)} {T : List Nat} (h : Tied n es T) {p q a b : Nat} (hp : T[p]? = some a) (hq : T[q]? = some b) : p < q ↔ a < b := by
  have hpl := (List.getElem?_eq_some_iff.1 hp)
  have hql := (List.getElem?_eq_some_iff.1 hq)
  obtain ⟨h1, rfl⟩ := hpl
  obtain ⟨h2, rfl⟩ := hql
  have := List.pairwise_iff_getElem.1 h.asc
  constructor
  · intro hlt; exact this p q h1 h2 hlt
  · intro hlt
    rcases Nat.lt_trichotomy p q with h3 | h3 | h3
    · exact h3
    · subst h3; omega
    · have := this q p h2 h1 h3; omega
def MergeI (T : List Nat) (L : List Int) (i c : Nat) (out : List Int) : Prop := ∀ x : Nat, (x : Int) ∈ out ↔ (x < i ∧ x ∉ T) ∨ ∃ p : Nat, (p : Int) ∈ L.take c ∧ T[p]? = some x
structure MergeS (n : Nat) (es : List (Nat × Nat)) (T : List Nat) (L : List Int) (i c : Nat) (out : List Int) : Prop where
  reach : ReachK (needE es) n out
  mem : MergeI T L i c out
theorem merge_begin (n : Nat) (es : List (Nat × Nat)) (T : List Nat) (L : List Int) : MergeS n es T L 0 0 [] := ⟨.nil, fun x => by simp⟩
theorem merge_skip {n : Nat} {es : List (Nat × Nat)} {T : List Nat} {L : List Int} {i c : Nat} {out : List Int} (h : MergeS n es T L i c out) (hi : i ∈ T) : MergeS n es T L (i + 1) c out := ⟨h.reach, fun x => by
  rw [h.mem x]
  constructor
  · rintro (⟨a, b⟩ | a)
    · exact .inl ⟨by omega, b⟩
    · exact .inr a
  · rintro (⟨a, b⟩ | a)
    · refine .inl ⟨?_, b⟩
      rcases Nat.lt_or_ge x i with h | h
      · exact h
      · obtain rfl : x = i := by omega
        exact absurd hi b
    · exact .inr a⟩
theorem merge_not {n : Nat} {es : List (Nat × Nat)} {T : List Nat} {L : List Int} {i c : Nat} {out : List Int} (hT : Tied n es T) (h : MergeS n es T L i c out) {k t : Nat} (hk : T[k]? = some t) (hc : canB (needE (renE T es)) (L.take c) k = false) : canB (needE es) out t = false := by
  rw [Bool.eq_false_iff]
  intro hx
  rw [Bool.eq_false_iff] at hc
  apply hc
  obtain ⟨h1, h2⟩ := canB_iff.1 hx
  refine canB_iff.2 ⟨fun hm => h1 ((h.mem t).2 (.inr ⟨k, hm, hk⟩)), fun e he he2 => ?_⟩
  obtain ⟨e0, he0, rfl⟩ := List.mem_map.1 he
  simp only at he2 ⊢
  have ht : e0.2 = t := by
    have := idx_at (hT.snd e0 he0)
    rw [he2, hk] at this
    exact (Option.some.inj this).symm
  rcases (h.mem e0.1).1 (h2 e0 he0 ht) with ⟨_, b⟩ | ⟨p, hp, hpt⟩
  · exact absurd (hT.fst e0 he0) b
  · rw [hT.idx hpt]; exact hp
theorem merge_tied {n m : Nat} {es : List (Nat × Nat)} {T : List Nat} {L : List Int} {i c p t : Nat} {out : List Int} (hT : Tied n es T) (hm : m = T.length) (hL : ReachK (needE (renE T es)) m L) (h : MergeS n es T L i c out) (hp : L[c]? = some (p : Int)) (ht : T[p]? = some t) (hi : t < i ∨ i = n)
    (hnx : nextK (needE (renE T es)) m (L.take c) = some p) : MergeS n es T L i (c + 1) (out ++ [(t : Int)]) := by
  have hpc : canB (needE (renE T es)) (L.take c) p = true := (next_lt hnx).2
  obtain ⟨c1, c2⟩ := canB_iff.1 hpc
  have htn : t < n := hT.lt t (List.mem_of_getElem? ht)
  refine ⟨.step h.reach (next_of htn ?_ ?_), fun x => ?_⟩
  · refine canB_iff.2 ⟨fun hx => ?_, fun e he he2 => ?_⟩
    · rcases (h.mem t).1 hx with ⟨_, b⟩ | ⟨q, hq, hqt⟩
      · exact b (List.mem_of_getElem? ht)
      · obtain rfl : q = p := nodup_at hT.nd hqt ht
        exact c1 hq
    · subst he2
      have h1 := c2 _ (List.mem_map.2 ⟨e, he, rfl⟩) (hT.idx ht)
      exact (h.mem e.1).2 (.inr ⟨_, h1, idx_at (hT.fst e he)⟩)
  · intro k hk
    by_cases hkT : k ∈ T
    · have hk1 := idx_at hkT
      exact merge_not hT h hk1 (next_min hnx ((hT.lt_iff hk1 ht).2 hk))
    · rw [Bool.eq_false_iff]
      intro hx
      exact (canB_iff.1 hx).1 ((h.mem k).2 (.inl ⟨by omega, hkT⟩))
  · have h1 : L.take (c + 1) = L.take c ++ [(p : Int)] := by rw [List.take_add_one, hp]; rfl
    rw [List.mem_append, h.mem x, h1]
    constructor
    · rintro ((a | ⟨q, a, b⟩) | a)
      · exact .inl a
      · exact .inr ⟨q, by simp [a], b⟩
      · simp at a
        obtain rfl : x = t := by omega
        exact .inr ⟨p, by simp, ht⟩
    · rintro (a | ⟨q, a, b⟩)
      · exact .inl (.inl a)
      · rcases List.mem_append.1 a with a | a
        · exact .inl (.inr ⟨q, a, b⟩)
        · simp at a
          obtain rfl : q = p := by omega
          have : t = x := Option.some.inj (ht.symm.trans b)
          right; simp [this]
theorem merge_free {n m : Nat} {es : List (Nat × Nat)} {T : List Nat} {L : List Int} {i c : Nat} {out : List Int} (hT : Tied n es T) (hm : m = T.length) (h : MergeS n es T L i c out) (hi : i ∉ T) (hin : i < n)
    (hnx : nextK (needE (renE T es)) m (L.take c) = none ∨ ∃ p t : Nat, T[p]? = some t ∧ i < t ∧ nextK (needE (renE T es)) m (L.take c) = some p) : MergeS n es T L (i + 1) c (out ++ [(i : Int)]) := by
  refine ⟨.step h.reach (next_of hin ?_ ?_), fun x => ?_⟩
  · refine canB_iff.2 ⟨fun hx => ?_, fun e he he2 => ?_⟩
    · rcases (h.mem i).1 hx with ⟨a, _⟩ | ⟨q, _, hqt⟩
      · omega
      · exact hi (List.mem_of_getElem? hqt)
    · subst he2
      exact absurd (hT.snd e he) hi
  · intro k hk
    by_cases hkT : k ∈ T
    · have hk1 := idx_at hkT
      refine merge_not hT h hk1 ?_
      rcases hnx with hN | ⟨p, t, ht, hit, hN⟩
      · exact next_none hN (by rw [hm]; exact List.idxOf_lt_length_of_mem hkT)
      · exact next_min hN ((hT.lt_iff hk1 ht).2 (by omega))
    · rw [Bool.eq_false_iff]
      intro hx
      exact (canB_iff.1 hx).1 ((h.mem k).2 (.inl ⟨by omega, hkT⟩))
  · rw [List.mem_append, h.mem x]
    constructor
    · rintro ((⟨a, b⟩ | a) | a)
      · exact .inl ⟨by omega, b⟩
      · exact .inr a
      · simp at a
        obtain rfl : x = i := by omega
        exact .inl ⟨by omega, hi⟩
    · rintro (⟨a, b⟩ | a)
      · by_cases e : x = i
        · subst e; simp
        · exact .inl (.inl ⟨by omega, b⟩)
      · exact .inl (.inr a)
theorem line_next {need : Int → List Int} {m : Nat} {L : List Int} (h : ReachK need m L) : ∀ {c : Nat} {x : Int}, L[c]? = some x → ∃ p : Nat, p < m ∧ x = (p : Int) ∧ nextK need m (L.take c) = some p := by
  induction h with
  | nil => intro c x h; simp at h
  | @step told u h hu ih =>
    intro c x hx
    rcases Nat.lt_or_ge c told.length with hlt | hge
    · rw [List.getElem?_append_left hlt] at hx
      obtain ⟨p, a, b, e⟩ := ih hx
      exact ⟨p, a, b, by rw [List.take_append_of_le_length (by omega)]; exact e⟩
    · have hl := (List.getElem?_eq_some_iff.1 hx).1
      rw [List.length_append, List.length_singleton] at hl
      obtain rfl : c = told.length := by omega
      rw [List.getElem?_append_right (Nat.le_refl _), Nat.sub_self] at hx
      simp at hx
      exact ⟨u, (next_lt hu).1, hx.symm, by rw [List.take_left']; exact hu; rfl⟩
def SortR (n : Nat) (es : List (Nat × Nat)) (out : List Int) (ok : Bool) : Prop := (ok = true ∧ ReachK (needE es) n out ∧ out.length = n) ∨ (ok = false ∧ out = [] ∧ ∀ told, ReachK (needE es) n told → told.length ≠ n)
theorem SortR.unique {n : Nat} {es : List (Nat × Nat)} {a b : List Int} {x y : Bool} (h : SortR n es a x) (t : SortR n es b y) : a = b ∧ x = y := by
  rcases h with ⟨rfl, h1, h2⟩ | ⟨rfl, rfl, h⟩ <;> rcases t with ⟨rfl, t1, t2⟩ | ⟨rfl, rfl, t⟩
  · exact ⟨reach_end h1 t1 (reach_full h1 h2) (reach_full t1 t2), rfl⟩
  · exact absurd h2 (t a h1)
  · exact absurd t2 (h b t1)
  · exact ⟨rfl, rfl⟩
theorem merge_end {n m : Nat} {es : List (Nat × Nat)} {T : List Nat} {L out : List Int} (hT : Tied n es T) (hm : m = T.length) (hL : ReachK (needE (renE T es)) m L) (hl : L.length = m) (h : MergeS n es T L n L.length out) : SortR n es out true := by
  left
  obtain ⟨hnd, hlt⟩ := reach_tame h.reach
  refine ⟨rfl, h.reach, Nat.le_antisymm (reach_len h.reach) ?_⟩
  have hall : ∀ v : Nat, v < n → (v : Int) ∈ out := fun v hv => by
    by_cases hvT : v ∈ T
    · have h1 := idx_at hvT
      obtain ⟨hn2, hlt2⟩ := reach_tame hL
      refine (h.mem v).2 (.inr ⟨_, ?_, h1⟩)
      rw [List.take_length]
      exact full_mem hn2 hlt2 hl (by rw [hm]; exact List.idxOf_lt_length_of_mem hvT)
    · exact (h.mem v).2 (.inl ⟨hv, hvT⟩)
  have h2 : ((List.range n).map fun v : Nat => (v : Int)).Nodup := by
    rw [List.Nodup, List.pairwise_map]
    exact (List.nodup_range).imp fun hab e => hab (by omega)
  have h3 := nodup_sub h2 (fun x hx => by
    obtain ⟨v, hv, rfl⟩ := List.mem_map.1 hx
    exact hall v (List.mem_range.1 hv))
  simpa using h3
theorem sort_stuck {n m : Nat} {es : List (Nat × Nat)} {T : List Nat} {L : List Int} (hT : Tied n es T) (hm : m = T.length) (hL : ReachK (needE (renE T es)) m L) (hN : nextK (needE (renE T es)) m L = none) (hl : L.length ≠ m) : SortR n es [] false := by
  refine .inr ⟨rfl, rfl, fun told ht hn => ?_⟩
  obtain ⟨u, hu, hw⟩ := stuck_ring (fun e he => by
    obtain ⟨e0, he0, rfl⟩ := List.mem_map.1 he
    rw [hm]; exact List.idxOf_lt_length_of_mem (hT.fst e0 he0)) hL hN hl
  have hback : ∀ {a b : Nat}, Walk (fun a b => (a, b) ∈ renE T es) a b → ∃ x y, T[a]? = some x ∧ T[b]? = some y ∧ Walk (fun a b => (a, b) ∈ es) x y := by
    intro a b h
    induction h with
    | @one a b he =>
      obtain ⟨e0, he0, e⟩ := List.mem_map.1 he
      injection e with e1 e2
      subst e1; subst e2
      exact ⟨_, _, idx_at (hT.fst e0 he0), idx_at (hT.snd e0 he0), .one he0⟩
    | @more a b c he _ ih =>
      obtain ⟨e0, he0, e⟩ := List.mem_map.1 he
      injection e with e1 e2
      subst e1; subst e2
      obtain ⟨x, y, hx, hy, hw⟩ := ih
      rw [idx_at (hT.snd e0 he0)] at hx
      obtain rfl := Option.some.inj hx
      exact ⟨_, y, idx_at (hT.fst e0 he0), hy, .more he0 hw⟩
  obtain ⟨x, y, hx, hy, hw2⟩ := hback hw
  obtain rfl : x = y := Option.some.inj (hx.symm.trans hy)
  obtain ⟨hnd, hlt⟩ := reach_tame ht
  obtain ⟨i, j, hij, hi, hj⟩ := reach_noring ht hw2 (full_mem hnd hlt hn (hT.lt x (List.mem_of_getElem? hx)))
  have := nodupI_at hnd hi hj
  omega
end Go.Proofs.YtmfibianieboeaaGreat
