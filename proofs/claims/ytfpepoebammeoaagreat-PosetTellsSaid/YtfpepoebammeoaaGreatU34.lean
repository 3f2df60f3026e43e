/- Mathematics of a board of an order: what is single in a line, and the runs. Mathematics of reaches: the two sweeps. Sides (mathematics): the groups that joined edges make of a board's things are those of comparability. What the program asks of an edge before it joins it. Of package poset: a board's size, thing and line. -/
import Derived.Deep.RegionHeld3
import Derived.Test.YtfpepoebammeoaaGreatU24
import Derived.Test.YtfpepoebammeoaaGreatU27
import Derived.Test.YtfpepoebammeoaaGreatU33
import Derived.Test.YtfpepoebammeoaaGreatU5
set_option linter.unusedVariables false
namespace Go.Proofs.YtfpepoebammeoaaGreat

def minF (c : Int) (h : Int → Int) (l : List Int) : Int := l.foldr (fun x b => min b (h x)) c
def maxF (c : Int) (h : Int → Int) (l : List Int) : Int := l.foldl (fun b x => max b (h x)) c
theorem minF_le {c k : Int} {h : Int → Int} : ∀ {l : List Int}, k ≤ minF c h l ↔ k ≤ c ∧ ∀ x ∈ l, k ≤ h x
  | [] => by simp [minF]
  | x :: l => by
    have ih := minF_le (c := c) (k := k) (h := h) (l := l)
    unfold minF at *
    rw [List.foldr_cons, List.forall_mem_cons, Int.le_min, ih]
    constructor
    · rintro ⟨⟨a, b⟩, d⟩; exact ⟨a, d, b⟩
    · rintro ⟨a, d, b⟩; exact ⟨⟨a, b⟩, d⟩
theorem maxF_snoc (c : Int) (h : Int → Int) (l : List Int) (x : Int) : maxF c h (l ++ [x]) = max (maxF c h l) (h x) := by simp [maxF]
theorem maxF_le {c k : Int} {h : Int → Int} {l : List Int} : maxF c h l ≤ k ↔ c ≤ k ∧ ∀ x ∈ l, h x ≤ k := by
  have key : ∀ (l : List Int) (c : Int), l.foldl (fun b x => max b (h x)) c ≤ k ↔ c ≤ k ∧ ∀ x ∈ l, h x ≤ k := by
    intro l
    induction l with
    | nil => intro c; simp
    | cons x l ih =>
      intro c
      rw [List.foldl_cons, ih, List.forall_mem_cons, Int.max_le]
      constructor
      · rintro ⟨⟨a, b⟩, d⟩; exact ⟨a, b, d⟩
      · rintro ⟨a, b, d⟩; exact ⟨⟨a, b⟩, d⟩
  exact key l c
def bkM (f : Nat → Int) (D : Nat) (L : List Int) (k : Nat) : Int := minF L.length (fun x => f (D + x.toNat)) (L.drop k)
def onM (g : Nat → Int) (D : Nat) (L : List Int) (k : Nat) : Int := maxF (-1) (fun x => g (D + x.toNat)) (L.take k)
theorem bkM_end (f : Nat → Int) (D : Nat) (L : List Int) : bkM f D L L.length = L.length := by simp [bkM, minF]
theorem bkM_at {f : Nat → Int} {D : Nat} {L : List Int} {k : Nat} {i : Nat} (h : L[k]? = some (i : Int)) : bkM f D L k = min (bkM f D L (k + 1)) (f (D + i)) := by
  obtain ⟨hk, e⟩ := List.getElem?_eq_some_iff.1 h
  unfold bkM minF
  rw [List.drop_eq_getElem_cons hk, e]
  simp
theorem onM_zero (g : Nat → Int) (D : Nat) (L : List Int) : onM g D L 0 = -1 := by simp [onM, maxF]
theorem onM_at {g : Nat → Int} {D : Nat} {L : List Int} {k : Nat} {i : Nat} (h : L[k]? = some (i : Int)) : onM g D L (k + 1) = max (onM g D L k) (g (D + i)) := by
  unfold onM
  rw [List.take_add_one, h]
  exact maxF_snoc _ _ _ _
def sglB (f g : Nat → Int) (D : Nat) (L : List Int) (k : Nat) : Bool := decide ((k : Int) ≤ bkM f D L (k + 1)) && decide (onM g D L k ≤ (k : Int))
section
variable {R : Nat → Nat → Prop} {m D : Nat} {rk : Nat → Nat} {E : EdN} {L : List Int} {f g : Nat → Int}
theorem line_at (hL : ReachK (needE (pairA R m)) m L) {k : Nat} {x : Int} (h : L[k]? = some x) : ∃ i : Nat, i < m ∧ x = (i : Int) := (reach_tame hL).2 _ (List.mem_of_getElem? h)
theorem line_lt (hL : ReachK (needE (pairA R m)) m L) {k i : Nat} (h : L[k]? = some (i : Int)) : i < m := by
  obtain ⟨j, hj, e⟩ := line_at hL h
  omega
theorem bk_is (hL : ReachK (needE (pairA R m)) m L) (hB : BoardS R m D rk E) (hf : BkI (ownB D L L.length) E f) {q j : Nat} (hq : L[q]? = some (j : Int)) {k : Nat} (h : (k : Int) ≤ f (D + j)) : ∃ (p i : Nat), k ≤ p ∧ L[p]? = some (i : Int) ∧ R i j := by
  have hj : j < m := line_lt hL hq
  obtain ⟨h1, _, _⟩ := hf (D + j)
  rcases h1 with h1 | ⟨y, hw, e⟩
  · omega
  · obtain ⟨hD, p, hp, e2⟩ := own_back (L := L) (y := y) (D := D) (by omega)
    obtain ⟨i, hi, e3⟩ := line_at hL hp
    have : y = D + i := by omega
    subst this
    exact ⟨p, i, by omega, by rw [hp]; congr 1, (hB.walk i j hi hj).1 hw⟩
theorem on_is (hL : ReachK (needE (pairA R m)) m L) (hB : BoardS R m D rk E) (hl : L.length = m) (hg : OnI (ownO D L L.length) m E g) {q j : Nat} (hq : L[q]? = some (j : Int)) {k : Nat} (hk : k < m) (h : g (D + j) ≤ (k : Int)) : ∃ (p i : Nat), p ≤ k ∧ L[p]? = some (i : Int) ∧ R j i := by
  have hj : j < m := line_lt hL hq
  obtain ⟨h1, _, _⟩ := hg (D + j)
  rcases h1 with h1 | ⟨y, hw, e⟩
  · omega
  · obtain ⟨hD, p, hp, e2⟩ := own_on (L := L) (y := y) (D := D) (by omega)
    obtain ⟨i, hi, e3⟩ := line_at hL hp
    have : y = D + i := by omega
    subst this
    exact ⟨p, i, by omega, by rw [hp]; congr 1, (hB.walk j i hj hi).1 hw⟩
theorem sgl_iff (hL : ReachK (needE (pairA R m)) m L) (hB : BoardS R m D rk E) (hl : L.length = m) (htr : ∀ a b c, R a b → R b c → R a c) (hf : BkI (ownB D L L.length) E f) (hg : OnI (ownO D L L.length) m E g) {k i : Nat} (hk : L[k]? = some (i : Int)) :
    sglB f g D L k = true ↔ ∀ q j : Nat, L[q]? = some (j : Int) → (k < q → R i j) ∧ (q < k → R j i) := by
  obtain ⟨n1, n2⟩ := reach_tame hL
  have hkl := (List.getElem?_eq_some_iff.1 hk).1
  have him : i < m := line_lt hL hk
  have ownAt : ∀ {p j : Nat}, L[p]? = some (j : Int) → ownB D L L.length (D + j) = p ∧ ownO D L L.length (D + j) = p := fun {p j} hp => own_end (y := D + j) n1 (by rw [show D + j - D = j by omega]; exact hp) (by omega)
  have h1 : (k : Int) ≤ bkM f D L (k + 1) ↔ ∀ q j : Nat, L[q]? = some (j : Int) → k < q → R i j := by
    unfold bkM
    rw [minF_le]
    constructor
    · rintro ⟨_, h⟩
      have key : ∀ (q : Nat), ∀ j : Nat, L[q]? = some (j : Int) → k < q → R i j := by
        intro q
        induction q using Nat.strongRecOn with
        | ind q ih =>
          intro j hq hlt
          have := h (j : Int) (by
            refine List.mem_of_getElem? (i := q - (k + 1)) ?_
            rw [List.getElem?_drop, show k + 1 + (q - (k + 1)) = q by omega]; exact hq)
          rw [Int.toNat_natCast] at this
          obtain ⟨p, a, hp, hpa, hR⟩ := bk_is hL hB hf hq this
          have hpq := line_ahead hL hpa hq hR
          rcases Nat.eq_or_lt_of_le hp with e | hkp
          · subst e
            rw [hk] at hpa
            have : i = a := by have := Option.some.inj hpa; omega
            rw [this]; exact hR
          · exact htr _ _ _ (ih p hpq a hpa hkp) hR
      exact key
    · intro h
      refine ⟨by omega, fun x hx => ?_⟩
      obtain ⟨t, ht⟩ := List.mem_iff_getElem?.1 hx
      rw [List.getElem?_drop] at ht
      obtain ⟨j, hj, rfl⟩ := line_at hL ht
      have hR := h _ j ht (by omega)
      rw [Int.toNat_natCast]
      have := (hf (D + j)).2.2 (D + i) ((hB.walk i j him hj).2 hR)
      rw [(ownAt hk).1] at this
      exact this
  have h2 : onM g D L k ≤ (k : Int) ↔ ∀ q j : Nat, L[q]? = some (j : Int) → q < k → R j i := by
    unfold onM
    rw [maxF_le]
    constructor
    · rintro ⟨_, h⟩
      have key : ∀ (d : Nat), ∀ q j : Nat, k - q = d → L[q]? = some (j : Int) → q < k → R j i := by
        intro d
        induction d using Nat.strongRecOn with
        | ind d ih =>
          intro q j hd hq hlt
          have := h (j : Int) (by
            refine List.mem_of_getElem? (i := q) ?_
            rw [List.getElem?_take_of_lt hlt]; exact hq)
          rw [Int.toNat_natCast] at this
          obtain ⟨p, a, hp, hpa, hR⟩ := on_is hL hB hl hg hq (by omega) this
          have hpq := line_ahead hL hq hpa hR
          rcases Nat.eq_or_lt_of_le hp with e | hkp
          · subst e
            rw [hk] at hpa
            have : i = a := by have := Option.some.inj hpa; omega
            rw [this]; exact hR
          · exact htr _ _ _ hR (ih (k - p) (by omega) p a rfl hpa hkp)
      exact fun q j => key _ q j rfl
    · intro h
      refine ⟨by omega, fun x hx => ?_⟩
      obtain ⟨t, ht⟩ := List.mem_iff_getElem?.1 hx
      have htk : t < k := by have := (List.getElem?_eq_some_iff.1 ht).1; rw [List.length_take] at this; omega
      rw [List.getElem?_take_of_lt htk] at ht
      obtain ⟨j, hj, rfl⟩ := line_at hL ht
      have hR := h _ j ht (by omega)
      rw [Int.toNat_natCast]
      have := (hg (D + j)).2.2 (D + i) ((hB.walk j i hj him).2 hR)
      rw [(ownAt hk).2] at this
      exact this
  unfold sglB
  rw [Bool.and_eq_true, decide_eq_true_iff, decide_eq_true_iff, h1, h2]
  constructor
  · rintro ⟨a, b⟩ q j hq
    exact ⟨a q j hq, b q j hq⟩
  · exact fun h => ⟨fun q j hq => (h q j hq).1, fun q j hq => (h q j hq).2⟩
end

def putL {α : Type} (G : List (List α)) (y : α) : List (List α) := G.dropLast ++ [(G.getLast?.getD []) ++ [y]]
def newR (s : Nat → Bool) (k : Nat) : Bool := k == 0 || s k || s (k - 1)
def runL {α : Type} (s : Nat → Bool) (x : Nat → α) : Nat → List (List α)
  | 0 => []
  | k + 1 => if newR s k then runL s x k ++ [[x k]] else putL (runL s x k) (x k)
theorem putL_len {α : Type} {G : List (List α)} (y : α) (h : G ≠ []) : (putL G y).length = G.length := by
  have := List.length_pos_iff.2 h
  simp [putL]; omega
theorem putL_set {α : Type} {G : List (List α)} (y : α) {g : List α} (h : G[G.length - 1]? = some g) : putL G y = G.set (G.length - 1) (g ++ [y]) := by
  have hne : G ≠ [] := fun e => by subst e; simp at h
  have e : G = G.dropLast ++ [g] := by
    conv => lhs; rw [← List.dropLast_concat_getLast hne]
    rw [List.getLast_eq_getElem]
    have := (List.getElem?_eq_some_iff.1 h).2
    rw [this]
  have hl : G.length - 1 = G.dropLast.length := by simp
  unfold putL
  rw [hl]
  conv => rhs; rw [e]
  rw [List.getLast?_eq_getElem?, h]
  simp
theorem runL_pos {α : Type} (s : Nat → Bool) (x : Nat → α) : ∀ k, 0 < k → runL s x k ≠ []
  | 0, h => absurd h (by omega)
  | k + 1, _ => by
    unfold runL putL
    split <;> simp
theorem runL_len {α : Type} (s : Nat → Bool) (x : Nat → α) : ∀ k, (runL s x k).length ≤ k
  | 0 => by simp [runL]
  | k + 1 => by
    have ih := runL_len s x k
    unfold runL
    split
    · simp; omega
    · rename_i h
      have hk : 0 < k := by
        rcases Nat.eq_zero_or_pos k with e | e
        · subst e; simp [newR] at h
        · exact e
      rw [putL_len _ (runL_pos s x k hk)]; omega
theorem putL_map {α β : Type} (f : α → β) (G : List (List α)) (y : α) : (putL G y).map (List.map f) = putL (G.map (List.map f)) (f y) := by
  unfold putL
  rw [List.map_append, List.map_dropLast, List.getLast?_map]
  cases G.getLast? <;> simp
theorem runL_map {α β : Type} (f : α → β) (s : Nat → Bool) (x : Nat → α) : ∀ k, (runL s x k).map (List.map f) = runL s (fun i => f (x i)) k
  | 0 => rfl
  | k + 1 => by
    have ih := runL_map f s x k
    unfold runL
    split
    · rw [List.map_append, ih]; rfl
    · rw [putL_map, ih]
structure RunI (s : Nat → Bool) (k : Nat) (G : List (List Nat)) : Prop where
  flat : G.flatten = List.range k
  ne : ∀ g ∈ G, g ≠ []
  two : ∀ (i j : Nat) (a b : List Nat) (p q : Nat), i < j → G[i]? = some a → G[j]? = some b → p ∈ a → q ∈ b → ∃ r, p ≤ r ∧ r ≤ q ∧ s r = true
  odd : ∀ g ∈ G, 1 < g.length → ∀ p ∈ g, s p = false
theorem getLast_split {α : Type} {G : List (List α)} (h : G ≠ []) : ∃ G0 g, G = G0 ++ [g] ∧ ∀ y, putL G y = G0 ++ [g ++ [y]] := by
  refine ⟨G.dropLast, G.getLast h, (List.dropLast_concat_getLast h).symm, fun y => ?_⟩
  unfold putL
  rw [List.getLast?_eq_some_getLast h]
  rfl
theorem runI_all (s : Nat → Bool) : ∀ k, RunI s k (runL s id k)
  | 0 => ⟨rfl, fun g h => by simp [runL] at h, fun i j a b p q _ h => by simp [runL] at h, fun g h => by simp [runL] at h⟩
  | k + 1 => by
    have ih := runI_all s k
    unfold runL
    generalize hG : runL s id k = G at ih ⊢
    have hlt : ∀ g ∈ G, ∀ p ∈ g, p < k := fun g hg p hp => by
      have : p ∈ G.flatten := List.mem_flatten.2 ⟨g, hg, hp⟩
      rw [ih.flat] at this
      exact List.mem_range.1 this
    split
    · rename_i hn
      refine ⟨by rw [List.flatten_append, ih.flat, List.range_succ]; rfl, fun g hg => ?_, fun i j a b p q hij ha hb hp hq => ?_, fun g hg hl => ?_⟩
      · rcases List.mem_append.1 hg with c | c
        · exact ih.ne g c
        · rw [List.mem_singleton.1 c]; simp
      · have hjl := (List.getElem?_eq_some_iff.1 hb).1
        rw [List.length_append, List.length_singleton] at hjl
        rw [List.getElem?_append_left (by omega)] at ha
        rcases Nat.lt_or_ge j G.length with c | c
        · rw [List.getElem?_append_left c] at hb
          exact ih.two i j a b p q hij ha hb hp hq
        · obtain rfl : j = G.length := by omega
          rw [List.getElem?_append_right (Nat.le_refl _), Nat.sub_self] at hb
          obtain rfl := Option.some.inj hb
          have hqk : q = k := List.mem_singleton.1 hq
          have hpk := hlt a (List.mem_of_getElem? ha) p hp
          unfold newR at hn
          rw [Bool.or_eq_true, Bool.or_eq_true, beq_iff_eq] at hn
          rcases hn with (hn | hn) | hn
          · omega
          · exact ⟨k, by omega, by omega, hn⟩
          · exact ⟨k - 1, by omega, by omega, hn⟩
      · rcases List.mem_append.1 hg with c | c
        · exact ih.odd g c hl
        · rw [List.mem_singleton.1 c] at hl; simp at hl
    · rename_i hn
      unfold newR at hn
      rw [Bool.or_eq_true, Bool.or_eq_true, beq_iff_eq] at hn
      have hk : 0 < k := by omega
      have hs : s k = false := by cases h : s k <;> simp_all
      have hs1 : s (k - 1) = false := by cases h : s (k - 1) <;> simp_all
      have hne : G ≠ [] := by rw [← hG]; exact runL_pos s id k hk
      obtain ⟨G0, g, rfl, hp⟩ := getLast_split hne
      show RunI s (k + 1) (putL (G0 ++ [g]) k)
      rw [hp k]
      have hgne := ih.ne g (by simp)
      have hlast : k - 1 ∈ g := by
        have h1 := ih.flat
        rw [List.flatten_append, show k = k - 1 + 1 by omega, List.range_succ, List.flatten_singleton] at h1
        have h2 : (G0.flatten ++ g).getLast? = (List.range (k - 1) ++ [k - 1]).getLast? := by rw [h1]
        rw [List.getLast?_append, List.getLast?_append, List.getLast?_eq_some_getLast hgne] at h2
        refine List.mem_of_getLast? (by rw [List.getLast?_eq_some_getLast hgne, ← Option.some_or, h2]; rfl)
      refine ⟨?_, fun h hh => ?_, fun i j a b p q hij ha hb hp hq => ?_, fun h hh hl p hp => ?_⟩
      · have h1 := ih.flat
        rw [List.flatten_append, List.flatten_singleton] at h1 ⊢
        rw [← List.append_assoc, h1, List.range_succ]
      · rcases List.mem_append.1 hh with c | c
        · exact ih.ne h (List.mem_append.2 (.inl c))
        · rw [List.mem_singleton.1 c]; simp
      · have hjl := (List.getElem?_eq_some_iff.1 hb).1
        rw [List.length_append, List.length_singleton] at hjl
        rw [List.getElem?_append_left (by omega)] at ha
        have ha' : (G0 ++ [g])[i]? = some a := by rw [List.getElem?_append_left (by omega)]; exact ha
        rcases Nat.lt_or_ge j G0.length with c | c
        · rw [List.getElem?_append_left c] at hb
          exact ih.two i j a b p q hij ha' (by rw [List.getElem?_append_left c]; exact hb) hp hq
        · obtain rfl : j = G0.length := by omega
          rw [List.getElem?_append_right (Nat.le_refl _), Nat.sub_self] at hb
          obtain rfl := Option.some.inj hb
          have hg' : (G0 ++ [g])[G0.length]? = some g := by rw [List.getElem?_append_right (Nat.le_refl _), Nat.sub_self]; rfl
          rcases List.mem_append.1 hq with c | c
          · exact ih.two i _ a g p q hij ha' hg' hp c
          · have hqk : q = k := List.mem_singleton.1 c
            obtain ⟨r, r1, r2, r3⟩ := ih.two i _ a g p _ hij ha' hg' hp hlast
            exact ⟨r, r1, by omega, r3⟩
      · rcases List.mem_append.1 hh with c | c
        · exact ih.odd h (List.mem_append.2 (.inl c)) hl p hp
        · have hh2 : h = g ++ [k] := List.mem_singleton.1 c
          rw [hh2] at hp
          rcases List.mem_append.1 hp with d | d
          · rcases Nat.lt_or_ge 1 g.length with e | e
            · exact ih.odd g (by simp) e p d
            · obtain ⟨z, rfl⟩ : ∃ z, g = [z] := by
                match g, hgne, e with
                | [z], _, _ => exact ⟨z, rfl⟩
              have hz : p = z := List.mem_singleton.1 d
              have : k - 1 = z := List.mem_singleton.1 hlast
              rw [hz, ← this]; exact hs1
          · have hz : p = k := List.mem_singleton.1 d
            rw [hz]; exact hs
end Go.Proofs.YtfpepoebammeoaaGreat
set_option linter.unusedVariables false
namespace Go.Proofs.YtfpepoebammeoaaGreat

def bkA (ob : Nat → Int) (E : EdN) : Nat → Int := E.foldl (bkS ob) fun _ => -1
def onA (oo : Nat → Int) (m : Int) (E : EdN) : Nat → Int := E.reverse.foldl (onS oo) fun _ => m
theorem bkA_take {ob : Nat → Int} {E : EdN} {j : Nat} {e : Nat × Nat} (h : E[j]? = some e) : bkA ob (E.take (j + 1)) = bkS ob (bkA ob (E.take j)) e := by
  unfold bkA
  rw [List.take_add_one, h, List.foldl_append]
  rfl
theorem bk_all {ob : Nat → Int} {rk : Nat → Nat} {E : EdN} (hu : ∀ e ∈ E, rk e.1 < rk e.2) (hs : E.Pairwise fun e f => rk e.1 ≤ rk f.1) (ho : ∀ y, -1 ≤ ob y) : BkI ob E (bkA ob E) := by
  have key : ∀ j, j ≤ E.length → BkI ob (E.take j) (bkA ob (E.take j)) := by
    intro j
    induction j with
    | zero => intro _; exact bk_first ob
    | succ j ih =>
      intro hj
      have he : E[j]? = some (E[j]'(by omega)) := List.getElem?_eq_getElem _
      rw [bkA_take he]
      have h1 : E.take (j + 1) = E.take j ++ [E[j]'(by omega)] := by rw [List.take_add_one, he]; rfl
      rw [h1]
      refine bk_step (rk := rk) (ih (by omega)) (fun f hf => ?_) (hu _ (List.mem_of_getElem? he)) (ho _)
      obtain ⟨t, ht, rfl⟩ := List.mem_take_iff_getElem.1 hf
      exact List.pairwise_iff_getElem.1 hs t j (by omega) (by omega) (by omega)
  have := key E.length (Nat.le_refl _)
  rw [List.take_length] at this
  exact this
theorem onA_cons (oo : Nat → Int) (m : Int) (e : Nat × Nat) (L : EdN) : onA oo m (e :: L) = onS oo (onA oo m L) e := by
  unfold onA
  rw [List.reverse_cons, List.foldl_append]
  rfl
theorem on_all {oo : Nat → Int} {m : Int} {rk : Nat → Nat} : ∀ {E : EdN}, (∀ e ∈ E, rk e.1 < rk e.2) → (E.Pairwise fun e f => rk e.1 ≤ rk f.1) → (∀ y, oo y ≤ m) → OnI oo m E (onA oo m E)
  | [], _, _, _ => on_first oo m
  | e :: L, hu, hs, ho => by
    obtain ⟨h1, h2⟩ := List.pairwise_cons.1 hs
    rw [onA_cons]
    exact on_step (rk := rk) (on_all (fun f hf => hu f (List.mem_cons_of_mem _ hf)) h2 ho) h1 (fun f hf => hu f (List.mem_cons_of_mem _ hf)) (hu e List.mem_cons_self) (ho _)
section
variable {R : Nat → Nat → Prop} {m D : Nat} {rk : Nat → Nat} {E : EdN} {L : List Int}
theorem single_iff (hL : ReachK (needE (pairA R m)) m L) (hB : BoardS R m D rk E) (hl : L.length = m) (htr : ∀ a b c, R a b → R b c → R a c) {k i : Nat} (hk : L[k]? = some (i : Int)) :
    sglB (bkA (ownB D L L.length) E) (onA (ownO D L L.length) m E) D L k = true ↔ ∀ q j : Nat, L[q]? = some (j : Int) → (k < q → R i j) ∧ (q < k → R j i) :=
  sgl_iff hL hB hl htr (bk_all hB.up hB.sorted (fun y => (own_tame L.length y).1)) (on_all hB.up hB.sorted (fun y => by have := (own_tame (D := D) (L := L) L.length y).2.2.2; omega)) hk
end
end Go.Proofs.YtfpepoebammeoaaGreat
set_option linter.unusedVariables false
set_option linter.unusedSimpArgs false
namespace Go.Proofs.YtfpepoebammeoaaGreat

inductive Conn (R : Nat → Nat → Prop) (m : Nat) : Nat → Nat → Prop
  | refl (i : Nat) : Conn R m i i
  | on {i j k : Nat} (hi : i < m) (hj : j < m) (h : R i j) (t : Conn R m j k) : Conn R m i k
  | back {i j k : Nat} (hi : i < m) (hj : j < m) (h : R j i) (t : Conn R m j k) : Conn R m i k
section
variable {R : Nat → Nat → Prop} {m D : Nat} {rk : Nat → Nat} {E : EdN}
theorem Conn.trans {a b c : Nat} (h : Conn R m a b) (t : Conn R m b c) : Conn R m a c := by
  induction h with
  | refl => exact t
  | on h1 h2 h3 _ ih => exact .on h1 h2 h3 (ih t)
  | back h1 h2 h3 _ ih => exact .back h1 h2 h3 (ih t)
theorem Conn.symm {a b : Nat} (h : Conn R m a b) : Conn R m b a := by
  induction h with
  | refl => exact .refl _
  | on h1 h2 h3 _ ih => exact ih.trans (.back h2 h1 h3 (.refl _))
  | back h1 h2 h3 _ ih => exact ih.trans (.on h2 h1 h3 (.refl _))
def fwdN (D m : Nat) (E : EdN) (u : Nat) : Prop := ∃ i, i < m ∧ (u = D + i ∨ Walk (EdR E) (D + i) u)
def bwdN (D m : Nat) (E : EdN) (u : Nat) : Prop := ∃ i, i < m ∧ (u = D + i ∨ Walk (EdR E) u (D + i))
def nbN (D m : Nat) (E : EdN) (u i : Nat) : Prop := i < m ∧ (u = D + i ∨ Walk (EdR E) (D + i) u ∨ Walk (EdR E) u (D + i))
theorem nb_conn (hB : BoardS R m D rk E) {u a b : Nat} (hf : fwdN D m E u) (hb : bwdN D m E u) (ha : nbN D m E u a) (hb' : nbN D m E u b) : Conn R m a b := by
  have on : ∀ {a b : Nat}, a < m → b < m → Walk (EdR E) (D + a) (D + b) → Conn R m a b := fun h1 h2 hw => .on h1 h2 ((hB.walk _ _ h1 h2).1 hw) (.refl _)
  have eqc : ∀ {a b : Nat}, D + a = D + b → Conn R m a b := fun {a b} e => by
    have : a = b := by omega
    rw [this]; exact .refl _
  obtain ⟨ha1, ha⟩ := ha
  obtain ⟨hb1, hb'⟩ := hb'
  obtain ⟨f, hf1, hf⟩ := hf
  obtain ⟨k, hk1, hk⟩ := hb
  rcases ha with e | ha | ha
  · subst e
    rcases hb' with e | hb' | hb'
    · exact eqc e
    · exact (on hb1 ha1 hb').symm
    · exact on ha1 hb1 hb'
  · rcases hb' with e | hb' | hb'
    · subst e; exact on ha1 hb1 ha
    · rcases hk with e | hk
      · subst e; exact (on ha1 hk1 ha).trans (on hb1 hk1 hb').symm
      · exact (on ha1 hk1 (ha.trans hk)).trans (on hb1 hk1 (hb'.trans hk)).symm
    · exact on ha1 hb1 (ha.trans hb')
  · rcases hb' with e | hb' | hb'
    · subst e; exact (on hb1 ha1 ha).symm
    · exact (on hb1 ha1 (hb'.trans ha)).symm
    · rcases hf with e | hf
      · subst e; exact (on hf1 ha1 ha).symm.trans (on hf1 hb1 hb')
      · exact (on hf1 ha1 (hf.trans ha)).symm.trans (on hf1 hb1 (hf.trans hb'))
def kin (R : Nat → Nat → Prop) (D m : Nat) (E : EdN) (x y : Nat) : Prop := x = y ∨ ((fwdN D m E x ∧ bwdN D m E x) ∧ (fwdN D m E y ∧ bwdN D m E y) ∧ ∀ a b, nbN D m E x a → nbN D m E y b → Conn R m a b)
theorem kin.symm {x y : Nat} (h : kin R D m E x y) : kin R D m E y x := by
  rcases h with h | ⟨h1, h2, h3⟩
  · exact .inl h.symm
  · exact .inr ⟨h2, h1, fun a b ha hb => (h3 b a hb ha).symm⟩
theorem kin.trans {x y z : Nat} (h : kin R D m E x y) (t : kin R D m E y z) : kin R D m E x z := by
  rcases h with rfl | ⟨h1, h2, h3⟩
  · exact t
  · rcases t with rfl | ⟨t1, t2, t3⟩
    · exact .inr ⟨h1, h2, h3⟩
    · refine .inr ⟨h1, t2, fun a b ha hb => ?_⟩
      obtain ⟨i, hi, e⟩ := h2.1
      have hn : nbN D m E y i := ⟨hi, by rcases e with e | e; exact .inl e; exact .inr (.inl e)⟩
      exact (h3 a i ha hn).trans (t3 i b hn hb)
def jnd (D m : Nat) (E : EdN) (e : Nat × Nat) : Prop := e ∈ E ∧ fwdN D m E e.1 ∧ bwdN D m E e.2
theorem kin_edge (hB : BoardS R m D rk E) {e : Nat × Nat} (h : jnd D m E e) : kin R D m E e.1 e.2 := by
  obtain ⟨he, hf, hb⟩ := h
  have hw : Walk (EdR E) e.1 e.2 := .one he
  have hb1 : bwdN D m E e.1 := by
    obtain ⟨k, hk, h⟩ := hb
    exact ⟨k, hk, .inr (by rcases h with h | h; rw [← h]; exact hw; exact hw.trans h)⟩
  have hf2 : fwdN D m E e.2 := by
    obtain ⟨k, hk, h⟩ := hf
    exact ⟨k, hk, .inr (by rcases h with h | h; rw [← h]; exact hw; exact h.trans hw)⟩
  refine .inr ⟨⟨hf, hb1⟩, ⟨hf2, hb⟩, fun a b ha hb' => ?_⟩
  obtain ⟨i, hi, h⟩ := hf
  have n1 : nbN D m E e.1 i := ⟨hi, by rcases h with h | h; exact .inl h; exact .inr (.inl h)⟩
  have n2 : nbN D m E e.2 i := ⟨hi, .inr (.inl (by rcases h with h | h; rw [← h]; exact hw; exact h.trans hw))⟩
  exact (nb_conn hB ⟨i, hi, h⟩ hb1 ha n1).trans (nb_conn hB hf2 hb n2 hb')
structure SideI (R : Nat → Nat → Prop) (D m : Nat) (E : EdN) (L : EdN) (r : Nat → Nat) : Prop where
  only : ∀ x y, x < D + m → y < D + m → r x = r y → kin R D m E x y
  all : ∀ e ∈ L, jnd D m E e → r e.1 = r e.2
theorem SideI.first (R : Nat → Nat → Prop) (D m : Nat) (E : EdN) : SideI R D m E [] id := ⟨fun x y _ _ h => .inl h, fun e h => by cases h⟩
theorem SideI.skip {L : EdN} {r : Nat → Nat} {e : Nat × Nat} (h : SideI R D m E L r) (he : ¬ jnd D m E e) : SideI R D m E (L ++ [e]) r := ⟨h.only, fun f hf hj => by
  rcases List.mem_append.1 hf with h1 | h1
  · exact h.all f h1 hj
  · rw [List.mem_singleton.1 h1] at hj; exact absurd hj he⟩
theorem SideI.join {L : EdN} {r : Nat → Nat} {e : Nat × Nat} (h : SideI R D m E L r) (hB : BoardS R m D rk E) (he : jnd D m E e) : SideI R D m E (L ++ [e]) (rJ r e.1 e.2) := by
  have hlt := hB.lt e he.1
  refine ⟨fun x y hx hy hr => ?_, fun f hf hj => ?_⟩
  · unfold rJ at hr
    split at hr
    · rename_i h1
      split at hr
      · rename_i h2
        exact h.only x y hx hy (h1.trans h2.symm)
      · exact ((h.only x e.1 hx hlt.1 h1).trans (kin_edge hB he)).trans (h.only e.2 y hlt.2 hy hr)
    · split at hr
      · rename_i h2
        exact (h.only x e.2 hx hlt.2 hr).trans ((kin_edge hB he).symm.trans (h.only e.1 y hlt.1 hy h2.symm))
      · exact h.only x y hx hy hr
  · rcases List.mem_append.1 hf with h1 | h1
    · have := h.all f h1 hj
      unfold rJ
      rw [this]
    · rw [List.mem_singleton.1 h1]
      unfold rJ
      rw [if_pos rfl]
      split
      · rfl
      · rfl
theorem SideI.conn {r : Nat → Nat} (h : SideI R D m E E r) (hB : BoardS R m D rk E) {i j : Nat} (hi : i < m) (hj : j < m) : r (D + i) = r (D + j) ↔ Conn R m i j := by
  have along : ∀ {u v : Nat}, Walk (EdR E) u v → fwdN D m E u → ∀ {j : Nat}, j < m → v = D + j → r u = r v := by
    intro u v hw
    induction hw with
    | @one a b he => exact fun hf j hj e => h.all _ he ⟨he, hf, ⟨j, hj, .inl e⟩⟩
    | @more a b c he t ih =>
      intro hf j hj e
      have hw : Walk (EdR E) a b := .one he
      have hf2 : fwdN D m E b := by
        obtain ⟨k, hk, h⟩ := hf
        exact ⟨k, hk, .inr (by rcases h with h | h; rw [← h]; exact hw; exact h.trans hw)⟩
      exact (h.all _ he ⟨he, hf, ⟨j, hj, .inr (by rw [← e]; exact t)⟩⟩).trans (ih hf2 hj e)
  constructor
  · intro hr
    rcases h.only _ _ (by omega) (by omega) hr with e | ⟨_, _, h3⟩
    · have : i = j := by omega
      rw [this]; exact .refl _
    · exact h3 i j ⟨hi, .inl rfl⟩ ⟨hj, .inl rfl⟩
  · intro hc
    induction hc with
    | refl => rfl
    | @on a b c ha hb hr _ ih => exact (along ((hB.walk a b ha hb).2 hr) ⟨a, ha, .inl rfl⟩ hb rfl).trans (ih hb hj)
    | @back a b c ha hb hr _ ih => exact (along ((hB.walk b a hb ha).2 hr) ⟨b, hb, .inl rfl⟩ ha rfl).symm.trans (ih hb hj)
end
end Go.Proofs.YtfpepoebammeoaaGreat
set_option linter.unusedVariables false
set_option linter.unusedSimpArgs false
namespace Go.Proofs.YtfpepoebammeoaaGreat

theorem nodupI_all : ∀ {m : Nat} {L : List Int}, L.Nodup → (∀ x ∈ L, 0 ≤ x ∧ x < (m : Int)) → L.length = m → ∀ i : Nat, i < m → (i : Int) ∈ L := by
  intro m L hn hx hl i hi
  apply Classical.byContradiction
  intro hni
  have h1 : ((i : Int) :: L).Nodup := List.nodup_cons.2 ⟨hni, hn⟩
  have h2 : ((i : Int) :: L).length ≤ m := nodup_len h1 (fun x hx' => by
    rcases List.mem_cons.1 hx' with e | h
    · exact ⟨i, hi, e⟩
    · have := hx x h
      exact ⟨x.toNat, by omega, by omega⟩)
  simp at h2
  omega
section
variable {R : Nat → Nat → Prop} {m D : Nat} {rk : Nat → Nat} {E : EdN} {L : List Int} {f g : Nat → Int}
theorem own_thing (hnd : L.Nodup) (hin : ∀ x ∈ L, 0 ≤ x ∧ x < (m : Int)) (hl : L.length = m) {i : Nat} (hi : i < m) : ∃ p : Nat, p < m ∧ ownB D L L.length (D + i) = p ∧ ownO D L L.length (D + i) = p := by
  obtain ⟨p, hp⟩ := List.getElem?_of_mem (nodupI_all hnd hin hl i hi)
  have := (List.getElem?_eq_some_iff.1 hp).1
  have e : (((D + i - D : Nat) : Int)) = (i : Int) := by omega
  obtain ⟨h1, h2⟩ := own_end (D := D) (y := D + i) hnd (by rw [e]; exact hp) (by omega)
  exact ⟨p, by omega, h1, h2⟩
theorem fwd_iff (hnd : L.Nodup) (hin : ∀ x ∈ L, 0 ≤ x ∧ x < (m : Int)) (hl : L.length = m) (hf : BkI (ownB D L L.length) E f) {u : Nat} (hu : u < D + m) : fwdN D m E u ↔ (D ≤ u ∨ 0 ≤ f u) := by
  constructor
  · rintro ⟨i, hi, e | hw⟩
    · exact .inl (by omega)
    · obtain ⟨p, _, h1, _⟩ := own_thing (D := D) hnd hin hl hi
      have := (hf u).2.2 _ hw
      exact .inr (by omega)
  · rintro (h | h)
    · exact ⟨u - D, by omega, .inl (by omega)⟩
    · rcases (hf u).1 with e | ⟨y, hw, e⟩
      · omega
      · obtain ⟨hD, p, hp, _⟩ := own_back (D := D) (L := L) (y := y) (by omega)
        have := hin _ (List.mem_of_getElem? hp)
        exact ⟨y - D, by omega, .inr (by rw [show D + (y - D) = y by omega]; exact hw)⟩
theorem bwd_iff (hnd : L.Nodup) (hin : ∀ x ∈ L, 0 ≤ x ∧ x < (m : Int)) (hl : L.length = m) (hg : OnI (ownO D L L.length) m E g) {v : Nat} (hv : v < D + m) : bwdN D m E v ↔ (D ≤ v ∨ g v < (m : Int)) := by
  constructor
  · rintro ⟨i, hi, e | hw⟩
    · exact .inl (by omega)
    · obtain ⟨p, hp, _, h2⟩ := own_thing (D := D) hnd hin hl hi
      have := (hg v).2.2 _ hw
      exact .inr (by omega)
  · rintro (h | h)
    · exact ⟨v - D, by omega, .inl (by omega)⟩
    · rcases (hg v).1 with e | ⟨y, hw, e⟩
      · omega
      · obtain ⟨hD, p, hp, _⟩ := own_on (D := D) (L := L) (y := y) (by omega)
        have := hin _ (List.mem_of_getElem? hp)
        exact ⟨y - D, by omega, .inr (by rw [show D + (y - D) = y by omega]; exact hw)⟩
end
end Go.Proofs.YtfpepoebammeoaaGreat
set_option linter.unusedVariables false
set_option linter.unusedSimpArgs false
namespace Go.Proofs.YtfpepoebammeoaaGreat
open Go.ChangeShapes Go.WideShapes Go.ChangeAt Go.RowKit

theorem toN_toI (E : EdN) : toN (toI E) = E := by
  unfold toN toI
  rw [List.map_map]
  exact (List.map_congr_left (fun e _ => rfl)).trans (List.map_id E)
theorem among_toI {n : Nat} {E : EdN} (h : ∀ e ∈ E, e.1 < n ∧ e.2 < n) : amongL (n : Int) (toI E) = toI E := by
  unfold amongL
  rw [List.filter_eq_self]
  intro e he
  obtain ⟨e0, h0, rfl⟩ := List.mem_map.1 he
  have := h e0 h0
  rw [rightP_iff]
  simp only
  omega
theorem size_any (ta : Option Addr) (m tc D : Nat) (ev : Value) (w : World) (hm : m ≤ 1000000) (hD : D ≤ 1000000) :
    Calls Tryz.prog 66 #[.agg #[.slice ta m tc, .int .i64 (D : Int), ev]] w fun e w' => e = .returned (.int .i64 ((D + m : Nat) : Int)) ∧ w' = w.alloc (.cells #[.slice ta m tc, .int .i64 (D : Int), ev] 59) := by
  go_enter Tryz.func66, Tryz.ntmps66
  go_wp2_with fail
  go_ret
  exact ⟨by go_num, rfl⟩
theorem line1_any (q D : Nat) (x : Int) (W : World) (hq : W.cell? ⟨q, 1, none⟩ = some (.int .i64 (D : Int))) :
    Calls Tryz.prog 89 #[.int .i64 x, .pointer (some ⟨q, 0, none⟩)] W fun e w' => e = .returned (.bool (decide (x < (D : Int)))) ∧ w' = W := by
  go_enter Tryz.func89, Tryz.ntmps89
  go_wp2_with fail
  go_ret
  exact ⟨rfl, rfl⟩
theorem thing_any (ta : Option Addr) (tc D i : Nat) (A : List Nat) (ev : Value) (x : Nat) (w : World) (hr : RI w (.slice ta A.length tc) (nl A)) (hx : A[i]? = some x) (hD : D ≤ 1000000) (hl : A.length ≤ 1000000) :
    Calls Tryz.prog 63 #[.agg #[.slice ta A.length tc, .int .i64 (D : Int), ev], .int .i64 ((D + i : Nat) : Int)] w fun e w' => e = .returned (.int .i64 (x : Int)) ∧ Below w.heap.size w w' := by
  obtain ⟨b, o, rfl, hb, hc1, hc2, cx⟩ := hr.at (nl_at hx)
  have hi := (List.getElem?_eq_some_iff.1 hx).1
  obtain ⟨m, hm⟩ : ∃ m, m = A.length := ⟨_, rfl⟩
  rw [← hm] at hc1 hi hl ⊢
  obtain ⟨g, hg⟩ : ∃ g, g = D + i := ⟨_, rfl⟩
  have hgI : (g : Int) - (D : Int) = (i : Int) := by omega
  rw [← hg]
  unfold maxLen at hc2
  clear hr hx hm hg
  go_enter Tryz.func63, Tryz.ntmps63
  go_wp2_with fail
  go_ret
  exact ⟨rfl, (Below.refl _ _).alloc (Nat.le_refl _) _⟩
abbrev BxS (w1 : World) (q : Nat) (tv dv ev : Value) (W : World) : Prop := (W.cell? ⟨q, 0, none⟩ = some tv ∧ W.cell? ⟨q, 1, none⟩ = some dv ∧ W.cell? ⟨q, 2, none⟩ = some ev) ∧ q < w1.heap.size ∧ Below w1.heap.size w1 W
theorem bxs_call {w1 W W' : World} {q : Nat} {tv dv ev : Value} (hb : Below W.heap.size W W') (h : BxS w1 q tv dv ev W) : BxS w1 q tv dv ev W' := by
  obtain ⟨⟨a0, a1, a2⟩, hq, hB⟩ := h
  have hqW := Nat.lt_of_lt_of_le hq hB.size
  exact ⟨⟨(hb.cell (p := ⟨q, 0, none⟩) hqW).trans a0, (hb.cell (p := ⟨q, 1, none⟩) hqW).trans a1, (hb.cell (p := ⟨q, 2, none⟩) hqW).trans a2⟩, hq, hB.trans (hb.mono hB.size)⟩
section
variable {R : Nat → Nat → Prop} {D : Nat} {rk : Nat → Nat} {E : EdN} {A : List Nat}
set_option maxHeartbeats 2000000 in
set_option maxRecDepth 100000 in
theorem line_any (bv : Value) (w : World) (hM : BoardM w bv A D E) (hB : BoardS R A.length D rk E) (hD : D ≤ 200000) (hA : A.length ≤ 100000) (hE : E.length ≤ 100000) :
    Calls Tryz.prog 61 #[bv] w fun e w' => ∃ ov L, e = .returned ov ∧ RI w' ov (L.map fun x => (D : Int) + x) ∧ ReachK (needE (pairA R A.length)) A.length L ∧ L.length = A.length ∧ Below w.heap.size w w' := by
  obtain ⟨tv, ev, rfl, hrt, hre⟩ := hM
  obtain ⟨ta, tc, rfl⟩ := hrt.form
  rw [nl_len]
  obtain ⟨m, hm⟩ : ∃ m, m = A.length := ⟨_, rfl⟩
  rw [← hm] at hB hA ⊢
  obtain ⟨w1, hw1⟩ : ∃ w1, w1 = w.alloc (.cells #[.slice ta m tc, .int .i64 (D : Int), ev] 59) := ⟨_, rfl⟩
  have hb1 : Below w.heap.size w w1 := by rw [hw1]; exact (Below.refl _ _).alloc (Nat.le_refl _) _
  obtain ⟨q, hq⟩ : ∃ q, q = w.heap.size := ⟨_, rfl⟩
  have hS1 : BxS w1 q (.slice ta m tc) (.int .i64 (D : Int)) ev w1.drew := by
    rw [hw1, hq]
    exact ⟨⟨World.cell?_alloc_at _ _ _ _ rfl, World.cell?_alloc_at _ _ _ _ rfl, World.cell?_alloc_at _ _ _ _ rfl⟩, by simp, (Below.refl _ _).drew⟩
  obtain ⟨sz, hsz⟩ : ∃ sz, sz = D + m := ⟨_, rfl⟩
  have HSZ := Lib.hid (fun W => (size_any ta m tc D ev W (by omega) (by omega)).mono (R' := fun e w' => e = .returned (.int .i64 (sz : Int)) ∧ Below W.heap.size W w') (fun e w' h => ⟨by rw [h.1, hsz], by rw [h.2]; exact (Below.refl _ _).alloc (Nat.le_refl _) _⟩))
  have hEl : ∀ e ∈ E, e.1 < sz ∧ e.2 < sz := by rw [hsz]; exact hB.lt
  have HSO := Lib.hid (fun W (h : BxS w1 q (.slice ta m tc) (.int .i64 (D : Int)) ev W) => sortF_row (sz : Int) (toI E) ev W (hre.below (hb1.trans (h.2.2.mono hb1.size))) (by simp [toI]; omega) (by omega) (by omega))
  rw [Int.toNat_natCast, among_toI hEl, toN_toI] at HSO
  have HLN : Hid (∀ out ok, SortR sz E out ok → ok = true ∧ out.length = sz ∧ ∃ L : List Int, out.filter (fun x => decide ((D : Int) ≤ x)) = L.map (fun x => (D : Int) + x) ∧ ReachK (needE (pairA R m)) m L ∧ L.length = m) := Lib.hid (fun out ok h => by
    rw [hsz] at h
    obtain ⟨h1, h2, h3⟩ := hB.line h
    exact ⟨h1, by rw [hsz]; exact h2, h3⟩)
  have HS1 := Lib.hid hS1
  have HW1 := Lib.hid hw1
  have HB1 := Lib.hid hb1
  have HQ := Lib.hid hq
  have hsz9 : sz ≤ 300000 := by omega
  clear hrt hre hb1 hw1 hS1 hEl hB hm hsz hq
  go_enter Tryz.func61, Tryz.ntmps61
  go_wp2_with fail
  rw [← HW1.out, ← HQ.out]
  go_region_held3 (fun W => (W.cell? ⟨q, 0, none⟩ = some (.slice ta m tc) ∧ W.cell? ⟨q, 1, none⟩ = some (.int .i64 (D : Int)) ∧ W.cell? ⟨q, 2, none⟩ = some ev) ∧ q < w1.heap.size ∧ Below w1.heap.size w1 W)
    (first | with_reducible exact hq3 | with_reducible exact hq2 | with_reducible exact HS1.out)
    (first
      | (go_at_call 66; have hq : BxS w1 q (.slice ta m tc) (.int .i64 (D : Int)) ev _ := (by assumption); (with_reducible refine (HSZ.out _).mono ?_); rintro e w2 ⟨rfl, hb2⟩; have hq2 := bxs_call hb2 hq; clear hq)
      | (go_at_call 22; have hq : BxS w1 q (.slice ta m tc) (.int .i64 (D : Int)) ev _ := (by assumption); (with_reducible refine (HSO.out _ hq).mono ?_); rintro e w3 ⟨sv, out, ok, rfl, hsr, hrow0, hb3⟩; have hq3 := bxs_call hb3 hq; have hrow := Row.mono hrow0 hq.2.2.size; clear hq hrow0))
  rename_i hHeld
  clear hHeld hq2 hb2 hb3
  obtain ⟨hok, hol, L, hL1, hL2, hL3⟩ := HLN.out out ok hsr
  subst hok
  have hqB : q < w3.heap.size := Nat.lt_of_lt_of_le hq3.2.1 hq3.2.2.size
  have hown : ∀ i, sv.ownBlock = some i → w1.heap.size ≤ i := fun i hi => (hrow.lt i hi).1
  have HDL := Lib.hid (deleteL_any out sz q w1.heap.size (fun x => decide (x < (D : Int))) sv w3 (by rw [← hol]; exact hrow) hol (by omega) (fun W ho x hx => line1_any q D x W ((ho.cell (p := ⟨q, 1, none⟩) hqB (fun e => by have := hown q e; have := hq3.2.1; omega)).trans hq3.1.2.1)))
  have HKP : Hid (keepI out (fun x => decide (x < (D : Int))) sz = L.map fun x => (D : Int) + x) := Lib.hid (by
    rw [← hL1]
    unfold keepI
    rw [List.take_of_length_le (by omega)]
    congr 1
    funext x
    rw [Bool.eq_iff_iff]
    simp)
  have HL2 := Lib.hid hL2
  have HL3 := Lib.hid hL3
  have HB3 := Lib.hid (HB1.out.trans (hq3.2.2.mono HB1.out.size))
  have HOWN := Lib.hid hown
  have HS13 := Lib.hid (show w.heap.size ≤ w3.heap.size from HB3.out.size)
  obtain ⟨sa, sc, hsv⟩ := hrow.form
  clear hsr hrow hq3 hol hL1 hL2 hL3 hown
  subst hsv
  go_wp2_with fail
  refine HDL.out.mono ?_
  rintro e w4 ⟨ov, rfl, hrow4, hof4⟩
  have HROW4 := Lib.hid hrow4
  have HOF4 := Lib.hid hof4
  obtain ⟨oa, oc, hov⟩ := hrow4.form
  clear hrow4 hof4
  subst hov
  go_wp2_with fail
  go_ret
  refine ⟨_, L, rfl, ?_, HL2.out, HL3.out, ?_⟩
  · have h := RI.ofRow HROW4.out
    rw [HKP.out] at h
    rw [HKP.out]
    exact h
  · exact HB3.out.trans (off_below HOF4.out (fun i hi => Nat.le_trans HB1.out.size (HOWN.out i hi)) HB3.out.size)
end
end Go.Proofs.YtfpepoebammeoaaGreat
