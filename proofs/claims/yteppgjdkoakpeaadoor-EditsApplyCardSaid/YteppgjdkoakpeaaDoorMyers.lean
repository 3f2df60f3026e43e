/- Plain mathematics of the search for the fewest edits: no program is named here. -/
import Derived.Test.YteppgjdkoakpeaaDoorRows
set_option linter.unusedVariables false
namespace Go.Proofs.YteppgjdkoakpeaaDoor

abbrev Ls := List ByteArray

/-- How many lines are the same at the beginning. -/
def lcp : Ls → Ls → Nat
  | x :: xs, y :: ys => if x = y then lcp xs ys + 1 else 0
  | [], _ => 0
  | _ :: _, [] => 0

theorem lcp_get : ∀ (xs ys : Ls) (n : Nat), n < lcp xs ys → ∃ u, xs[n]? = some u ∧ ys[n]? = some u
  | [], _, n, h => by simp [lcp] at h
  | _ :: _, [], n, h => by simp [lcp] at h
  | x :: xs, y :: ys, n, h => by
    by_cases e : x = y
    · subst e
      cases n with
      | zero => exact ⟨x, rfl, rfl⟩
      | succ n =>
        rw [lcp, if_pos rfl] at h
        simpa using lcp_get xs ys n (by omega)
    · rw [lcp, if_neg e] at h; omega

theorem lcp_max : ∀ (xs ys : Ls), ¬ ∃ u, xs[lcp xs ys]? = some u ∧ ys[lcp xs ys]? = some u
  | [], _ => by simp
  | _ :: _, [] => by simp
  | x :: xs, y :: ys => by
    by_cases e : x = y
    · rw [lcp, if_pos e]
      simpa using lcp_max xs ys
    · rw [lcp, if_neg e]
      rintro ⟨u, h1, h2⟩
      simp at h1 h2
      exact e (h1.trans h2.symm)

theorem lcp_succ {a b : Ls} {x y : Nat} {u : ByteArray} (h1 : a[x]? = some u) (h2 : b[y]? = some u) : lcp (a.drop x) (b.drop y) = lcp (a.drop (x + 1)) (b.drop (y + 1)) + 1 := by
  obtain ⟨hx, e1⟩ := List.getElem?_eq_some_iff.1 h1
  obtain ⟨hy, e2⟩ := List.getElem?_eq_some_iff.1 h2
  rw [List.drop_eq_getElem_cons hx, List.drop_eq_getElem_cons hy, lcp, if_pos (e1.trans e2.symm)]

theorem lcp_zero {a b : Ls} {x y : Nat} (h : ¬ ∃ u, a[x]? = some u ∧ b[y]? = some u) : lcp (a.drop x) (b.drop y) = 0 := by
  rcases Nat.eq_zero_or_pos (lcp (a.drop x) (b.drop y)) with e | e
  · exact e
  · obtain ⟨u, h1, h2⟩ := lcp_get _ _ 0 e
    exact absurd ⟨u, by simpa using h1, by simpa using h2⟩ h

theorem lcp_le (xs ys : Ls) : lcp xs ys ≤ xs.length ∧ lcp xs ys ≤ ys.length := by
  rcases Nat.eq_zero_or_pos (lcp xs ys) with e | e
  · omega
  · obtain ⟨u, h1, h2⟩ := lcp_get xs ys (lcp xs ys - 1) (by omega)
    have := (List.getElem?_eq_some_iff.1 h1).1
    have := (List.getElem?_eq_some_iff.1 h2).1
    omega

/-- A way with so many lines cut, and so many put. -/
inductive Sc (a b : Ls) : Nat → Nat → Nat → Nat → Prop
  | start : Sc a b 0 0 0 0
  | keep {x y c p : Nat} {u : ByteArray} : Sc a b x y c p → a[x]? = some u → b[y]? = some u → Sc a b (x + 1) (y + 1) c p
  | cut {x y c p : Nat} : Sc a b x y c p → x < a.length → Sc a b (x + 1) y (c + 1) p
  | put {x y c p : Nat} : Sc a b x y c p → y < b.length → Sc a b x (y + 1) c (p + 1)

theorem Sc.inv {a b : Ls} {x y c p : Nat} (h : Sc a b x y c p) : x + p = y + c ∧ x ≤ a.length ∧ y ≤ b.length ∧ c ≤ x ∧ p ≤ y := by
  induction h with
  | start => simp
  | keep h h1 h2 ih =>
    have := (List.getElem?_eq_some_iff.1 h1).1
    have := (List.getElem?_eq_some_iff.1 h2).1
    omega
  | cut h h1 ih => omega
  | put h h1 ih => omega

theorem Sc.keeps {a b : Ls} {x y c p : Nat} (h : Sc a b x y c p) (n : Nat) (hn : n ≤ lcp (a.drop x) (b.drop y)) : Sc a b (x + n) (y + n) c p := by
  induction n with
  | zero => exact h
  | succ n ih =>
    obtain ⟨u, h1, h2⟩ := lcp_get (a.drop x) (b.drop y) n (by omega)
    exact (ih (by omega)).keep (u := u) (by rw [List.getElem?_drop] at h1; exact h1) (by rw [List.getElem?_drop] at h2; exact h2)

theorem Sc.cuts {a b : Ls} {x y c p : Nat} (h : Sc a b x y c p) (n : Nat) (hn : x + n ≤ a.length) : Sc a b (x + n) y (c + n) p := by
  induction n with
  | zero => exact h
  | succ n ih => exact (ih (by omega)).cut (by omega)
theorem Sc.puts {a b : Ls} {x y c p : Nat} (h : Sc a b x y c p) (n : Nat) (hn : y + n ≤ b.length) : Sc a b x (y + n) c (p + n) := by
  induction n with
  | zero => exact h
  | succ n ih => exact (ih (by omega)).put (by omega)

/-- The least cost, as the row of the reference tells it. -/
def ld (a b : Ls) : Nat → Nat → Nat
  | 0, j => j
  | i + 1, 0 => i + 1
  | i + 1, j + 1 => if a[i]? = b[j]? then ld a b i j else if ld a b i (j + 1) < ld a b (i + 1) j then ld a b i (j + 1) + 1 else ld a b (i + 1) j + 1
termination_by i j => i + j

theorem ld_zero (a b : Ls) (j : Nat) : ld a b 0 j = j := by rw [ld]
theorem ld_left (a b : Ls) (i : Nat) : ld a b i 0 = i := by
  cases i with
  | zero => rw [ld]
  | succ i => rw [ld]
theorem ld_same {a b : Ls} {i j : Nat} (h : a[i]? = b[j]?) : ld a b (i + 1) (j + 1) = ld a b i j := by rw [ld, if_pos h]
theorem ld_step {a b : Ls} {i j : Nat} (h : ¬ a[i]? = b[j]?) : ld a b (i + 1) (j + 1) = if ld a b i (j + 1) < ld a b (i + 1) j then ld a b i (j + 1) + 1 else ld a b (i + 1) j + 1 := by rw [ld, if_neg h]

theorem ld_lip (a b : Ls) : ∀ (n i j : Nat), i + j = n → (ld a b (i + 1) j ≤ ld a b i j + 1 ∧ ld a b i j ≤ ld a b (i + 1) j + 1) ∧ (ld a b i (j + 1) ≤ ld a b i j + 1 ∧ ld a b i j ≤ ld a b i (j + 1) + 1) := by
  intro n
  induction n using Nat.strongRecOn with
  | _ n ih =>
    intro i j hn
    constructor
    · cases j with
      | zero => rw [ld_left, ld_left]; omega
      | succ j =>
        have h1 := (ih (i + j) (by omega) i j rfl)
        by_cases e : a[i]? = b[j]?
        · rw [ld_same e]; omega
        · rw [ld_step e]; split <;> omega
    · cases i with
      | zero => rw [ld_zero, ld_zero]; omega
      | succ i =>
        have h1 := (ih (i + j) (by omega) i j rfl)
        by_cases e : a[i]? = b[j]?
        · rw [ld_same e]; omega
        · rw [ld_step e]; split <;> omega

theorem ld_cut (a b : Ls) (i j : Nat) : ld a b (i + 1) j ≤ ld a b i j + 1 := (ld_lip a b _ i j rfl).1.1
theorem ld_put (a b : Ls) (i j : Nat) : ld a b i (j + 1) ≤ ld a b i j + 1 := (ld_lip a b _ i j rfl).2.1

theorem ld_le_sc {a b : Ls} {x y c p : Nat} (h : Sc a b x y c p) : ld a b x y ≤ c + p := by
  induction h with
  | start => rw [ld_zero]; omega
  | keep h h1 h2 ih => rw [ld_same (h1.trans h2.symm)]; exact ih
  | @cut x y c p h h1 ih => have := ld_cut a b x y; omega
  | @put x y c p h h1 ih => have := ld_put a b x y; omega

theorem ld_sc (a b : Ls) : ∀ (n i j : Nat), i + j = n → i ≤ a.length → j ≤ b.length → ∃ c p, Sc a b i j c p ∧ c + p = ld a b i j := by
  intro n
  induction n using Nat.strongRecOn with
  | _ n ih =>
    intro i j hn hi hj
    cases i with
    | zero => exact ⟨0, j, by simpa using (Sc.start (a := a) (b := b)).puts j (by omega), by rw [ld_zero]; omega⟩
    | succ i =>
      cases j with
      | zero => exact ⟨i + 1, 0, by simpa using (Sc.start (a := a) (b := b)).cuts (i + 1) (by omega), by rw [ld_left]⟩
      | succ j =>
        by_cases e : a[i]? = b[j]?
        · obtain ⟨c, p, h, hc⟩ := ih (i + j) (by omega) i j rfl (by omega) (by omega)
          have e1 : a[i]? = some (a[i]'(by omega)) := List.getElem?_eq_getElem (by omega)
          exact ⟨c, p, h.keep e1 (e ▸ e1), by rw [ld_same e]; exact hc⟩
        · rw [ld_step e]
          split
          · obtain ⟨c, p, h, hc⟩ := ih (i + (j + 1)) (by omega) i (j + 1) rfl (by omega) (by omega)
            exact ⟨c + 1, p, h.cut (by omega), by omega⟩
          · obtain ⟨c, p, h, hc⟩ := ih (i + 1 + j) (by omega) (i + 1) j rfl hi (by omega)
            exact ⟨c, p + 1, h.put (by omega), by omega⟩

theorem ld_congr {a a' b b' : Ls} : ∀ (n i j : Nat), i + j = n → (∀ k, k < i → a[k]? = a'[k]?) → (∀ k, k < j → b[k]? = b'[k]?) → ld a b i j = ld a' b' i j := by
  intro n
  induction n using Nat.strongRecOn with
  | _ n ih =>
    intro i j hn h1 h2
    cases i with
    | zero => rw [ld_zero, ld_zero]
    | succ i =>
      cases j with
      | zero => rw [ld_left, ld_left]
      | succ j =>
        have e1 := ih (i + j) (by omega) i j rfl (fun k hk => h1 k (by omega)) (fun k hk => h2 k (by omega))
        have e2 := ih (i + (j + 1)) (by omega) i (j + 1) rfl (fun k hk => h1 k (by omega)) (fun k hk => h2 k (by omega))
        have e3 := ih (i + 1 + j) (by omega) (i + 1) j rfl (fun k hk => h1 k (by omega)) (fun k hk => h2 k (by omega))
        by_cases e : a[i]? = b[j]?
        · rw [ld_same e, ld_same (by rw [← h1 i (by omega), ← h2 j (by omega)]; exact e), e1]
        · rw [ld_step e, ld_step (by rw [← h1 i (by omega), ← h2 j (by omega)]; exact e), e2, e3]

theorem ld_swap (a b : Ls) : ∀ (n i j : Nat), i + j = n → ld a b i j = ld b a j i := by
  intro n
  induction n using Nat.strongRecOn with
  | _ n ih =>
    intro i j hn
    cases i with
    | zero => rw [ld_zero, ld_left]
    | succ i =>
      cases j with
      | zero => rw [ld_zero, ld_left]
      | succ j =>
        have e1 := ih (i + j) (by omega) i j rfl
        have e2 := ih (i + (j + 1)) (by omega) i (j + 1) rfl
        have e3 := ih (i + 1 + j) (by omega) (i + 1) j rfl
        by_cases e : a[i]? = b[j]?
        · rw [ld_same e, ld_same e.symm, e1]
        · rw [ld_step e, ld_step (fun h => e h.symm), e2, e3]
          split <;> split <;> omega

theorem ld_diag (a : Ls) (i : Nat) : ld a a i i = 0 := by
  induction i with
  | zero => rw [ld_zero]
  | succ i ih => rw [ld_same rfl, ih]

/-- One edit: at x of the one list, y of the other; a cut or a put. -/
structure Stp where
  x : Int
  y : Int
  cut : Bool
deriving DecidableEq

/-- A way, by its edits. -/
inductive Pa (a b : Ls) : List Stp → Nat → Nat → Prop
  | start : Pa a b [] 0 0
  | keep {ss : List Stp} {x y : Nat} {u : ByteArray} : Pa a b ss x y → a[x]? = some u → b[y]? = some u → Pa a b ss (x + 1) (y + 1)
  | cut {ss : List Stp} {x y : Nat} : Pa a b ss x y → x < a.length → Pa a b (ss ++ [⟨x, y, true⟩]) (x + 1) y
  | put {ss : List Stp} {x y : Nat} : Pa a b ss x y → y < b.length → Pa a b (ss ++ [⟨x, y, false⟩]) x (y + 1)

theorem Pa.keeps {a b : Ls} {ss : List Stp} {x y : Nat} (h : Pa a b ss x y) (n : Nat) (hn : n ≤ lcp (a.drop x) (b.drop y)) : Pa a b ss (x + n) (y + n) := by
  induction n with
  | zero => exact h
  | succ n ih =>
    obtain ⟨u, h1, h2⟩ := lcp_get (a.drop x) (b.drop y) n (by omega)
    exact (ih (by omega)).keep (u := u) (by rw [List.getElem?_drop] at h1; exact h1) (by rw [List.getElem?_drop] at h2; exact h2)

theorem Pa.ld_le {a b : Ls} {ss : List Stp} {x y : Nat} (h : Pa a b ss x y) : ld a b x y ≤ ss.length := by
  induction h with
  | start => rw [ld_zero]; simp
  | keep h h1 h2 ih => rw [ld_same (h1.trans h2.symm)]; exact ih
  | @cut ss x y h h1 ih => have := ld_cut a b x y; simp; omega
  | @put ss x y h h1 ih => have := ld_put a b x y; simp; omega

theorem Pa.length_le {a b : Ls} {ss : List Stp} {x y : Nat} (h : Pa a b ss x y) : ss.length ≤ x + y := by
  induction h with
  | start => simp
  | keep h h1 h2 ih => omega
  | cut h h1 ih => simp; omega
  | put h h1 ih => simp; omega

theorem Pa.le {a b : Ls} {ss : List Stp} {x y : Nat} (h : Pa a b ss x y) : x ≤ a.length ∧ y ≤ b.length := by
  induction h with
  | start => simp
  | keep h h1 h2 ih =>
    have := (List.getElem?_eq_some_iff.1 h1).1
    have := (List.getElem?_eq_some_iff.1 h2).1
    omega
  | cut h h1 ih => omega
  | put h h1 ih => omega

def shift (x y : Int) (s : Stp) : Stp := ⟨x + s.x, y + s.y, s.cut⟩

theorem Pa.more {a b : Ls} {pre : List Stp} {x0 y0 : Nat} (h : Pa a b pre x0 y0) {ss : List Stp} {x y : Nat} (k : Pa (a.drop x0) (b.drop y0) ss x y) :
    Pa a b (pre ++ ss.map (shift x0 y0)) (x0 + x) (y0 + y) := by
  induction k with
  | start => simpa using h
  | keep k h1 h2 ih => exact ih.keep (by rw [List.getElem?_drop] at h1; exact h1) (by rw [List.getElem?_drop] at h2; exact h2)
  | @cut ss x y k h1 ih =>
    have e := ih.cut (by rw [List.length_drop] at h1; omega)
    rw [List.map_append, ← List.append_assoc]
    rw [Nat.add_assoc] at e
    simpa [shift] using e
  | @put ss x y k h1 ih =>
    have e := ih.put (by rw [List.length_drop] at h1; omega)
    rw [List.map_append, ← List.append_assoc]
    rw [Nat.add_assoc] at e
    simpa [shift] using e

/-! The fronts. -/
def acr (x c e : Int) : Int := x - c + e - c
def gi (f : List Int) (c : Nat) : Int := f.getD c (-1)
def putF (f : List Int) (c bl : Nat) : Int := if c = f.length ∨ gi f c = -1 ∨ acr (gi f c) c f.length > bl then -1 else gi f c
def cutF (f : List Int) (c al : Nat) : Int := if c = 0 ∨ gi f (c - 1) = -1 ∨ gi f (c - 1) = al then -1 else gi f (c - 1) + 1
def keptI (a b : Ls) (x y : Int) : Int := x + lcp (a.drop x.toNat) (b.drop y.toNat)
def nextX (f : List Int) (a b : Ls) (c : Nat) : Int :=
  if max (putF f c b.length) (cutF f c a.length) = -1 then -1
  else keptI a b (max (putF f c b.length) (cutF f c a.length)) (acr (max (putF f c b.length) (cutF f c a.length)) c f.length)
def nextF (f : List Int) (a b : Ls) : List Int := (List.range (f.length + 1)).map (nextX f a b)
def fr (a b : Ls) : Nat → List Int
  | 0 => [(lcp a b : Int)]
  | k + 1 => nextF (fr a b k) a b

def uneven (f : List Int) (a b : Ls) (c : Nat) : Int :=
  max ((a.length - gi f c) - (b.length - acr (gi f c) c (f.length - 1))) ((b.length - acr (gi f c) c (f.length - 1)) - (a.length - gi f c))
def bestStep (f : List Int) (a b : Ls) (found : Int) (c : Nat) : Int :=
  if gi f c = -1 then found
  else if found = -1 ∨ gi f c - c > gi f found.toNat - found ∨ (gi f c - c = gi f found.toNat - found ∧ uneven f a b c < uneven f a b found.toNat) then c else found
def bestF (f : List Int) (a b : Ls) : Int := (List.range f.length).foldl (bestStep f a b) (-1)
def wholeF (f : List Int) (a b : Ls) : Bool := decide (gi f (bestF f a b).toNat = a.length ∧ acr (gi f (bestF f a b).toNat) (bestF f a b) (f.length - 1) = b.length)

def rt (a b : Ls) : Nat → Nat → List Stp
  | 0, _ => []
  | e + 1, c =>
    if cutF (fr a b e) c a.length > putF (fr a b e) c b.length then rt a b e (c - 1) ++ [⟨gi (fr a b e) (c - 1), acr (gi (fr a b e) (c - 1)) ((c - 1 : Nat) : Int) e, true⟩]
    else rt a b e c ++ [⟨gi (fr a b e) c, acr (gi (fr a b e) c) c e, false⟩]

theorem rt_length (a b : Ls) : ∀ e c, (rt a b e c).length = e
  | 0, _ => rfl
  | e + 1, c => by
    rw [rt]; split <;> simp [rt_length a b e]

theorem fr_length (a b : Ls) (k : Nat) : (fr a b k).length = k + 1 := by
  induction k with
  | zero => rfl
  | succ k ih => simp [fr, nextF, ih]

theorem gi_next (f : List Int) (a b : Ls) (c : Nat) (h : c ≤ f.length) : gi (nextF f a b) c = nextX f a b c := by
  unfold gi nextF
  simp [List.getD, show c < f.length + 1 by omega]

/-- What a front's place tells. -/
def At (a b : Ls) (k c : Nat) (g : Int) : Prop :=
  g = -1 ∨ ∃ x y : Nat, g = (x : Int) ∧ x + (k - c) = y + c ∧ Sc a b x y c (k - c) ∧ Pa a b (rt a b k c) x y ∧ ¬ ∃ u, a[x]? = some u ∧ b[y]? = some u

theorem slide {a b : Ls} {k c x y : Nat} (h1 : x + (k - c) = y + c) (h2 : Sc a b x y c (k - c)) (h3 : Pa a b (rt a b k c) x y) : At a b k c (keptI a b x y) := by
  refine .inr ⟨x + lcp (a.drop x) (b.drop y), y + lcp (a.drop x) (b.drop y), by simp [keptI], by omega, h2.keeps _ (Nat.le_refl _), h3.keeps _ (Nat.le_refl _), ?_⟩
  have h := lcp_max (a.drop x) (b.drop y)
  rw [List.getElem?_drop, List.getElem?_drop] at h
  exact h

theorem fr_ok (a b : Ls) : ∀ (k c : Nat), c ≤ k → At a b k c (gi (fr a b k) c) := by
  intro k
  induction k with
  | zero =>
    intro c hc
    obtain rfl : c = 0 := by omega
    have h := slide (a := a) (b := b) (k := 0) (c := 0) (x := 0) (y := 0) rfl .start .start
    simpa [keptI, fr, gi] using h
  | succ k ih =>
    intro c hc
    have hl := fr_length a b k
    rw [fr, gi_next _ _ _ _ (by omega)]
    by_cases hm : max (putF (fr a b k) c b.length) (cutF (fr a b k) c a.length) = -1
    · rw [nextX, if_pos hm]; exact .inl rfl
    · rw [nextX, if_neg hm]
      by_cases hg : cutF (fr a b k) c a.length > putF (fr a b k) c b.length
      · have em : max (putF (fr a b k) c b.length) (cutF (fr a b k) c a.length) = cutF (fr a b k) c a.length := by omega
        rw [em] at hm ⊢
        by_cases hz : c = 0 ∨ gi (fr a b k) (c - 1) = -1 ∨ gi (fr a b k) (c - 1) = a.length
        · rw [cutF, if_pos hz] at hm; exact absurd rfl hm
        · have ec : cutF (fr a b k) c a.length = gi (fr a b k) (c - 1) + 1 := by rw [cutF, if_neg hz]
          simp only [not_or] at hz
          obtain ⟨z1, z2, z3⟩ := hz
          rcases ih (c - 1) (by omega) with e | ⟨x, y, ex, hxy, hs, hp, -⟩
          · exact absurd e z2
          · rw [ec, ex, hl]
            rw [ex] at z3
            have hx := hs.inv
            have e1 : k + 1 - c = k - (c - 1) := by omega
            have hs' := hs.cut (by omega)
            rw [show c - 1 + 1 = c by omega, ← e1] at hs'
            have hp' := hp.cut (by omega)
            have er : rt a b (k + 1) c = rt a b k (c - 1) ++ [⟨x, y, true⟩] := by
              rw [rt, if_pos hg, ex, show acr (x : Int) ((c - 1 : Nat) : Int) k = y by unfold acr; omega]
            rw [← er] at hp'
            have h := slide (k := k + 1) (c := c) (x := x + 1) (y := y) (by omega) hs' hp'
            rw [show acr ((x : Int) + 1) c ((k + 1 : Nat) : Int) = (y : Int) by unfold acr; omega]
            rw [show ((x : Int) + 1) = ((x + 1 : Nat) : Int) by omega]
            exact h
      · have em : max (putF (fr a b k) c b.length) (cutF (fr a b k) c a.length) = putF (fr a b k) c b.length := by omega
        rw [em] at hm ⊢
        by_cases hz : c = (fr a b k).length ∨ gi (fr a b k) c = -1 ∨ acr (gi (fr a b k) c) c (fr a b k).length > b.length
        · rw [putF, if_pos hz] at hm; exact absurd rfl hm
        · have ec : putF (fr a b k) c b.length = gi (fr a b k) c := by rw [putF, if_neg hz]
          simp only [not_or] at hz
          obtain ⟨z1, z2, z3⟩ := hz
          rcases ih c (by omega) with e | ⟨x, y, ex, hxy, hs, hp, -⟩
          · exact absurd e z2
          · rw [ec, ex, hl]
            rw [ex, hl] at z3
            have hx := hs.inv
            have hy : y < b.length := by unfold acr at z3; omega
            have e1 : k + 1 - c = k - c + 1 := by omega
            have hs' := hs.put hy
            rw [← e1] at hs'
            have hp' := hp.put hy
            have er : rt a b (k + 1) c = rt a b k c ++ [⟨x, y, false⟩] := by
              rw [rt, if_neg hg, ex, show acr (x : Int) (c : Int) k = y by unfold acr; omega]
            rw [← er] at hp'
            have h := slide (k := k + 1) (c := c) (x := x) (y := y + 1) (by omega) hs' hp'
            rw [show acr (x : Int) c ((k + 1 : Nat) : Int) = ((y + 1 : Nat) : Int) by unfold acr; omega]
            exact h

/-- A way of the least cost is never ahead of the fronts. -/
theorem fr_complete {a b : Ls} {x y c p : Nat} (h : Sc a b x y c p) : ∀ r, c + p + r = ld a b a.length b.length → b.length + x ≤ r + a.length + y → a.length + y ≤ r + b.length + x → (x : Int) ≤ gi (fr a b (c + p)) c := by
  induction h with
  | start => intro r _ _ _; simp [fr, gi]
  | @keep x y c p u h h1 h2 ih =>
    intro r hr hb1 hb2
    have hi := ih r hr (by omega) (by omega)
    have hinv := h.inv
    rcases fr_ok a b (c + p) c (by omega) with e | ⟨X, Y, ex, hxy, hs, hp, hmax⟩
    · omega
    · rw [ex] at hi ⊢
      by_cases hX : X = x
      · subst hX
        have : Y = y := by omega
        subst this
        exact absurd ⟨u, h1, h2⟩ hmax
      · omega
  | @cut x y c p h h1 ih =>
    intro r hr hb1 hb2
    have hi := ih (r + 1) (by omega) (by omega) (by omega)
    have hinv := h.inv
    have hl := fr_length a b (c + p)
    rcases fr_ok a b (c + p) c (by omega) with e | ⟨X, Y, ex, hxy, hs, hp, hmax⟩
    · omega
    · have hinv2 := hs.inv
      have hX : X ≠ a.length := by
        intro e
        have h3 := ld_le_sc (hs.puts (b.length - Y) (by omega))
        rw [e, show Y + (b.length - Y) = b.length by omega] at h3
        omega
      rw [show c + 1 + p = c + p + 1 by omega, fr, gi_next _ _ _ _ (by omega)]
      have ec : cutF (fr a b (c + p)) (c + 1) a.length = X + 1 := by
        rw [cutF, if_neg, show c + 1 - 1 = c by omega, ex]
        rw [show c + 1 - 1 = c by omega, ex]
        omega
      unfold nextX
      rw [ec]
      rw [if_neg (by omega)]
      unfold keptI
      omega
  | @put x y c p h h1 ih =>
    intro r hr hb1 hb2
    have hi := ih (r + 1) (by omega) (by omega) (by omega)
    have hinv := h.inv
    have hl := fr_length a b (c + p)
    rcases fr_ok a b (c + p) c (by omega) with e | ⟨X, Y, ex, hxy, hs, hp, hmax⟩
    · omega
    · have hinv2 := hs.inv
      have hY : Y ≠ b.length := by
        intro e
        have h3 := ld_le_sc (hs.cuts (a.length - X) (by omega))
        rw [e, show X + (a.length - X) = a.length by omega] at h3
        omega
      rw [show c + (p + 1) = c + p + 1 by omega, fr, gi_next _ _ _ _ (by omega)]
      have ec : putF (fr a b (c + p)) c b.length = X := by
        rw [putF, if_neg, ex]
        rw [ex, hl]
        unfold acr
        omega
      unfold nextX
      rw [ec]
      rw [if_neg (by omega)]
      unfold keptI
      omega

/-! The best place. -/
theorem best_inv (f : List Int) (a b : Ls) (m : Nat) : ((List.range m).foldl (bestStep f a b) (-1) = -1 ∧ ∀ c, c < m → gi f c = -1) ∨
    ∃ c0, c0 < m ∧ (List.range m).foldl (bestStep f a b) (-1) = (c0 : Int) ∧ gi f c0 ≠ -1 ∧ ∀ c, c < m → gi f c ≠ -1 → gi f c - c ≤ gi f c0 - c0 := by
  induction m with
  | zero => exact .inl ⟨rfl, fun c hc => by omega⟩
  | succ m ih =>
    rw [List.range_succ, List.foldl_append, List.foldl_cons, List.foldl_nil]
    by_cases hm : gi f m = -1
    · rcases ih with ⟨e, h⟩ | ⟨c0, h0, e, h1, h2⟩
      · refine .inl ⟨by rw [bestStep, if_pos hm, e], fun c hc => ?_⟩
        by_cases h' : c = m
        · rw [h']; exact hm
        · exact h c (by omega)
      · refine .inr ⟨c0, by omega, by rw [bestStep, if_pos hm, e], h1, fun c hc hg => ?_⟩
        by_cases h' : c = m
        · rw [h'] at hg; exact absurd hm hg
        · exact h2 c (by omega) hg
    · rcases ih with ⟨e, h⟩ | ⟨c0, h0, e, h1, h2⟩
      · refine .inr ⟨m, by omega, by rw [bestStep, if_neg hm, e, if_pos (.inl rfl)], hm, fun c hc hg => ?_⟩
        by_cases h' : c = m
        · rw [h']; omega
        · exact absurd (h c (by omega)) hg
      · rw [e, bestStep, if_neg hm]
        simp only [Int.toNat_natCast]
        split
        · rename_i hc
          refine .inr ⟨m, by omega, rfl, hm, fun c hc' hg => ?_⟩
          by_cases h' : c = m
          · rw [h']; omega
          · have := h2 c (by omega) hg
            omega
        · rename_i hc
          refine .inr ⟨c0, by omega, rfl, h1, fun c hc' hg => ?_⟩
          by_cases h' : c = m
          · rw [h']; omega
          · exact h2 c (by omega) hg

/-- A front with some place: its best. -/
theorem best_some {f : List Int} {a b : Ls} {c : Nat} (hc : c < f.length) (hg : gi f c ≠ -1) :
    ∃ c0, c0 < f.length ∧ bestF f a b = (c0 : Int) ∧ gi f c0 ≠ -1 ∧ ∀ c, c < f.length → gi f c ≠ -1 → gi f c - c ≤ gi f c0 - c0 := by
  rcases best_inv f a b f.length with ⟨_, h⟩ | h
  · exact absurd (h c hc) hg
  · exact h

theorem whole_of {a b : Ls} {k c : Nat} (hc : c ≤ k) (h1 : gi (fr a b k) c = a.length) (h2 : a.length + (k - c) = b.length + c) : wholeF (fr a b k) a b = true := by
  have hl := fr_length a b k
  obtain ⟨c0, h0, e, hg, hmax⟩ := best_some (a := a) (b := b) (f := fr a b k) (c := c) (by omega) (by omega)
  have hm := hmax c (by omega) (by omega)
  rcases fr_ok a b k c0 (by omega) with h | ⟨X, Y, ex, hxy, hs, _, _⟩
  · exact absurd h hg
  · have := hs.inv
    unfold wholeF
    rw [e, hl, decide_eq_true_iff]
    simp only [Int.toNat_natCast]
    rw [ex] at hm ⊢
    unfold acr
    omega

theorem whole_ld {a b : Ls} {k c : Nat} (hc : c ≤ k) (hg : gi (fr a b k) c ≠ -1) (h : wholeF (fr a b k) a b = true) : ld a b a.length b.length ≤ k := by
  have hl := fr_length a b k
  obtain ⟨c0, h0, e, hg, hmax⟩ := best_some (a := a) (b := b) (f := fr a b k) (c := c) (by omega) hg
  rcases fr_ok a b k c0 (by omega) with h' | ⟨X, Y, ex, hxy, hs, _, _⟩
  · exact absurd h' hg
  · unfold wholeF at h
    rw [e, hl, decide_eq_true_iff] at h
    simp only [Int.toNat_natCast] at h
    rw [ex] at h
    unfold acr at h
    have h3 := ld_le_sc hs
    have e1 : X = a.length := by omega
    have e2 : Y = b.length := by omega
    rw [e1, e2] at h3
    omega

theorem fr_some {a b : Ls} {k : Nat} : (∀ j, j < k → wholeF (fr a b j) a b = false) → ∃ c, c ≤ k ∧ gi (fr a b k) c ≠ -1 := by
  induction k with
  | zero => intro _; exact ⟨0, by omega, by simp [fr, gi]⟩
  | succ k ih =>
    intro h
    obtain ⟨c, hc, hg⟩ := ih fun j hj => h j (by omega)
    have hw := h k (by omega)
    have hl := fr_length a b k
    rcases fr_ok a b k c hc with e | ⟨X, Y, ex, hxy, hs, _, _⟩
    · exact absurd e hg
    · have hinv := hs.inv
      by_cases hX : X = a.length
      · by_cases hY : Y = b.length
        · have := whole_of (a := a) (b := b) (k := k) (c := c) hc (by omega) (by omega)
          rw [hw] at this; cases this
        · refine ⟨c, by omega, ?_⟩
          rw [fr, gi_next _ _ _ _ (by omega)]
          have ec : putF (fr a b k) c b.length = X := by
            rw [putF, if_neg, ex]
            rw [ex, hl]
            unfold acr
            omega
          unfold nextX
          rw [ec, if_neg (by omega)]
          unfold keptI
          omega
      · refine ⟨c + 1, by omega, ?_⟩
        rw [fr, gi_next _ _ _ _ (by omega)]
        have ec : cutF (fr a b k) (c + 1) a.length = X + 1 := by
          rw [cutF, if_neg, show c + 1 - 1 = c by omega, ex]
          rw [show c + 1 - 1 = c by omega, ex]
          omega
        unfold nextX
        rw [ec, if_neg (by omega)]
        unfold keptI
        omega

/-! Where the search ends. -/
def stopFrom (a b : Ls) : Nat → Nat → Nat
  | 0, k => k
  | m + 1, k => if wholeF (fr a b k) a b then k else stopFrom a b m (k + 1)
def stop (a b : Ls) : Nat := stopFrom a b 100 0

theorem stop_inv (a b : Ls) : ∀ (m k : Nat), (∀ j, j < k → wholeF (fr a b j) a b = false) → (∀ j, j < stopFrom a b m k → wholeF (fr a b j) a b = false) ∧ stopFrom a b m k ≤ k + m ∧ (wholeF (fr a b (stopFrom a b m k)) a b = true ∨ stopFrom a b m k = k + m)
  | 0, k, h => ⟨h, Nat.le_refl _, .inr rfl⟩
  | m + 1, k, h => by
    rw [stopFrom]
    by_cases e : wholeF (fr a b k) a b = true
    · rw [if_pos e]; exact ⟨h, by omega, .inl e⟩
    · rw [if_neg e]
      have := stop_inv a b m (k + 1) fun j hj => by
        by_cases e' : j = k
        · rw [e']; simpa using e
        · exact h j (by omega)
      exact ⟨this.1, by omega, by rcases this.2.2 with h | h; exact .inl h; exact .inr (by omega)⟩

theorem stop_facts (a b : Ls) : (∀ j, j < stop a b → wholeF (fr a b j) a b = false) ∧ stop a b ≤ 100 ∧ (wholeF (fr a b (stop a b)) a b = true ∨ stop a b = 100) := by
  have := stop_inv a b 100 0 fun j hj => by omega
  simpa [stop] using this

theorem stop_best (a b : Ls) : ∃ c0 x y : Nat, c0 ≤ stop a b ∧ bestF (fr a b (stop a b)) a b = (c0 : Int) ∧ gi (fr a b (stop a b)) c0 = (x : Int) ∧ x + (stop a b - c0) = y + c0 ∧ Pa a b (rt a b (stop a b) c0) x y ∧
    (0 < a.length + b.length → 0 < x + y) ∧ (ld a b a.length b.length ≤ 100 → x = a.length ∧ y = b.length ∧ stop a b = ld a b a.length b.length) := by
  obtain ⟨h1, h2, h3⟩ := stop_facts a b
  obtain ⟨c, hc, hg⟩ := fr_some h1
  have hl := fr_length a b (stop a b)
  obtain ⟨c0, h0, e, hg0, hmax⟩ := best_some (a := a) (b := b) (f := fr a b (stop a b)) (c := c) (by omega) hg
  rcases fr_ok a b (stop a b) c0 (by omega) with h' | ⟨X, Y, ex, hxy, hs, hp, _⟩
  · exact absurd h' hg0
  · have hinv := hs.inv
    have hend : wholeF (fr a b (stop a b)) a b = true → X = a.length ∧ Y = b.length := by
      intro h
      unfold wholeF at h
      rw [e, hl, decide_eq_true_iff] at h
      simp only [Int.toNat_natCast] at h
      rw [ex] at h
      unfold acr at h
      omega
    refine ⟨c0, X, Y, by omega, e, ex, hxy, hp, ?_, ?_⟩
    · intro hpos
      rcases h3 with h | h
      · have := hend h; omega
      · omega
    · intro hn
      obtain ⟨cs, ps, hsc, hcp⟩ := ld_sc a b _ a.length b.length rfl (Nat.le_refl _) (Nat.le_refl _)
      have hcm := fr_complete hsc 0 (by omega) (by omega) (by omega)
      have hwn : wholeF (fr a b (ld a b a.length b.length)) a b = true := by
        rw [hcp] at hcm
        rcases fr_ok a b (ld a b a.length b.length) cs (by omega) with h' | ⟨X', Y', ex', hxy', hs', _, _⟩
        · omega
        · have := hs'.inv
          have := hsc.inv
          exact whole_of (c := cs) (by omega) (by omega) (by omega)
      have hle : stop a b ≤ ld a b a.length b.length := by
        rcases Nat.lt_or_ge (ld a b a.length b.length) (stop a b) with h | h
        · rw [h1 _ h] at hwn; cases hwn
        · exact h
      have hw : wholeF (fr a b (stop a b)) a b = true := by
        rcases h3 with h | h
        · exact h
        · rw [show stop a b = ld a b a.length b.length by omega]; exact hwn
      have hge := whole_ld hc hg hw
      exact ⟨(hend hw).1, (hend hw).2, by omega⟩
end Go.Proofs.YteppgjdkoakpeaaDoor
