/- Plain mathematics of edits: what comes of them, the way back, and a way's edits joined. No program is named here. -/
import Derived.Test.YteppgjdkoakpeaaDoorMyers
set_option linter.unusedVariables false
namespace Go.Proofs.YteppgjdkoakpeaaDoor

structure Hk where
  at_ : Int
  cut : Int
  put : Ls
deriving DecidableEq

/-- The end of the one ahead. -/
def hend (k : Hk) : Int := k.at_ + k.cut
def okH (n e : Int) (k : Hk) : Bool := !(decide (k.at_ ≤ e) || decide (k.at_ > n) || decide (k.cut < 0) || decide (k.cut > n - k.at_)) && !(decide (k.cut = 0) && decide (k.put.length = 0))
def rightFrom (n : Int) : Int → List Hk → Bool
  | _, [] => true
  | e, k :: r => okH n e k && rightFrom n (hend k) r
def rightL (h : List Hk) (n : Int) : Bool := rightFrom n (-1) h
def lastEnd (e : Int) (h : List Hk) : Int := h.foldl (fun _ k => hend k) e

theorem okH_iff {n e : Int} {k : Hk} : okH n e k = true ↔ e < k.at_ ∧ k.at_ ≤ n ∧ 0 ≤ k.cut ∧ k.cut ≤ n - k.at_ ∧ ¬ (k.cut = 0 ∧ k.put.length = 0) := by
  unfold okH
  simp only [Bool.and_eq_true, Bool.not_eq_true', Bool.or_eq_false_iff, decide_eq_false_iff_not, Bool.and_eq_false_iff]
  omega

theorem rightFrom_append (n : Int) : ∀ (h r : List Hk) (e : Int), rightFrom n e (h ++ r) = (rightFrom n e h && rightFrom n (lastEnd e h) r)
  | [], r, e => by simp [rightFrom, lastEnd]
  | k :: h, r, e => by simp [rightFrom, rightFrom_append n h r, lastEnd, Bool.and_assoc]

theorem rightFrom_mono {n m : Int} (hm : n ≤ m) : ∀ (h : List Hk) (e : Int), rightFrom n e h = true → rightFrom m e h = true
  | [], _, _ => rfl
  | k :: h, e, hr => by
    rw [rightFrom, Bool.and_eq_true] at hr ⊢
    refine ⟨?_, rightFrom_mono hm h _ hr.2⟩
    have := okH_iff.1 hr.1
    exact okH_iff.2 (by omega)

/-- What comes of them, as far as they have come: the lines, and how far in the list. -/
def appStep (a : Ls) (s : Ls × Int) (k : Hk) : Ls × Int := (s.1 ++ (a.drop s.2.toNat).take (k.at_ - s.2).toNat ++ k.put, hend k)
def pre (a : Ls) (h : List Hk) : Ls × Int := h.foldl (appStep a) ([], 0)
def appL (a : Ls) (h : List Hk) : Ls := (pre a h).1 ++ a.drop (pre a h).2.toNat
def costL (h : List Hk) : Int := h.foldl (fun (n : Int) k => n + (k.cut + (k.put.length : Int))) 0

theorem pre_snoc (a : Ls) (h : List Hk) (k : Hk) : pre a (h ++ [k]) = appStep a (pre a h) k := by simp [pre, List.foldl_append]
theorem costL_snoc (h : List Hk) (k : Hk) : costL (h ++ [k]) = costL h + (k.cut + k.put.length) := by simp [costL, List.foldl_append]
theorem costL_nil : costL [] = 0 := rfl
theorem lastEnd_snoc (e : Int) (h : List Hk) (k : Hk) : lastEnd e (h ++ [k]) = hend k := by simp [lastEnd, List.foldl_append]

/-! A way's edits, joined. -/
def openH (h : List Hk) (x : Int) : Bool :=
  match h.getLast? with
  | none => true
  | some k => decide (hend k < x)
def bump (b : Ls) (s : Stp) (k : Hk) : Hk := if s.cut then { k with cut := k.cut + 1 } else { k with put := k.put ++ [b.getD s.y.toNat ByteArray.empty] }
def joinS (b : Ls) (h : List Hk) (s : Stp) : List Hk :=
  if openH h s.x then h ++ [bump b s ⟨s.x, 0, []⟩]
  else h.dropLast ++ [bump b s (h.getLast?.getD ⟨0, 0, []⟩)]

theorem joinS_new {b : Ls} {h : List Hk} {s : Stp} (e : openH h s.x = true) : joinS b h s = h ++ [bump b s ⟨s.x, 0, []⟩] := by rw [joinS, if_pos e]
theorem joinS_old {b : Ls} {h : List Hk} {k : Hk} {s : Stp} (e : openH (h ++ [k]) s.x = false) : joinS b (h ++ [k]) s = h ++ [bump b s k] := by
  rw [joinS, if_neg (by simp [e])]; simp

/-- What the joined edits tell, where the way stands at x and y. -/
structure HI (a b : Ls) (x y : Nat) (h : List Hk) : Prop where
  right : rightFrom x (-1) h = true
  d0 : 0 ≤ (pre a h).2
  dx : (pre a h).2 ≤ x
  read : (pre a h).1 ++ (a.drop (pre a h).2.toNat).take (x - (pre a h).2.toNat) = b.take y
  ends : h = [] ∨ lastEnd (-1) h = (pre a h).2

theorem HI.last {a b : Ls} {x y : Nat} {h : List Hk} {k : Hk} (hi : HI a b x y (h ++ [k])) : hend k ≤ x ∧ (pre a (h ++ [k])).2 = hend k := by
  have := hi.dx
  rw [pre_snoc] at this ⊢
  exact ⟨this, rfl⟩

theorem take_snoc {b : Ls} {y : Nat} {u : ByteArray} (h : b[y]? = some u) : b.take (y + 1) = b.take y ++ [u] := by
  rw [List.take_add_one, h]; rfl

theorem list_snoc {α : Type} (h : List α) (hne : h ≠ []) : ∃ r k, h = r ++ [k] := ⟨h.dropLast, h.getLast hne, (List.dropLast_concat_getLast hne).symm⟩

theorem HI.keep {a b : Ls} {x y : Nat} {h : List Hk} {u : ByteArray} (hi : HI a b x y h) (h1 : a[x]? = some u) (h2 : b[y]? = some u) : HI a b (x + 1) (y + 1) h := by
  obtain ⟨r, d0, dx, rd, en⟩ := hi
  refine ⟨rightFrom_mono (by omega) _ _ r, d0, by omega, ?_, en⟩
  rw [take_snoc h2, ← rd, List.append_assoc]
  congr 1
  rw [show x + 1 - (pre a h).2.toNat = x - (pre a h).2.toNat + 1 by omega]
  refine take_snoc ?_
  rw [List.getElem?_drop, show (pre a h).2.toNat + (x - (pre a h).2.toNat) = x by omega]
  exact h1

theorem openH_snoc (h : List Hk) (k : Hk) (x : Int) : openH (h ++ [k]) x = decide (hend k < x) := by simp [openH]
theorem openH_nil (x : Int) : openH [] x = true := rfl

theorem joined {a b : Ls} {ss : List Stp} {x y : Nat} (p : Pa a b ss x y) : HI a b x y (ss.foldl (joinS b) []) ∧ costL (ss.foldl (joinS b) []) = ss.length := by
  induction p with
  | start => exact ⟨⟨rfl, by simp [pre], by simp [pre], by simp [pre], .inl rfl⟩, rfl⟩
  | keep p h1 h2 ih => exact ⟨ih.1.keep h1 h2, ih.2⟩
  | @cut ss x y p hx ih =>
    obtain ⟨hi, hc⟩ := ih
    rw [List.foldl_append, List.foldl_cons, List.foldl_nil]
    generalize hh : ss.foldl (joinS b) [] = h at hi hc ⊢
    have hpx : HI a b x y h := hi
    obtain ⟨r, d0, dx, rd, en⟩ := hi
    by_cases ho : openH h (x : Int) = true
    · rw [joinS_new (by exact ho)]
      have hb : bump b ⟨(x : Int), y, true⟩ ⟨(x : Int), 0, []⟩ = ⟨x, 1, []⟩ := by simp [bump]
      rw [hb]
      refine ⟨⟨?_, ?_, ?_, ?_, .inr ?_⟩, ?_⟩
      · rw [rightFrom_append, rightFrom_mono (m := ((x + 1 : Nat) : Int)) (by omega) _ _ r]
        simp only [Bool.true_and, rightFrom, Bool.and_true]
        refine okH_iff.2 ⟨?_, by simp; omega, by simp, by simp; omega, by simp⟩
        by_cases hn : h = []
        · subst hn; simp [lastEnd]; omega
        · obtain ⟨r', k, rfl⟩ := list_snoc h hn
          rw [lastEnd_snoc]
          rw [openH_snoc, decide_eq_true_iff] at ho
          exact ho
      · rw [pre_snoc]; simp [appStep, hend]; omega
      · rw [pre_snoc]; simp [appStep, hend]
      · rw [pre_snoc]
        simp only [appStep, hend, List.append_nil]
        rw [show ((x : Int) - (pre a h).2).toNat = x - (pre a h).2.toNat by omega, rd, show x + 1 - ((x : Int) + 1).toNat = 0 by omega]
        simp
      · rw [lastEnd_snoc, pre_snoc]; rfl
      · rw [costL_snoc, hc]; simp
    · have hn : h ≠ [] := by rintro rfl; exact ho rfl
      obtain ⟨r', k, rfl⟩ := list_snoc h hn
      have ho' : openH (r' ++ [k]) (x : Int) = false := by simpa using ho
      rw [joinS_old (by exact ho')]
      rw [openH_snoc, decide_eq_false_iff_not] at ho'
      obtain ⟨hl1, hl2⟩ := hpx.last
      have he : hend k = x := by omega
      have hb : bump b ⟨(x : Int), y, true⟩ k = { k with cut := k.cut + 1 } := by simp [bump]
      rw [hb]
      have he' : hend { k with cut := k.cut + 1 } = x + 1 := by simp [hend] at he ⊢; omega
      rw [rightFrom_append, Bool.and_eq_true] at r
      have hk := r.2
      rw [rightFrom, Bool.and_eq_true] at hk
      have hk' := okH_iff.1 hk.1
      refine ⟨⟨?_, ?_, ?_, ?_, .inr ?_⟩, ?_⟩
      · rw [rightFrom_append, rightFrom_mono (m := ((x + 1 : Nat) : Int)) (by omega) _ _ r.1]
        simp only [Bool.true_and, rightFrom, Bool.and_true]
        exact okH_iff.2 ⟨by simp; omega, by simp; omega, by simp; omega, by simp; omega, by simp; omega⟩
      · rw [pre_snoc]; simp only [appStep]; rw [he']; omega
      · rw [pre_snoc]; simp only [appStep]; rw [he']; omega
      · rw [pre_snoc] at rd ⊢
        simp only [appStep] at rd ⊢
        rw [he] at rd
        rw [he', show x + 1 - ((x : Int) + 1).toNat = 0 by omega]
        rw [show x - (x : Int).toNat = 0 by omega] at rd
        simpa using rd
      · rw [lastEnd_snoc, pre_snoc]; rfl
      · rw [costL_snoc] at hc ⊢; simp only [List.length_append, List.length_cons, List.length_nil]; omega
  | @put ss x y p hy ih =>
    obtain ⟨hi, hc⟩ := ih
    rw [List.foldl_append, List.foldl_cons, List.foldl_nil]
    generalize hh : ss.foldl (joinS b) [] = h at hi hc ⊢
    have hpx : HI a b x y h := hi
    obtain ⟨r, d0, dx, rd, en⟩ := hi
    have hu : b[y]? = some (b[y]'hy) := List.getElem?_eq_getElem hy
    have hu' : b.getD y ByteArray.empty = b[y]'hy := by simp [List.getD, hu]
    by_cases ho : openH h (x : Int) = true
    · rw [joinS_new (by exact ho)]
      have hb : bump b ⟨(x : Int), y, false⟩ ⟨(x : Int), 0, []⟩ = ⟨x, 0, [b[y]'hy]⟩ := by simp [bump, hy]
      rw [hb]
      refine ⟨⟨?_, ?_, ?_, ?_, .inr ?_⟩, ?_⟩
      · rw [rightFrom_append, r]
        simp only [Bool.true_and, rightFrom, Bool.and_true]
        refine okH_iff.2 ⟨?_, by simp, by simp, by simp, by simp⟩
        by_cases hn : h = []
        · subst hn; simp [lastEnd]; omega
        · obtain ⟨r', k, rfl⟩ := list_snoc h hn
          rw [lastEnd_snoc]
          rw [openH_snoc, decide_eq_true_iff] at ho
          exact ho
      · rw [pre_snoc]; simp [appStep, hend]
      · rw [pre_snoc]; simp [appStep, hend]
      · rw [pre_snoc]
        simp only [appStep, hend]
        rw [show ((x : Int) - (pre a h).2).toNat = x - (pre a h).2.toNat by omega, rd, show x - ((x : Int) + 0).toNat = 0 by omega, take_snoc hu]
        simp
      · rw [lastEnd_snoc, pre_snoc]; rfl
      · rw [costL_snoc, hc]; simp
    · have hn : h ≠ [] := by rintro rfl; exact ho rfl
      obtain ⟨r', k, rfl⟩ := list_snoc h hn
      have ho' : openH (r' ++ [k]) (x : Int) = false := by simpa using ho
      rw [joinS_old (by exact ho')]
      rw [openH_snoc, decide_eq_false_iff_not] at ho'
      obtain ⟨hl1, hl2⟩ := hpx.last
      have he : hend k = x := by omega
      have hb : bump b ⟨(x : Int), y, false⟩ k = { k with put := k.put ++ [b[y]'hy] } := by simp [bump, hy]
      rw [hb]
      have he' : hend { k with put := k.put ++ [b[y]'hy] } = x := by simp [hend] at he ⊢; omega
      rw [rightFrom_append, Bool.and_eq_true] at r
      have hk := r.2
      rw [rightFrom, Bool.and_eq_true] at hk
      have hk' := okH_iff.1 hk.1
      refine ⟨⟨?_, ?_, ?_, ?_, .inr ?_⟩, ?_⟩
      · rw [rightFrom_append, r.1]
        simp only [Bool.true_and, rightFrom, Bool.and_true]
        exact okH_iff.2 ⟨by simp; omega, by simp; omega, by simp; omega, by simp; omega, by simp⟩
      · rw [pre_snoc]; simp only [appStep]; rw [he']; omega
      · rw [pre_snoc]; simp only [appStep]; rw [he']; omega
      · rw [pre_snoc] at rd ⊢
        simp only [appStep] at rd ⊢
        rw [he] at rd
        rw [he', take_snoc hu, ← rd, show x - (x : Int).toNat = 0 by omega]
        simp
      · rw [lastEnd_snoc, pre_snoc]; rfl
      · rw [costL_snoc] at hc ⊢; simp only [List.length_append, List.length_cons, List.length_nil]; omega

/-! The whole. -/
def trimTail : Nat → Ls → Ls → Ls × Ls
  | 0, a, b => (a, b)
  | m + 1, a, b => if 0 < a.length ∧ 0 < b.length ∧ a[a.length - 1]? = b[b.length - 1]? then trimTail m a.dropLast b.dropLast else (a, b)
def trim (a b : Ls) : Ls × Ls := trimTail a.length a b

structure DS where
  x : Nat
  y : Nat
  h : List Hk

def stepD (a b : Ls) (s : DS) : DS :=
  if s.x < a.length ∨ s.y < b.length then
    ⟨s.x + (gi (fr (a.drop s.x) (b.drop s.y) (stop (a.drop s.x) (b.drop s.y))) (bestF (fr (a.drop s.x) (b.drop s.y) (stop (a.drop s.x) (b.drop s.y))) (a.drop s.x) (b.drop s.y)).toNat).toNat,
     s.y + (acr (gi (fr (a.drop s.x) (b.drop s.y) (stop (a.drop s.x) (b.drop s.y))) (bestF (fr (a.drop s.x) (b.drop s.y) (stop (a.drop s.x) (b.drop s.y))) (a.drop s.x) (b.drop s.y)).toNat)
        (bestF (fr (a.drop s.x) (b.drop s.y) (stop (a.drop s.x) (b.drop s.y))) (a.drop s.x) (b.drop s.y)) (stop (a.drop s.x) (b.drop s.y))).toNat,
     ((rt (a.drop s.x) (b.drop s.y) (stop (a.drop s.x) (b.drop s.y)) (bestF (fr (a.drop s.x) (b.drop s.y) (stop (a.drop s.x) (b.drop s.y))) (a.drop s.x) (b.drop s.y)).toNat).map (shift s.x s.y)).foldl (joinS b) s.h⟩
  else s
def itD (a b : Ls) : Nat → DS
  | 0 => ⟨0, 0, []⟩
  | k + 1 => stepD a b (itD a b k)
def diffM (a b : Ls) : List Hk := (itD a b (a.length + b.length)).h
def diffL (a b : Ls) : List Hk := diffM (trim a b).1 (trim a b).2

/-- What stands behind k rounds. -/
def DI (a b : Ls) (s : DS) (k : Nat) : Prop :=
  ∃ ss, Pa a b ss s.x s.y ∧ s.h = ss.foldl (joinS b) [] ∧ (min k (a.length + b.length) ≤ s.x + s.y) ∧ (0 < k → ld a b a.length b.length ≤ 100 → s.x = a.length ∧ s.y = b.length ∧ ss.length = ld a b a.length b.length)

theorem stepD_ok {a b : Ls} {s : DS} {k : Nat} (h : DI a b s k) (hk : k = 0 → s = ⟨0, 0, []⟩) : DI a b (stepD a b s) (k + 1) := by
  obtain ⟨ss, hp, hh, hm, hb⟩ := h
  have hle := hp.le
  by_cases hc : s.x < a.length ∨ s.y < b.length
  · obtain ⟨c0, x, y, h0, e, eg, hxy, hpa, hpos, hbest⟩ := stop_best (a.drop s.x) (b.drop s.y)
    have hmore := hp.more hpa
    have hpos' := hpos (by rw [List.length_drop, List.length_drop]; omega)
    have hlm := hmore.le
    unfold stepD
    rw [if_pos hc, e]
    simp only [Int.toNat_natCast]
    rw [eg]
    have ea : (acr (x : Int) c0 (stop (a.drop s.x) (b.drop s.y) : Int)).toNat = y := by unfold acr; omega
    rw [ea]
    simp only [Int.toNat_natCast]
    refine ⟨_, hmore, ?_, by dsimp only; omega, ?_⟩
    · simp only [List.foldl_append, ← hh]
    · intro _ hn
      by_cases hz : 0 < k
      · have := hb hz hn
        omega
      · have h0 : k = 0 := by omega
        have hs := hk h0
        subst hs
        simp only [List.drop_zero] at hbest hmore ⊢
        obtain ⟨e1, e2, e3⟩ := hbest hn
        have : ss = [] := by
          have := hp.length_le
          exact List.length_eq_zero_iff.1 (by simpa using this)
        subst this
        simp only [Nat.zero_add, List.nil_append, List.length_map, rt_length]
        exact ⟨e1, e2, e3⟩
  · unfold stepD
    rw [if_neg hc]
    refine ⟨ss, hp, hh, by omega, ?_⟩
    intro _ hn
    refine ⟨by omega, by omega, ?_⟩
    by_cases hz : 0 < k
    · exact (hb hz hn).2.2
    · have h0 : k = 0 := by omega
      have hs := hk h0
      subst hs
      have := hp.length_le
      simp only at this hc
      have ha : a.length = 0 := by omega
      have hb' : b.length = 0 := by omega
      rw [ha, hb', ld_zero]
      omega

theorem itD_ok (a b : Ls) (k : Nat) : DI a b (itD a b k) k := by
  induction k with
  | zero => exact ⟨[], .start, rfl, by simp, fun h => by omega⟩
  | succ k ih => exact stepD_ok ih fun e => by rw [e]; rfl

theorem stepD_done {a b : Ls} {s : DS} (h : ¬ (s.x < a.length ∨ s.y < b.length)) : stepD a b s = s := by rw [stepD, if_neg h]

theorem itD_done {a b : Ls} {k : Nat} (h : ¬ ((itD a b k).x < a.length ∨ (itD a b k).y < b.length)) : ∀ m, k ≤ m → itD a b m = itD a b k := by
  intro m hm
  induction m with
  | zero => obtain rfl : k = 0 := by omega
            rfl
  | succ m ih =>
    by_cases e : k = m + 1
    · rw [e]
    · rw [itD, ih (by omega), stepD_done h]

theorem itD_small {a b : Ls} {k : Nat} (h : (itD a b k).x < a.length ∨ (itD a b k).y < b.length) : k < a.length + b.length := by
  obtain ⟨ss, hp, _, hm, _⟩ := itD_ok a b k
  have := hp.le
  omega

/-- Two lists with the same end. -/
theorem trim_ok : ∀ (m : Nat) (a b : Ls), m = a.length → ∃ t, a = (trimTail m a b).1 ++ t ∧ b = (trimTail m a b).2 ++ t
  | 0, a, b, _ => ⟨[], by simp [trimTail], by simp [trimTail]⟩
  | m + 1, a, b, hm => by
    rw [trimTail]
    split
    · rename_i h
      obtain ⟨h1, h2, h3⟩ := h
      obtain ⟨a0, u, rfl⟩ := list_snoc a (by rintro rfl; simp at h1)
      obtain ⟨b0, v, rfl⟩ := list_snoc b (by rintro rfl; simp at h2)
      have e : u = v := by simpa using h3
      subst e
      rw [List.dropLast_concat, List.dropLast_concat]
      obtain ⟨t, ta, tb⟩ := trim_ok m a0 b0 (by simpa using hm)
      exact ⟨t ++ [u], by rw [← List.append_assoc, ← ta], by rw [← List.append_assoc, ← tb]⟩
    · exact ⟨[], by simp, by simp⟩

theorem Pa.wide {a b : Ls} {ss : List Stp} {x y : Nat} (h : Pa a b ss x y) (t : Ls) : Pa (a ++ t) (b ++ t) ss x y := by
  induction h with
  | start => exact .start
  | @keep ss x y u h h1 h2 ih =>
    refine ih.keep (u := u) ?_ ?_
    · rw [List.getElem?_append_left (List.getElem?_eq_some_iff.1 h1).1]; exact h1
    · rw [List.getElem?_append_left (List.getElem?_eq_some_iff.1 h2).1]; exact h2
  | cut h h1 ih => exact ih.cut (by simp; omega)
  | put h h1 ih => exact ih.put (by simp; omega)

theorem Pa.tail {a b t : Ls} {ss : List Stp} (h : Pa (a ++ t) (b ++ t) ss a.length b.length) : ∀ n, n ≤ t.length → Pa (a ++ t) (b ++ t) ss (a.length + n) (b.length + n)
  | 0, _ => h
  | n + 1, hn => by
    have e : t[n]? = some (t[n]'(by omega)) := List.getElem?_eq_getElem (by omega)
    have e1 : (a ++ t)[a.length + n]? = some (t[n]'(by omega)) := by rw [List.getElem?_append_right (by omega), show a.length + n - a.length = n by omega]; exact e
    have e2 : (b ++ t)[b.length + n]? = some (t[n]'(by omega)) := by rw [List.getElem?_append_right (by omega), show b.length + n - b.length = n by omega]; exact e
    exact (Pa.tail h n (by omega)).keep e1 e2

theorem ld_tail (a b t : Ls) : ∀ n, n ≤ t.length → ld (a ++ t) (b ++ t) (a.length + n) (b.length + n) = ld a b a.length b.length
  | 0, _ => ld_congr _ _ _ rfl (fun k hk => by rw [List.getElem?_append_left hk]) (fun k hk => by rw [List.getElem?_append_left hk])
  | n + 1, hn => by
    rw [← ld_tail a b t n (by omega)]
    refine ld_same (i := a.length + n) (j := b.length + n) ?_
    rw [List.getElem?_append_right (by omega), List.getElem?_append_right (by omega), show a.length + n - a.length = n by omega, show b.length + n - b.length = n by omega]

theorem diffL_way (a b : Ls) : ∃ ss, Pa a b ss a.length b.length ∧ (∃ b', ∃ t, b = b' ++ t ∧ diffL a b = ss.foldl (joinS b') [] ∧ Pa (trim a b).1 b' ss (trim a b).1.length b'.length) ∧ (ld a b a.length b.length ≤ 100 → ss.length = ld a b a.length b.length) := by
  obtain ⟨t, ta, tb⟩ := trim_ok a.length a b rfl
  generalize hA : (trimTail a.length a b).1 = A at ta
  generalize hB : (trimTail a.length a b).2 = B at tb
  have hT : (trim a b).1 = A ∧ (trim a b).2 = B := ⟨hA, hB⟩
  obtain ⟨ss, hp, hh, hm, hb⟩ := itD_ok A B (A.length + B.length)
  have hle := hp.le
  have hx : (itD A B (A.length + B.length)).x = A.length := by omega
  have hy : (itD A B (A.length + B.length)).y = B.length := by omega
  rw [hx, hy] at hp
  have hw := (hp.wide t).tail t.length (Nat.le_refl _)
  rw [← List.length_append, ← List.length_append, ← ta, ← tb] at hw
  have hl := ld_tail A B t t.length (Nat.le_refl _)
  rw [← List.length_append, ← List.length_append, ← ta, ← tb] at hl
  refine ⟨ss, hw, ⟨B, t, tb, ?_, by rw [hT.1]; exact hp⟩, ?_⟩
  · unfold diffL diffM
    rw [hT.1, hT.2]
    exact hh
  · intro hn
    rw [hl] at hn ⊢
    by_cases hz : 0 < A.length + B.length
    · exact (hb hz hn).2.2
    · have h1 : A.length = 0 := by omega
      have h2 : B.length = 0 := by omega
      have := hp.length_le
      rw [h1, h2, ld_zero]
      omega

theorem joinS_wide (b t : Ls) (h : List Hk) (s : Stp) (hs : s.cut = true ∨ s.y.toNat < b.length) : joinS (b ++ t) h s = joinS b h s := by
  have e : ∀ k, bump (b ++ t) s k = bump b s k := by
    intro k
    unfold bump
    rcases hs with h | h
    · simp [h]
    · simp [List.getD, List.getElem?_append_left h]
  unfold joinS
  rw [e, e]

theorem Pa.steps {a b : Ls} {ss : List Stp} {x y : Nat} (h : Pa a b ss x y) : ∀ s ∈ ss, s.cut = true ∨ s.y.toNat < b.length := by
  induction h with
  | start => simp
  | keep h h1 h2 ih => exact ih
  | cut h h1 ih =>
    intro s hs
    rcases List.mem_append.1 hs with hs | hs
    · exact ih s hs
    · simp at hs; subst hs; exact .inl rfl
  | put h h1 ih =>
    intro s hs
    rcases List.mem_append.1 hs with hs | hs
    · exact ih s hs
    · simp at hs; subst hs; exact .inr (by simpa using h1)

theorem fold_wide (b t : Ls) : ∀ (ss : List Stp) (h : List Hk), (∀ s ∈ ss, s.cut = true ∨ s.y.toNat < b.length) → ss.foldl (joinS (b ++ t)) h = ss.foldl (joinS b) h
  | [], _, _ => rfl
  | s :: r, h, hs => by
    rw [List.foldl_cons, List.foldl_cons, joinS_wide b t h s (hs s (by simp)), fold_wide b t r _ fun s' h' => hs s' (by simp [h'])]

/-- What the edits are. -/
theorem diffL_facts (a b : Ls) : rightL (diffL a b) a.length = true ∧ appL a (diffL a b) = b ∧ (diffL a b = [] ↔ a = b) ∧ (ld a b a.length b.length ≤ 100 → costL (diffL a b) = ld a b a.length b.length) ∧
    (ld a b a.length b.length : Int) ≤ costL (diffL a b) ∧ costL (diffL a b) ≤ a.length + b.length := by
  obtain ⟨ss, hp, ⟨b', t, eb, ed, hp'⟩, hl⟩ := diffL_way a b
  have ed' : diffL a b = ss.foldl (joinS b) [] := by
    rw [ed, eb]
    exact (fold_wide b' t ss [] hp'.steps).symm
  obtain ⟨hi, hc⟩ := joined hp
  rw [← ed'] at hi hc
  obtain ⟨r, d0, dx, rd, en⟩ := hi
  have happ : appL a (diffL a b) = b := by
    have e1 : b.take b.length = b := List.take_of_length_le (Nat.le_refl _)
    rw [e1, List.take_of_length_le (by rw [List.length_drop]; omega)] at rd
    exact rd
  refine ⟨r, happ, ⟨fun e => ?_, fun e => ?_⟩, fun hn => by rw [hc, hl hn], by rw [hc]; have := hp.ld_le; omega, by rw [hc]; have := hp.length_le; omega⟩
  · rw [e] at happ
    simpa [appL, pre] using happ
  · subst e
    have h0 := hl (by rw [ld_diag]; omega)
    rw [ld_diag] at h0
    have : ss = [] := List.length_eq_zero_iff.1 h0
    rw [ed', this]
    rfl
end Go.Proofs.YteppgjdkoakpeaaDoor
