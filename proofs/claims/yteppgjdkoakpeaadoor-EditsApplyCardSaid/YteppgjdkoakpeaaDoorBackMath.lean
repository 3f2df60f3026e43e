/- Plain mathematics of the way back. No program is named here. -/
import Derived.Test.YteppgjdkoakpeaaDoorApp
set_option linter.unusedVariables false
namespace Go.Proofs.YteppgjdkoakpeaaDoor

def backStep (a : Ls) (s : List Hk × Int) (k : Hk) : List Hk × Int := (s.1 ++ [⟨k.at_ + s.2, (k.put.length : Int), (a.drop k.at_.toNat).take k.cut.toNat⟩], s.2 + ((k.put.length : Int) - k.cut))
def bk (a : Ls) (h : List Hk) : List Hk × Int := h.foldl (backStep a) ([], 0)
def backL (a : Ls) (h : List Hk) : List Hk := (bk a h).1
theorem bk_snoc (a : Ls) (h : List Hk) (k : Hk) : bk a (h ++ [k]) = backStep a (bk a h) k := by simp [bk, List.foldl_append]

/-- What holds of a beginning of edits, and of its way back. -/
structure BI (a : Ls) (h : List Hk) : Prop where
  d0 : 0 ≤ (pre a h).2
  da : (pre a h).2 ≤ a.length
  len : ((pre a h).1.length : Int) = (pre a h).2 + (bk a h).2
  app : ∀ c, pre ((pre a h).1 ++ c) (bk a h).1 = (a.take (pre a h).2.toNat, ((pre a h).1.length : Int))
  right : ∀ n : Int, (pre a h).1.length ≤ n → rightFrom n (-1) (bk a h).1 = true
  ends : (h = [] ∧ lastEnd (-1) (bk a h).1 = -1) ∨ (h ≠ [] ∧ lastEnd (-1) (bk a h).1 = (pre a h).1.length ∧ (pre a h).2 = lastEnd (-1) h)
  back : ∀ c, bk ((pre a h).1 ++ c) (bk a h).1 = (h, -(bk a h).2)

theorem BI.start (a : Ls) : BI a [] :=
  ⟨by simp [pre], by simp [pre], by simp [pre, bk], by simp [pre, bk], by simp [bk, rightFrom], .inl ⟨rfl, rfl⟩, by simp [bk]⟩

theorem BI.step {a : Ls} {h : List Hk} {k : Hk} (hi : BI a h) (ho : okH a.length (lastEnd (-1) h) k = true) (hd : (pre a h).2 ≤ k.at_) : BI a (h ++ [k]) := by
  obtain ⟨d0, da, len, app, right, ends, back⟩ := hi
  have hk := okH_iff.1 ho
  obtain ⟨o, ho'⟩ : ∃ o, o = (pre a h).1 := ⟨_, rfl⟩
  obtain ⟨d, hd'⟩ : ∃ d : Nat, (pre a h).2 = (d : Int) := ⟨(pre a h).2.toNat, by omega⟩
  obtain ⟨mv, hmv⟩ : ∃ m, m = (bk a h).2 := ⟨_, rfl⟩
  obtain ⟨ks, hks⟩ : ∃ m, m = (bk a h).1 := ⟨_, rfl⟩
  obtain ⟨A, hA⟩ : ∃ A : Nat, k.at_ = (A : Int) := ⟨k.at_.toNat, by omega⟩
  obtain ⟨C, hC⟩ : ∃ C : Nat, k.cut = (C : Int) := ⟨k.cut.toNat, by omega⟩
  rw [← ho', hd', ← hmv] at len
  rw [← ho', hd', ← hks] at app
  rw [← ho', ← hks] at right back
  rw [← hmv] at back
  rw [← ho', hd', ← hks] at ends
  rw [hd', hA] at hd
  rw [hd'] at d0 da
  rw [hA, hC] at hk
  simp only [Int.toNat_natCast] at app
  have hmid : ((a.drop d).take (A - d)).length = A - d := by rw [List.length_take, List.length_drop]; omega
  have hcut : ((a.drop A).take C).length = C := by rw [List.length_take, List.length_drop]; omega
  have e1 : pre a (h ++ [k]) = (o ++ (a.drop d).take (A - d) ++ k.put, ((A + C : Nat) : Int)) := by
    rw [pre_snoc]
    unfold appStep hend
    rw [← ho', hd', hA, hC]
    simp only [Int.toNat_natCast]
    rw [show ((A : Int) - d).toNat = A - d by omega]
    simp
  have e2 : bk a (h ++ [k]) = (ks ++ [⟨(A : Int) + mv, (k.put.length : Int), (a.drop A).take C⟩], mv + ((k.put.length : Int) - C)) := by
    rw [bk_snoc]
    unfold backStep
    rw [← hks, ← hmv, hA, hC]
    simp only [Int.toNat_natCast]
  obtain ⟨P, hP⟩ : ∃ P, P = (A : Int) + mv := ⟨_, rfl⟩
  have hPo : P = ((o.length + (A - d) : Nat) : Int) := by omega
  have hol : (o ++ (a.drop d).take (A - d) ++ k.put).length = o.length + (A - d) + k.put.length := by rw [List.length_append, List.length_append, hmid]
  refine ⟨?_, ?_, ?_, ?_, ?_, .inr ⟨by simp, ?_, ?_⟩, ?_⟩
  · rw [e1]; simp only; omega
  · rw [e1]; simp only; omega
  · rw [e1, e2]; simp only; rw [hol]; omega
  · intro c
    rw [e1, e2]
    simp only
    rw [pre_snoc]
    have ha := app ((a.drop d).take (A - d) ++ k.put ++ c)
    rw [show o ++ (a.drop d).take (A - d) ++ k.put ++ c = o ++ ((a.drop d).take (A - d) ++ k.put ++ c) by simp, ha]
    unfold appStep hend
    simp only
    rw [← hP, hPo, hol]
    simp only [Int.toNat_natCast]
    rw [show (((o.length + (A - d) : Nat) : Int) - o.length).toNat = A - d by omega]
    have h1 : (o ++ ((a.drop d).take (A - d) ++ k.put ++ c)).drop o.length = (a.drop d).take (A - d) ++ (k.put ++ c) := by
      rw [List.drop_left, List.append_assoc]
    have h2 : ((a.drop d).take (A - d) ++ (k.put ++ c)).take (A - d) = (a.drop d).take (A - d) := by
      rw [List.take_append_of_le_length (by omega)]
      exact List.take_of_length_le (by omega)
    rw [h1, h2]
    have h3 : a.take d ++ (a.drop d).take (A - d) = a.take A := by
      rw [← List.take_add]
      congr 1
      omega
    rw [h3, ← List.take_add]
    simp
  · intro n hn
    rw [e1] at hn
    simp only at hn
    rw [hol] at hn
    rw [e2]
    simp only
    rw [rightFrom_append, right n (by omega)]
    simp only [Bool.true_and, rightFrom, Bool.and_true]
    refine okH_iff.2 ⟨?_, by simp only; omega, by simp only; omega, by simp only; omega, by simp only; rw [hcut]; omega⟩
    simp only
    rcases ends with ⟨e, e'⟩ | ⟨e, e', e''⟩
    · rw [e']; omega
    · rw [e']; omega
  · rw [e1, e2]
    simp only
    rw [lastEnd_snoc, hol]
    unfold hend
    simp only
    omega
  · rw [e1, lastEnd_snoc]
    unfold hend
    rw [hA, hC]
    simp
  · intro c
    rw [e1, e2]
    simp only
    rw [bk_snoc]
    have hb := back ((a.drop d).take (A - d) ++ k.put ++ c)
    rw [show o ++ (a.drop d).take (A - d) ++ k.put ++ c = o ++ ((a.drop d).take (A - d) ++ k.put ++ c) by simp, hb]
    unfold backStep
    simp only
    rw [← hP, hPo, hcut]
    simp only [Int.toNat_natCast]
    have h1 : (o ++ ((a.drop d).take (A - d) ++ k.put ++ c)).drop (o.length + (A - d)) = k.put ++ c := by
      rw [List.append_assoc, ← List.append_assoc o, show o.length + (A - d) = (o ++ (a.drop d).take (A - d)).length by rw [List.length_append, hmid]]
      exact List.drop_left
    have h2 : (k.put ++ c).take k.put.length = k.put := List.take_left
    rw [h1, h2]
    simp only [Prod.mk.injEq]
    refine ⟨?_, by omega⟩
    congr 1
    have : k = ⟨(A : Int), (C : Int), k.put⟩ := by cases k; simp_all
    rw [this]
    simp only [List.cons.injEq, Hk.mk.injEq, and_true]
    omega

theorem back_inv {a : Ls} {hs : List Hk} (hr : rightL hs a.length = true) : ∀ m, m ≤ hs.length → BI a (hs.take m)
  | 0, _ => BI.start a
  | m + 1, hm => by
    have hk : hs[m]? = some (hs[m]'(by omega)) := List.getElem?_eq_getElem (by omega)
    obtain ⟨r1, r2, r3, r4, r5, r6⟩ := right_at a (by omega) hr hk
    have e : hs = hs.take m ++ (hs[m]'(by omega)) :: hs.drop (m + 1) := by rw [List.getElem_cons_drop, List.take_append_drop]
    have hr' := hr
    unfold rightL at hr'
    rw [e, rightFrom_append, Bool.and_eq_true, rightFrom, Bool.and_eq_true] at hr'
    rw [List.take_add_one, hk, Option.toList_some]
    refine (back_inv hr m (by omega)).step ?_ r2
    exact hr'.2.1

/-- The way back of edits leads back, and its way back is the edits. -/
theorem back_facts {a : Ls} {hs : List Hk} (hr : rightL hs a.length = true) : rightL (backL a hs) (appL a hs).length = true ∧ appL (appL a hs) (backL a hs) = a ∧ backL (appL a hs) (backL a hs) = hs := by
  have hi := back_inv hr hs.length (Nat.le_refl _)
  rw [List.take_length] at hi
  obtain ⟨d0, da, len, app, right, ends, back⟩ := hi
  refine ⟨?_, ?_, ?_⟩
  · refine right _ ?_
    unfold appL
    rw [List.length_append]
    omega
  · have h1 := app (a.drop (pre a hs).2.toNat)
    have h2 : pre (appL a hs) (backL a hs) = (a.take (pre a hs).2.toNat, ((pre a hs).1.length : Int)) := h1
    show (pre (appL a hs) (backL a hs)).1 ++ (appL a hs).drop (pre (appL a hs) (backL a hs)).2.toNat = a
    rw [h2]
    simp only [Int.toNat_natCast]
    unfold appL
    rw [List.drop_left, List.take_append_drop]
  · have h1 := back (a.drop (pre a hs).2.toNat)
    show (bk (appL a hs) (bk a hs).1).1 = hs
    have h2 : bk (appL a hs) (bk a hs).1 = (hs, -(bk a hs).2) := h1
    rw [h2]

theorem back_length (a : Ls) (hs : List Hk) : (backL a hs).length = hs.length := by
  have : ∀ (h : List Hk) (s : List Hk × Int), (h.foldl (backStep a) s).1.length = s.1.length + h.length := by
    intro h
    induction h with
    | nil => intro s; simp
    | cons k r ih => intro s; rw [List.foldl_cons, ih]; simp [backStep]; omega
  have := this hs ([], 0)
  simpa [backL, bk] using this
end Go.Proofs.YteppgjdkoakpeaaDoor
