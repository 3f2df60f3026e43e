/- Plain mathematics of lines: no program is named here. -/
import Derived.Test.YtnppehgjeakkiaaDoorRows
import Derived.Lib.Split
import Derived.Lib.SplitLaws
import Derived.Lib.Join
set_option linter.unusedVariables false
namespace Go.Proofs.YtnppehgjeakkiaaDoor

/-- A text's lines: what stands between its bytes 10. -/
def spl : List UInt8 → List (List UInt8)
  | [] => [[]]
  | c :: r => if c = 10 then [] :: spl r else
    match spl r with
    | [] => [[c]]
    | x :: t => (c :: x) :: t

theorem spl_nil : spl [] = [[]] := rfl
theorem spl_ten (r : List UInt8) : spl (10 :: r) = [] :: spl r := by simp [spl]
theorem spl_cons {c : UInt8} {r x : List UInt8} {t : List (List UInt8)} (h : c ≠ 10) (e : spl r = x :: t) : spl (c :: r) = (c :: x) :: t := by
  rw [spl, if_neg h, e]
theorem spl_ne (l : List UInt8) : spl l ≠ [] := by
  cases l with
  | nil => simp [spl]
  | cons c r =>
    by_cases h : c = 10
    · subst h; rw [spl_ten]; simp
    · rw [spl, if_neg h]
      split <;> simp
theorem spl_form (l : List UInt8) : ∃ x t, spl l = x :: t := by
  cases h : spl l with
  | nil => exact absurd h (spl_ne l)
  | cons x t => exact ⟨x, t, rfl⟩

theorem spl_length (l : List UInt8) : (spl l).length = l.count 10 + 1 := by
  induction l with
  | nil => rfl
  | cons c r ih =>
    by_cases h : c = 10
    · subst h; rw [spl_ten]; simp [ih]
    · obtain ⟨x, t, e⟩ := spl_form r
      rw [spl_cons h e, List.count_cons_of_ne (by simpa using h), ← ih, e]; rfl

/-- No byte 10 ahead of the m-th, which is one. -/
theorem spl_at : ∀ (m : Nat) (l : List UInt8), (∀ j, j < m → l[j]? ≠ some 10) → l[m]? = some 10 → spl l = l.take m :: spl (l.drop (m + 1))
  | 0, l, _, h => by
    cases l with
    | nil => simp at h
    | cons c r =>
      have : c = 10 := by simpa using h
      subst this
      rw [spl_ten]; rfl
  | m + 1, l, hn, h => by
    cases l with
    | nil => simp at h
    | cons c r =>
      have hc : c ≠ 10 := fun e => hn 0 (by omega) (by simp [e])
      have ih := spl_at m r (fun j hj e => hn (j + 1) (by omega) (by simpa using e)) (by simpa using h)
      rw [spl_cons hc ih]
      rfl

/-- No byte 10 at all. -/
theorem spl_none : ∀ (l : List UInt8), (∀ j : Nat, l[j]? ≠ some 10) → spl l = [l]
  | [], _ => rfl
  | c :: r, h => by
    have hc : c ≠ 10 := fun e => h 0 (by simp [e])
    rw [spl_cons hc (spl_none r (fun j e => h (j + 1) (by simpa using e)))]

theorem splitK_spl (s : List UInt8) : Lib.splitK [10] 0 (Lib.count s [10]) s = spl s := by
  induction s with
  | nil => rw [Lib.count_one]; rfl
  | cons b l ih =>
    by_cases h : b = 10
    · subst h
      have hix : Lib.index (10 :: l) [10] = 0 := by rw [Lib.index]; simp [List.isPrefixOf]
      rw [Lib.count_cons_eq, Nat.add_comm, Lib.splitK, hix]
      simp only [Int.toNat_zero, Nat.zero_add, List.length_cons, List.length_nil, List.drop_succ_cons, List.drop_zero, List.take_zero]
      rw [if_neg (by decide), ih, spl_ten]
    · have hp : ([10] : List UInt8).isPrefixOf (b :: l) = false := by simp [List.isPrefixOf, Ne.symm h]
      have hix : Lib.index (b :: l) [10] = if Lib.index l [10] == -1 then -1 else Lib.index l [10] + 1 := by rw [Lib.index, hp]; simp
      rw [Lib.count_cons_ne b 10 l h]
      by_cases hm : Lib.index l [10] = -1
      · rw [Lib.count_miss hm] at ih ⊢
        rw [spl_cons h ih.symm]
        rfl
      · have hge := Lib.index_ge l [10]
        obtain ⟨j, hj⟩ : ∃ j : Nat, Lib.index l [10] = j := ⟨(Lib.index l [10]).toNat, by omega⟩
        rw [Lib.count_hit (by simp) hj] at ih ⊢
        rw [Nat.add_comm 1, Lib.splitK, hj, if_neg (by simp)] at ih
        rw [Nat.add_comm 1, Lib.splitK, hix, if_neg (fun e => hm (beq_iff_eq.1 e)), hj, if_neg (by simp; omega)]
        rw [spl_cons h ih.symm]
        have e : ((j : Int) + 1).toNat = j + 1 := by omega
        rw [e]
        rfl

theorem join_spl (s : List UInt8) : Lib.join (spl s) [10] = s := by
  induction s with
  | nil => exact Lib.join_one _ _
  | cons c r ih =>
    obtain ⟨x, t, e⟩ := spl_form r
    rw [e, Lib.join_cons] at ih
    by_cases h : c = 10
    · subst h
      rw [spl_ten, e, Lib.join_cons, Lib.joinTail, List.map_cons, List.flatten_cons, ← Lib.joinTail]
      simp [← ih]
    · rw [spl_cons h e, Lib.join_cons, List.cons_append, ih]

theorem spl_app_ten (x r : List UInt8) (h : 10 ∉ x) : spl (x ++ 10 :: r) = x :: spl r := by
  induction x with
  | nil => exact spl_ten r
  | cons c x ih =>
    simp only [List.mem_cons, not_or] at h
    rw [List.cons_append, spl_cons (fun e => h.1 e.symm) (ih h.2)]

theorem spl_plain (x : List UInt8) (h : 10 ∉ x) : spl x = [x] :=
  spl_none x fun j e => h (List.mem_of_getElem? e)

theorem spl_join : ∀ (xs : List (List UInt8)), xs ≠ [] → (∀ x ∈ xs, 10 ∉ x) → spl (Lib.join xs [10]) = xs
  | [], h, _ => absurd rfl h
  | [x], _, h => by rw [Lib.join_one]; exact spl_plain x (h x (by simp))
  | x :: y :: t, _, h => by
    have ih := spl_join (y :: t) (by simp) (fun z hz => h z (by simp [hz]))
    rw [Lib.join_cons, Lib.joinTail, List.map_cons, List.flatten_cons, ← Lib.joinTail, List.append_assoc]
    rw [Lib.join_cons] at ih
    show spl (x ++ 10 :: (y ++ _)) = _
    rw [spl_app_ten x _ (h x (by simp)), ih]

/-- Two texts one behind the other. -/
theorem spl_append (a b : List UInt8) : ∃ (u v : List (List UInt8)) (p q : List UInt8), spl a = u ++ [p] ∧ spl b = q :: v ∧ spl (a ++ b) = u ++ (p ++ q) :: v := by
  induction a with
  | nil =>
    obtain ⟨q, v, e⟩ := spl_form b
    exact ⟨[], v, [], q, rfl, e, by simpa using e⟩
  | cons c r ih =>
    obtain ⟨u, v, p, q, h1, h2, h3⟩ := ih
    by_cases h : c = 10
    · subst h
      exact ⟨[] :: u, v, p, q, by rw [spl_ten, h1]; rfl, h2, by rw [List.cons_append, spl_ten, h3]; rfl⟩
    · cases u with
      | nil => exact ⟨[], v, c :: p, q, spl_cons h h1, h2, by rw [List.cons_append, spl_cons h h3]; rfl⟩
      | cons x u => exact ⟨(c :: x) :: u, v, p, q, spl_cons h h1, h2, by rw [List.cons_append, spl_cons h h3]; rfl⟩

/-- The same of a Go text. -/
def mkB (l : List UInt8) : ByteArray := ⟨l.toArray⟩
theorem mkB_data (s : ByteArray) : mkB s.data.toList = s := by cases s; simp [mkB]
theorem data_mkB (l : List UInt8) : (mkB l).data.toList = l := by simp [mkB]
theorem mkB_inj {a b : List UInt8} (h : mkB a = mkB b) : a = b := by rw [← data_mkB a, h, data_mkB]
theorem data_inj {a b : ByteArray} (h : a.data.toList = b.data.toList) : a = b := by rw [← mkB_data a, h, mkB_data]
def bsp (s : ByteArray) : List ByteArray := (spl s.data.toList).map mkB
theorem bsp_ne (s : ByteArray) : bsp s ≠ [] := by simp [bsp, spl_ne]
theorem bsp_length (s : ByteArray) : (bsp s).length = s.data.toList.count 10 + 1 := by simp [bsp, spl_length]
theorem bsp_length_le (s : ByteArray) : (bsp s).length ≤ s.size + 1 := by
  have := List.count_le_length (a := (10 : UInt8)) (l := s.data.toList)
  have e : s.data.toList.length = s.size := Array.length_toList
  rw [bsp_length]; omega
theorem splitB_bsp (s : ByteArray) : Lib.splitB ⟨#[10]⟩ 0 (Lib.countB s ⟨#[10]⟩) s = bsp s := by
  have h := Lib.splitB_data ⟨#[10]⟩ 0 (Lib.countB s ⟨#[10]⟩) s
  rw [show (⟨#[10]⟩ : ByteArray).data.toList = [10] from rfl, show Lib.countB s ⟨#[10]⟩ = Lib.count s.data.toList [10] from rfl, splitK_spl] at h
  unfold bsp
  rw [← h, List.map_map]
  have e : (mkB ∘ fun x : ByteArray => x.data.toList) = id := by funext x; exact mkB_data x
  rw [e, List.map_id]
theorem data_bsp (s : ByteArray) : (bsp s).map (·.data.toList) = spl s.data.toList := by
  unfold bsp
  rw [List.map_map]
  have e : ((fun x : ByteArray => x.data.toList) ∘ mkB) = id := by funext x; exact data_mkB x
  rw [e, List.map_id]
theorem countB_bsp (s : ByteArray) : Lib.countB s ⟨#[10]⟩ + 1 = (bsp s).length := by
  rw [bsp_length]
  show Lib.count s.data.toList [10] + 1 = _
  rw [Lib.count_one]
end Go.Proofs.YtnppehgjeakkiaaDoor
