/- Sorted texts without their doubles: mathematics alone. The contracts of the document's Write, Name, Place and Commute. A name put into its place among rising names; which names an inverse needs, as the document gathers them. Mathematics alone. -/
import Derived.Test.YtgjcblginkdinaaGreatDoorU30
import Derived.Test.YtgjcblginkdinaaGreatDoorU36
import Derived.Test.YtgjcblginkdinaaGreatDoorU38
set_option linter.unusedVariables false
namespace Go.Proofs.YtgjcblginkdinaaGreatDoor

abbrev Bs := List UInt8
theorem bs_total (a b : Bs) : a ≤ b ∨ b ≤ a := List.le_total a b
theorem bs_trans {a b c : Bs} (h : a ≤ b) (k : b ≤ c) : a ≤ c := List.le_trans h k
theorem bs_antisymm {a b : Bs} (h : a ≤ b) (k : b ≤ a) : a = b := List.le_antisymm h k
theorem bs_lt {a b : Bs} : a < b ↔ a ≤ b ∧ a ≠ b := by
  constructor
  · intro h
    exact ⟨List.le_of_lt h, fun e => by subst e; exact List.lt_irrefl _ h⟩
  · rintro ⟨h, e⟩
    rcases Classical.em (a < b) with k | k
    · exact k
    · exact absurd (bs_antisymm h (List.not_lt.1 k)) e
theorem bs_lt_trans {a b c : Bs} (h : a < b) (k : b < c) : a < c := List.lt_trans h k

def Asc (l : List Bs) : Prop := l.Pairwise (· < ·)
theorem asc_unique : ∀ {l m : List Bs}, Asc l → Asc m → (∀ x, x ∈ l ↔ x ∈ m) → l = m
  | [], [], _, _, _ => rfl
  | [], y :: m, _, _, h => by have := (h y).2 (by simp); cases this
  | x :: l, [], _, _, h => by have := (h x).1 (by simp); cases this
  | x :: l, y :: m, hl, hm, h => by
    have hl' := List.pairwise_cons.1 hl
    have hm' := List.pairwise_cons.1 hm
    have e : x = y := by
      rcases List.mem_cons.1 ((h x).1 (by simp)) with e | hx
      · exact e
      · rcases List.mem_cons.1 ((h y).2 (by simp)) with e | hy
        · exact e.symm
        · exact absurd (bs_lt_trans (hl'.1 y hy) (hm'.1 x hx)) (List.lt_irrefl _)
    subst e
    rw [asc_unique hl'.2 hm'.2 fun z => ?_]
    constructor
    · intro hz
      rcases List.mem_cons.1 ((h z).1 (by simp [hz])) with e | k
      · exact absurd (e ▸ hl'.1 z hz) (List.lt_irrefl _)
      · exact k
    · intro hz
      rcases List.mem_cons.1 ((h z).2 (by simp [hz])) with e | k
      · exact absurd (e ▸ hm'.1 z hz) (List.lt_irrefl _)
      · exact k

theorem eq_nil_or_snoc {α : Type} (l : List α) : l = [] ∨ ∃ ys y, l = ys ++ [y] := by
  rcases List.eq_nil_or_concat l with h | ⟨ys, y, h⟩
  · exact .inl h
  · exact .inr ⟨ys, y, by rw [h, List.concat_eq_append]⟩
theorem keeps_snoc (zs : List Bs) (z : Bs) (j : Nat) (h : j < zs.length) : Lib.keeps (zs ++ [z]).toArray j = Lib.keeps zs.toArray j := by
  unfold Lib.keeps
  rw [getElem!_pos (zs ++ [z]).toArray j (by simp; omega), getElem!_pos zs.toArray j (by simpa using h)]
  rw [getElem!_pos (zs ++ [z]).toArray (j - 1) (by simp; omega), getElem!_pos zs.toArray (j - 1) (by simp; omega)]
  simp only [List.getElem_toArray, List.getElem_append_left h, List.getElem_append_left (show j - 1 < zs.length by omega)]
theorem upTo_snoc (zs : List Bs) (z : Bs) : ∀ m, m ≤ zs.length → Lib.compactUpTo (zs ++ [z]).toArray m = Lib.compactUpTo zs.toArray m
  | 0, _ => rfl
  | m + 1, h => by
    rw [Lib.compactUpTo_succ, Lib.compactUpTo_succ, upTo_snoc zs z m (by omega), keeps_snoc zs z m (by omega)]
    rw [getElem!_pos (zs ++ [z]).toArray m (by simp; omega), getElem!_pos zs.toArray m (by simp; omega)]
    simp only [List.getElem_toArray, List.getElem_append_left (show m < zs.length by omega)]
theorem compact_snoc (zs : List Bs) (z : Bs) : Lib.compact (zs ++ [z]) = Lib.compact zs ++ (if zs.getLast? = some z then [] else [z]) := by
  unfold Lib.compact
  rw [List.length_append, List.length_singleton, Lib.compactUpTo_succ, upTo_snoc zs z _ (Nat.le_refl _)]
  congr 1
  have e : (zs ++ [z]).toArray[zs.length]! = z := by rw [getElem!_pos _ _ (by simp)]; simp
  rw [e]
  rcases eq_nil_or_snoc zs with rfl | ⟨ys, y, rfl⟩
  · simp [Lib.keeps]
  · have e2 : (ys ++ [y] ++ [z]).toArray[(ys ++ [y]).length - 1]! = y := by rw [getElem!_pos _ _ (by simp)]; simp
    have e1 : (ys ++ [y] ++ [z]).toArray[(ys ++ [y]).length]! = z := e
    unfold Lib.keeps
    rw [e1, e2, List.getLast?_concat]
    by_cases k : z = y
    · subst k; simp
    · have k' : ¬ y = z := fun e => k e.symm
      simp [k, k']
theorem compact_sorted (zs : List Bs) (h : zs.Pairwise (· ≤ ·)) : Asc (Lib.compact zs) ∧ ∀ x, x ∈ Lib.compact zs ↔ x ∈ zs := by
  induction hn : zs.length generalizing zs with
  | zero =>
    obtain rfl : zs = [] := List.length_eq_zero_iff.1 hn
    exact ⟨List.Pairwise.nil, fun x => Iff.rfl⟩
  | succ n ih =>
    rcases eq_nil_or_snoc zs with rfl | ⟨ys, y, rfl⟩
    · cases hn
    · have hp := List.pairwise_append.1 h
      have hl : ys.length = n := by simpa using hn
      obtain ⟨ha, hm⟩ := ih ys hp.1 hl
      rw [compact_snoc]
      split
      · rename_i e
        rw [List.append_nil]
        refine ⟨ha, fun x => ?_⟩
        rw [hm, List.mem_append, List.mem_singleton]
        refine ⟨.inl, ?_⟩
        rintro (k | rfl)
        · exact k
        · exact List.mem_of_getLast? e
      · rename_i e
        refine ⟨List.pairwise_append.2 ⟨ha, List.pairwise_singleton _ _, fun a hx b hb => ?_⟩, fun x => ?_⟩
        · rw [List.mem_singleton] at hb
          subst hb
          refine bs_lt.2 ⟨hp.2.2 a ((hm a).1 hx) b (by simp), fun k => ?_⟩
          subst k
          have hx' := (hm a).1 hx
          rcases eq_nil_or_snoc ys with rfl | ⟨ws, v, rfl⟩
          · cases hx'
          · have hv : a ≤ v := by
              rcases List.mem_append.1 hx' with k | k
              · exact (List.pairwise_append.1 hp.1).2.2 a k v (by simp)
              · rw [List.mem_singleton] at k; subst k; exact List.le_refl _
            have hv2 := hp.2.2 v (by simp) a (by simp)
            exact e (by rw [List.getLast?_concat, bs_antisymm hv2 hv])
        · rw [List.mem_append, List.mem_append, hm]

theorem sort_pairwise (l : List Bs) : (l.mergeSort fun x y => decide (x ≤ y)).Pairwise (· ≤ ·) := by
  have h := List.pairwise_mergeSort (le := fun x y : Bs => decide (x ≤ y)) (fun a b c h k => by simp only [decide_eq_true_eq] at *; exact bs_trans h k) (fun a b => by
    rcases bs_total a b with h | h <;> simp [h]) l
  exact h.imp (fun h => by simpa using h)
theorem tx_list (l : List UInt8) : (tx l).data.toList = l := tx_toList l
theorem needs_spec (p : Pt) (nm : ByteArray) : Asc ((needsL p nm).map fun s => s.data.toList) ∧ ∀ x, x ∈ needsL p nm ↔ x ∈ needRaw p nm := by
  obtain ⟨h1, h2⟩ := compact_sorted _ (sort_pairwise ((needRaw p nm).map fun s => s.data.toList))
  refine ⟨?_, fun x => ?_⟩
  · unfold needsL
    rw [List.map_map]
    have : ((fun s : ByteArray => s.data.toList) ∘ tx) = id := by funext l; exact tx_list l
    rw [this, List.map_id]
    exact h1
  · unfold needsL
    rw [List.mem_map]
    constructor
    · rintro ⟨l, hl, rfl⟩
      have := (h2 l).1 hl
      rw [List.mem_mergeSort, List.mem_map] at this
      obtain ⟨s, hs, rfl⟩ := this
      rw [tx_data]; exact hs
    · intro hx
      refine ⟨x.data.toList, (h2 _).2 ?_, tx_data x⟩
      rw [List.mem_mergeSort]
      exact List.mem_map.2 ⟨x, hx, rfl⟩
theorem needs_len (p : Pt) (nm : ByteArray) : (needsL p nm).length ≤ 1 + 2 * p.ops.length := by
  unfold needsL
  rw [List.length_map]
  refine Nat.le_trans (Lib.compact_length_le _) ?_
  rw [List.length_mergeSort, List.length_map, needRaw, List.length_cons]
  have := needOps_len p.deps p.ops
  omega
theorem need_mem (p : Pt) (nm x : ByteArray) (h : x ∈ needRaw p nm) : x = nm ∨ x = ByteArray.empty ∨ x ∈ p.deps := by
  unfold needRaw at h
  rcases List.mem_cons.1 h with h | h
  · exact .inl h
  · right
    obtain ⟨z, _, h⟩ := List.mem_flatMap.1 h
    unfold needRs at h
    obtain ⟨r, _, h⟩ := List.mem_flatMap.1 h
    unfold takeD at h
    split at h
    · rw [List.mem_singleton] at h
      subst h
      rw [List.getD_eq_getElem?_getD]
      cases e : p.deps[r.at_.toNat]? with
      | none => left; rfl
      | some y => right; exact List.mem_of_getElem? e
    · cases h
theorem idx_bounds : ∀ (l : Lb) (x : ByteArray), -1 ≤ Lib.idxOfS l x ∧ Lib.idxOfS l x < l.length := by
  have gen : ∀ (l : Lb) (x : ByteArray) (i : Nat), -1 ≤ Lib.idxFromS l x i ∧ Lib.idxFromS l x i < (i : Int) + l.length := by
    intro l x
    induction l with
    | nil => intro i; simp [Lib.idxFromS]; omega
    | cons z r ih =>
      intro i
      unfold Lib.idxFromS
      split
      · rw [List.length_cons]; omega
      · have := ih (i + 1)
        rw [List.length_cons]
        omega
  intro l x
  have := gen l x 0
  unfold Lib.idxOfS
  omega
end Go.Proofs.YtgjcblginkdinaaGreatDoor
set_option linter.unusedVariables false
namespace Go.Proofs.YtgjcblginkdinaaGreatDoor
open Go.ChangeShapes Go.WideShapes Go.ChangeAt Go.RowKit

end Go.Proofs.YtgjcblginkdinaaGreatDoor
set_option linter.unusedVariables false
namespace Go.Proofs.YtgjcblginkdinaaGreatDoor

end Go.Proofs.YtgjcblginkdinaaGreatDoor
