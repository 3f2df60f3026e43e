/- Texts as bytes, and slices that read as texts. No function of the program is named here. Sorted texts without their doubles, and rows of texts in memory. No function of the program is named here. -/
import Derived.Sort.OwnSorted
import Derived.Lib.RowBridge
import Derived.Test.YteaencgbgfnokaaDoorM0
import Derived.Test.YteaencgbgfnokaaDoorM1
set_option linter.unusedVariables false
namespace Go.Proofs.YteaencgbgfnokaaDoor

abbrev tx (l : List UInt8) : ByteArray := ⟨l.toArray⟩
theorem tx_toList (l : List UInt8) : (tx l).data.toList = l := rfl
theorem tx_data (t : ByteArray) : tx t.data.toList = t := by cases t; simp
abbrev Lb := List ByteArray
theorem map_inj_on {α β : Type} (f : α → β) (Q : α → Prop) (h : ∀ x y, Q x → Q y → f x = f y → x = y) : ∀ l m : List α, (∀ x ∈ l, Q x) → (∀ x ∈ m, Q x) → l.map f = m.map f → l = m
  | [], [], _, _, _ => rfl
  | [], _ :: _, _, _, e => by simp at e
  | _ :: _, [], _, _, e => by simp at e
  | x :: r, y :: s, hl, hm, e => by
    simp only [List.map_cons, List.cons.injEq] at e
    rw [h x y (hl x (by simp)) (hm y (by simp)) e.1, map_inj_on f Q h r s (fun z hz => hl z (by simp [hz])) (fun z hz => hm z (by simp [hz])) e.2]
theorem Reads.form {w : World} {v : Value} {xs : Lb} (h : Reads w v xs) : ∃ a c, v = .slice a xs.length c ∧ xs.length ≤ 9223372036854775807 := by
  rcases h with ⟨rfl, a, c, rfl⟩ | ⟨hn, b, o, c, rfl, hc, hm, hx⟩
  · exact ⟨_, _, rfl, Nat.zero_le _⟩
  · exact ⟨_, _, rfl, by omega⟩
theorem Reads.at {w : World} {a : Option Addr} {n c : Nat} {xs : Lb} (h : Reads w (.slice a n c) xs) {j : Nat} {x : ByteArray} (hx : xs[j]? = some x) : ∃ b o, a = some ⟨b, o, none⟩ ∧ n = xs.length ∧ Cells w b o xs := by
  rcases h with ⟨rfl, a', c', e⟩ | ⟨hn, b, o, c', e, hc, hm, hx'⟩
  · simp at hx
  · simp only [Value.slice.injEq] at e
    obtain ⟨rfl, rfl, rfl⟩ := e
    exact ⟨b, o, rfl, rfl, hx'⟩
end Go.Proofs.YteaencgbgfnokaaDoor
set_option linter.unusedVariables false
namespace Go.Proofs.YteaencgbgfnokaaDoor
open Go.ChangeShapes Go.WideShapes Go.ChangeAt Go.RowKit

abbrev Bs := List UInt8
theorem bs_total (a b : Bs) : a ≤ b ∨ b ≤ a := List.le_total a b
theorem bs_trans {a b c : Bs} (h : a ≤ b) (k : b ≤ c) : a ≤ c := List.le_trans h k
theorem bs_antisymm {a b : Bs} (h : a ≤ b) (k : b ≤ a) : a = b := List.le_antisymm h k
theorem bs_lt {a b : Bs} : a < b ↔ a ≤ b ∧ a ≠ b := by
  constructor
  · intro h
    exact ⟨List.le_of_lt h, fun e => by subst e; exact List.lt_irrefl _ h⟩
  · rintro ⟨h, e⟩
    rcases Classical.em (a < b) with k | k
    · exact k
    · exact absurd (bs_antisymm h (List.not_lt.1 k)) e
theorem bs_not_le {a b : Bs} : ¬ a ≤ b ↔ b < a := List.not_le
theorem bs_lt_trans {a b c : Bs} (h : a < b) (k : b < c) : a < c := List.lt_trans h k

def Asc (l : List Bs) : Prop := l.Pairwise (· < ·)
theorem asc_unique : ∀ {l m : List Bs}, Asc l → Asc m → (∀ x, x ∈ l ↔ x ∈ m) → l = m
  | [], [], _, _, _ => rfl
  | [], y :: m, _, _, h => by have := (h y).2 (by simp); cases this
  | x :: l, [], _, _, h => by have := (h x).1 (by simp); cases this
  | x :: l, y :: m, hl, hm, h => by
    have hl' := List.pairwise_cons.1 hl
    have hm' := List.pairwise_cons.1 hm
    have e : x = y := by
      rcases List.mem_cons.1 ((h x).1 (by simp)) with e | hx
      · exact e
      · rcases List.mem_cons.1 ((h y).2 (by simp)) with e | hy
        · exact e.symm
        · exact absurd (bs_lt_trans (hl'.1 y hy) (hm'.1 x hx)) (List.lt_irrefl _)
    subst e
    rw [asc_unique hl'.2 hm'.2 fun z => ?_]
    constructor
    · intro hz
      rcases List.mem_cons.1 ((h z).1 (by simp [hz])) with e | k
      · exact absurd (e ▸ hl'.1 z hz) (List.lt_irrefl _)
      · exact k
    · intro hz
      rcases List.mem_cons.1 ((h z).2 (by simp [hz])) with e | k
      · exact absurd (e ▸ hm'.1 z hz) (List.lt_irrefl _)
      · exact k

theorem eq_nil_or_snoc {α : Type} (l : List α) : l = [] ∨ ∃ ys y, l = ys ++ [y] := by
  rcases List.eq_nil_or_concat l with h | ⟨ys, y, h⟩
  · exact .inl h
  · exact .inr ⟨ys, y, by rw [h, List.concat_eq_append]⟩
theorem keeps_snoc (zs : List Bs) (z : Bs) (j : Nat) (h : j < zs.length) : Lib.keeps (zs ++ [z]).toArray j = Lib.keeps zs.toArray j := by
  unfold Lib.keeps
  rw [getElem!_pos (zs ++ [z]).toArray j (by simp; omega), getElem!_pos zs.toArray j (by simpa using h)]
  rw [getElem!_pos (zs ++ [z]).toArray (j - 1) (by simp; omega), getElem!_pos zs.toArray (j - 1) (by simp; omega)]
  simp only [List.getElem_toArray, List.getElem_append_left h, List.getElem_append_left (show j - 1 < zs.length by omega)]
theorem upTo_snoc (zs : List Bs) (z : Bs) : ∀ m, m ≤ zs.length → Lib.compactUpTo (zs ++ [z]).toArray m = Lib.compactUpTo zs.toArray m
  | 0, _ => rfl
  | m + 1, h => by
    rw [Lib.compactUpTo_succ, Lib.compactUpTo_succ, upTo_snoc zs z m (by omega), keeps_snoc zs z m (by omega)]
    rw [getElem!_pos (zs ++ [z]).toArray m (by simp; omega), getElem!_pos zs.toArray m (by simp; omega)]
    simp only [List.getElem_toArray, List.getElem_append_left (show m < zs.length by omega)]
theorem compact_snoc (zs : List Bs) (z : Bs) : Lib.compact (zs ++ [z]) = Lib.compact zs ++ (if zs.getLast? = some z then [] else [z]) := by
  unfold Lib.compact
  rw [List.length_append, List.length_singleton, Lib.compactUpTo_succ, upTo_snoc zs z _ (Nat.le_refl _)]
  congr 1
  have e : (zs ++ [z]).toArray[zs.length]! = z := by rw [getElem!_pos _ _ (by simp)]; simp
  rw [e]
  rcases eq_nil_or_snoc zs with rfl | ⟨ys, y, rfl⟩
  · simp [Lib.keeps]
  · have e2 : (ys ++ [y] ++ [z]).toArray[(ys ++ [y]).length - 1]! = y := by rw [getElem!_pos _ _ (by simp)]; simp
    have e1 : (ys ++ [y] ++ [z]).toArray[(ys ++ [y]).length]! = z := e
    unfold Lib.keeps
    rw [e1, e2, List.getLast?_concat]
    by_cases k : z = y
    · subst k; simp
    · have k' : ¬ y = z := fun e => k e.symm
      simp [k, k']
theorem compact_sorted (zs : List Bs) (h : zs.Pairwise (· ≤ ·)) : Asc (Lib.compact zs) ∧ ∀ x, x ∈ Lib.compact zs ↔ x ∈ zs := by
  induction hn : zs.length generalizing zs with
  | zero =>
    obtain rfl : zs = [] := List.length_eq_zero_iff.1 hn
    exact ⟨List.Pairwise.nil, fun x => Iff.rfl⟩
  | succ n ih =>
    rcases eq_nil_or_snoc zs with rfl | ⟨ys, y, rfl⟩
    · cases hn
    · have hp := List.pairwise_append.1 h
      have hl : ys.length = n := by simpa using hn
      obtain ⟨ha, hm⟩ := ih ys hp.1 hl
      rw [compact_snoc]
      split
      · rename_i e
        rw [List.append_nil]
        refine ⟨ha, fun x => ?_⟩
        rw [hm, List.mem_append, List.mem_singleton]
        refine ⟨.inl, ?_⟩
        rintro (k | rfl)
        · exact k
        · exact List.mem_of_getLast? e
      · rename_i e
        refine ⟨List.pairwise_append.2 ⟨ha, List.pairwise_singleton _ _, fun a hx b hb => ?_⟩, fun x => ?_⟩
        · rw [List.mem_singleton] at hb
          subst hb
          refine bs_lt.2 ⟨hp.2.2 a ((hm a).1 hx) b (by simp), fun k => ?_⟩
          subst k
          have hx' := (hm a).1 hx
          rcases eq_nil_or_snoc ys with rfl | ⟨ws, v, rfl⟩
          · cases hx'
          · have hv : a ≤ v := by
              rcases List.mem_append.1 hx' with k | k
              · exact (List.pairwise_append.1 hp.1).2.2 a k v (by simp)
              · rw [List.mem_singleton] at k; subst k; exact List.le_refl _
            have hv2 := hp.2.2 v (by simp) a (by simp)
            exact e (by rw [List.getLast?_concat, bs_antisymm hv2 hv])
        · rw [List.mem_append, List.mem_append, hm]

theorem sort_pairwise (l : List Bs) : (l.mergeSort fun x y => decide (x ≤ y)).Pairwise (· ≤ ·) := by
  have h := List.pairwise_mergeSort (le := fun x y : Bs => decide (x ≤ y)) (fun a b c h k => by simp only [decide_eq_true_eq] at *; exact bs_trans h k) (fun a b => by
    rcases bs_total a b with h | h <;> simp [h]) l
  exact h.imp (fun h => by simpa using h)
theorem tx_list (l : List UInt8) : (tx l).data.toList = l := tx_toList l

theorem Holds_of_row {B : Nat} {w : World} {b cap : Nat} {xs : Lb} (h : ∀ j, j < cap * 1 → (w.cell? ⟨b, j, none⟩).isSome = true ∧ w.frozen? ⟨b, j, none⟩ = false) (hc : xs.length ≤ cap) (hx : ∀ j u, (xs.map Value.string)[j]? = some u → w.cell? ⟨b, j, none⟩ = some u) :
    Go.Sort.Holds encStr w b 0 ((xs.map fun s => s.data.toList).toArray) := by
  intro j hj
  rw [List.size_toArray, List.length_map] at hj
  rw [Nat.zero_add]
  refine ⟨?_, (h j (by omega)).2⟩
  rw [hx j (.string xs[j]) (by rw [List.getElem?_map, List.getElem?_eq_getElem hj]; rfl)]
  rw [getElem!_pos _ j (by simpa using hj)]
  simp only [List.getElem_toArray, List.getElem_map]

theorem off_sorted {w : World} {g n : Nat} {os : Array Obj} (d : Array (List UInt8)) : Off (fun i => i = g) w (Go.Sort.grow (Go.Sort.putRow encStr (Go.Sort.ahead w n) g 0 d) os) := by
  have h := Go.grownBy_sorted (w := w) (g := g) (n := n) (os := os) d
  exact ⟨h.os, h.tape, h.output, h.size, fun i hi hn => h.block i hi (fun e => hn (by injection e with e))⟩

theorem holds_sorted {w : World} {b n : Nat} {os : Array Obj} {ss ts : List (List UInt8)} (h : Go.Sort.Holds encStr w b 0 ss.toArray) (hb : b < w.heap.size) (hl : ts.length = ss.length) :
    Go.Sort.Holds encStr (Go.Sort.grow (Go.Sort.putRow encStr (Go.Sort.ahead w n) b 0 ts.toArray) os) b 0 ts.toArray :=
  Go.Sort.holds_grow _ _ _ _ _ _ (by simpa using hb) (Go.Sort.holds_putRow _ _ _ _ _ _ (Go.Sort.holds_ahead _ _ n _ _ _ h) (by simp [hl]))
theorem reads_compact {w : World} {b q cap : Nat} {zs : List (List UInt8)} (h : Go.Sort.Holds encStr w b 0 zs.toArray) (hb : b < w.heap.size) (hc : zs.length ≤ cap) (hm : cap ≤ 9223372036854775807) :
    Reads (Go.Sort.putRow encStr (Go.Sort.ahead w q) b 0 (Lib.compact zs ++ List.replicate (zs.length - (Lib.compact zs).length) []).toArray) (.slice (some ⟨b, 0, none⟩) (Lib.compact zs).length cap) ((Lib.compact zs).map tx) := by
  have hle := Lib.compact_length_le zs
  by_cases e : Lib.compact zs = []
  · rw [e]; exact .inl ⟨rfl, _, _, rfl⟩
  · refine .inr ⟨by simpa using e, b, 0, cap, by rw [List.length_map], by rw [List.length_map]; omega, hm, by simpa using hb, fun j x hx => ?_⟩
    rw [List.getElem?_map] at hx
    obtain ⟨y, hy, rfl⟩ := Option.map_eq_some_iff.1 hx
    have hj := (List.getElem?_eq_some_iff.1 hy).1
    rw [Go.Sort.cell?_putRow encStr (Go.Sort.ahead w q) b 0 zs.toArray _ (Go.Sort.holds_ahead _ _ q _ _ _ h) (by simp; omega) j (by simp; omega)]
    rw [getElem!_pos _ j (by simp; omega)]
    simp only [List.getElem_toArray]
    rw [List.getElem_append_left hj, (List.getElem?_eq_some_iff.1 hy).2]
theorem infoS' : (Tryd.prog.info? 9).map (fun i => (i.zero, i.size, i.bytes)) = some (some (.string ByteArray.empty), 1, 16) := by kernel_rfl
theorem Tryd.infoS : (Tryd.prog.info? 9).map (fun i => (i.zero, i.size, i.bytes)) = some (some (.string ByteArray.empty), 1, 16) := by kernel_rfl

theorem row_reads {B n : Nat} {w : World} {v : Value} {xs : Lb} (h : Row 1 B w v n (xs.map .string)) : Reads w v xs := by
  obtain ⟨h0, h⟩ := h
  have hn : n = xs.length := by simpa using h0.symm
  subst hn
  rcases h with ⟨rfl, h2⟩ | ⟨b, cap, rfl, h2, h3, h4, h5, h6, h7⟩
  · exact .inl ⟨List.length_eq_zero_iff.1 h2, _, _, rfl⟩
  · by_cases e : xs = []
    · subst e; exact .inl ⟨rfl, _, _, rfl⟩
    · refine .inr ⟨e, b, 0, cap, rfl, h4, by unfold maxLen at h5; omega, h3, fun j x hx => ?_⟩
      rw [Nat.zero_add]
      exact h7 j _ (by rw [List.getElem?_map, hx]; rfl)
end Go.Proofs.YteaencgbgfnokaaDoor
