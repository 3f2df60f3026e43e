/- slices.SortFunc of pairs: by the first, then by the second. slices.Compact of pairs. -/
import Derived.Test.YtfpepoebammeoaaGreatU28
set_option linter.unusedVariables false
set_option linter.unusedSimpArgs false
namespace Go.Proofs.YtfpepoebammeoaaGreat
open Go.ChangeShapes Go.WideShapes Go.ChangeAt Go.RowKit Go.Shelf Go.Sort Go.Lib

def PA (w : World) (b : Nat) (L : Ed) : Prop := ∀ j e, L[j]? = some e → (w.cell? ⟨b, j * 2, none⟩ = some (.int .i64 e.1) ∧ w.frozen? ⟨b, j * 2, none⟩ = false) ∧ w.cell? ⟨b, j * 2 + 1, none⟩ = some (.int .i64 e.2) ∧ w.frozen? ⟨b, j * 2 + 1, none⟩ = false
theorem PA.ofRow {B n b cap : Nat} {w : World} {L : Ed} (h : Row 2 B w (.slice (some ⟨b, 0, none⟩) n cap) n (evs L)) : PA w b L := fun j e he => by
  obtain ⟨c0, f0, _⟩ := h.cellK (evs_at he).1
  obtain ⟨c1, f1, _⟩ := h.cellK (evs_at he).2
  exact ⟨⟨c0, f0⟩, c1, f1⟩
theorem PA.holds {w : World} {b : Nat} {L : Ed} (h : PA w b L) : HoldsK encP 2 w b 0 L.toArray := by
  intro t ht
  rw [size_flatK] at ht
  rw [get_flatK _ _ _ t ht, Nat.zero_add]
  have hj : t / 2 < L.length := by simp at ht; omega
  have he : L[t / 2]? = some L[t / 2] := List.getElem?_eq_getElem hj
  have hg : L.toArray[t / 2]! = L[t / 2] := by rw [getElem!_pos _ _ (by simpa using hj)]; simp
  rw [hg]
  obtain ⟨⟨c0, f0⟩, c1, f1⟩ := h (t / 2) _ he
  have hm : t % 2 = 0 ∨ t % 2 = 1 := by omega
  rcases hm with hm | hm
  · have e : t / 2 * 2 = t := by omega
    rw [e] at c0 f0
    rw [hm]
    exact ⟨c0, f0⟩
  · have e : t / 2 * 2 + 1 = t := by omega
    rw [e] at c1 f1
    rw [hm]
    exact ⟨c1, f1⟩
theorem PA.ofHolds {w : World} {b : Nat} {L : Ed} (h : HoldsK encP 2 w b 0 L.toArray) : PA w b L := fun j e he => by
  have hj := (List.getElem?_eq_some_iff.1 he).1
  have hg : L.toArray[j]! = e := by
    rw [getElem!_pos _ _ (by simpa using hj)]
    simpa using (List.getElem?_eq_some_iff.1 he).2
  have h0 := h (j * 2) (by rw [size_flatK]; simp; omega)
  have h1 := h (j * 2 + 1) (by rw [size_flatK]; simp; omega)
  rw [get_flatK _ _ _ _ (by simp; omega), Nat.zero_add, show j * 2 / 2 = j by omega, show j * 2 % 2 = 0 by omega, hg] at h0
  rw [get_flatK _ _ _ _ (by simp; omega), Nat.zero_add, show (j * 2 + 1) / 2 = j by omega, show (j * 2 + 1) % 2 = 1 by omega, hg] at h1
  exact ⟨h0, h1⟩
def ltP (x y : Int × Int) : Prop := x.1 < y.1 ∨ x.1 = y.1 ∧ x.2 < y.2
theorem cmpP_lt (x y : Int × Int) : ltOf cmpP x y = true ↔ ltP x y := by
  unfold ltOf cmpP cmpI ltP
  rw [decide_eq_true_iff]
  by_cases h1 : x.1 < y.1
  · simp [h1]
  · by_cases h2 : y.1 < x.1
    · simp [h1, h2]
      omega
    · have h3 : x.1 = y.1 := by omega
      by_cases h4 : x.2 < y.2
      · simp [h3, h4]
      · by_cases h5 : y.2 < x.2
        · simp [h3, h4, h5]
        · simp [h3, h4, h5]
theorem cmpP_not (x y : Int × Int) : ltOf cmpP x y = false ↔ ¬ ltP x y := by rw [← cmpP_lt, Bool.not_eq_true]
theorem swoP : SWO (ltOf cmpP) where
  irrefl x := by rw [cmpP_not]; unfold ltP; omega
  trans x y z h1 h2 := by rw [cmpP_lt] at *; unfold ltP at *; omega
  ntrans x y z h1 h2 := by rw [cmpP_not] at *; unfold ltP at *; omega
theorem totP (x y : Int × Int) (h1 : ltOf cmpP x y = false) (h2 : ltOf cmpP y x = false) : x = y := by
  rw [cmpP_not] at *
  unfold ltP at *
  ext <;> omega
theorem sortP_pairwise (L : Ed) : (L.mergeSort fun x y => !(ltOf cmpP) y x).Pairwise fun x y => ¬ ltP y x := by
  have h := List.pairwise_mergeSort (le := fun x y : Int × Int => !(ltOf cmpP) y x) (fun a b c h1 h2 => by
    rw [Bool.not_eq_true'] at *
    exact swoP.ntrans c b a h2 h1) (fun a b => by
    rw [Bool.or_eq_true, Bool.not_eq_true', Bool.not_eq_true', cmpP_not, cmpP_not]
    unfold ltP
    omega) L
  exact h.imp fun h => by rwa [Bool.not_eq_true', cmpP_not] at h
theorem offP_sorted {w : World} {g n : Nat} {os : Array Obj} (d : Array (Int × Int)) : Off (fun i => i = g) w (sortWorldK encP 2 w g 0 n d os) := by
  unfold sortWorldK putRowK
  refine ⟨rfl, rfl, rfl, by simp, fun k hk hne => ?_⟩
  rw [Go.Sort.heap_grow_old _ _ (by simpa using hk)]
  have : g ≠ k := fun e => hne e.symm
  simp [Go.Sort.putRow, Go.Sort.mapBlock, Go.Sort.ahead, Array.getElem?_modify, this]
theorem sortP_any {S n b cap : Nat} (L : Ed) (w : World) (h : Row 2 S w (.slice (some ⟨b, 0, none⟩) n cap) n (evs L)) (hl : L.length = n) (hn : n ≤ 1000000) :
    Calls Tryz.prog 24 #[.slice (some ⟨b, 0, none⟩) n cap, .func (.func 25) #[] #[]] w fun e w' => e = .returned (.tuple #[]) ∧ ∃ M : Ed, M.Perm L ∧ M.Pairwise (fun x y => ¬ ltP y x) ∧ PA w' b M ∧ Off (fun i => i = b) w w' := by
  obtain ⟨h1, h2⟩ := h.lt b rfl
  have hP := PA.ofRow h
  have eg : ∀ args w, (callFunc 25 args).run Tryz.prog w = .ok (.enter 25 args) w := enters_of Tryz.func25 (by kernel_rfl) rfl
  have hc := Tryz.slices_SortFunc_total 2 (fun w => Tryz.isAgg36 w) (fun w => Tryz.sizeOf36 w) encP (fun _ => rfl) (fun x v hv => by simp [encP] at hv; rcases hv with rfl | rfl <;> rfl) cmpP swoP 25 #[] b 0 cap L.toArray w eg
    (fun _ _ _ _ x y => closure_any x y _) hP.holds h2 (by simp; omega) totP
  have hs : L.toArray.size = n := by simpa using hl
  rw [hs] at hc
  refine hc.mono ?_
  rintro e w' ⟨rfl, nn, os, rfl⟩
  have hp : (L.mergeSort fun x y => !(ltOf cmpP) y x).Perm L := List.mergeSort_perm _ _
  refine ⟨rfl, L.mergeSort fun x y => !(ltOf cmpP) y x, hp, sortP_pairwise L, PA.ofHolds ?_, offP_sorted _⟩
  have := holdsK_sortWorldK_c (enc := encP) (k := 2) (w := w) (blk := b) (off := 0) L.toArray (L.mergeSort fun x y => !(ltOf cmpP) y x).toArray nn os hP.holds h2 (by simp [hp.length_eq])
  exact this
theorem sortP_none (p : Option Addr) (cap : Nat) (w : World) : Calls Tryz.prog 24 #[.slice p 0 cap, .func (.func 25) #[] #[]] w fun e w' => e = .returned (.tuple #[]) ∧ w' = w :=
  Tryz.slices_SortFunc_none (α := Int × Int) p cap _ w
end Go.Proofs.YtfpepoebammeoaaGreat
set_option linter.unusedVariables false
set_option linter.unusedSimpArgs false
namespace Go.Proofs.YtfpepoebammeoaaGreat
open Go.ChangeShapes Go.WideShapes Go.ChangeAt Go.RowKit

def cpT (L : Ed) : Nat → Ed
  | 0 => []
  | j + 1 => cpT L j ++ match L[j]? with
    | some x => if 0 < j ∧ L[j - 1]? = some x then [] else [x]
    | none => []
theorem cpT_same {L : Ed} {j : Nat} {x : Int × Int} (h : L[j]? = some x) (hj : 0 < j) (hp : L[j - 1]? = some x) : cpT L (j + 1) = cpT L j := by
  show cpT L j ++ _ = _
  rw [h]
  simp [hj, hp]
theorem cpT_new {L : Ed} {j : Nat} {x y : Int × Int} (h : L[j]? = some x) (hp : L[j - 1]? = some y) (hne : y ≠ x) : cpT L (j + 1) = cpT L j ++ [x] := by
  show cpT L j ++ _ = _
  rw [h]
  simp [hp, hne]
theorem cpT_one {L : Ed} {x : Int × Int} (h : L[0]? = some x) : cpT L 1 = [x] := by
  show cpT L 0 ++ _ = _
  rw [h]
  simp [cpT]
theorem cpT_says {L : Ed} (hs : L.Pairwise fun x y => ¬ ltP y x) : ∀ j, j ≤ L.length → (cpT L j).Pairwise ltP ∧ (∀ x, x ∈ cpT L j ↔ x ∈ L.take j) ∧ ∀ y, L[j - 1]? = some y → ∀ x ∈ cpT L j, 0 < j → x = y ∨ ltP x y := by
  intro j
  induction j with
  | zero => intro _; exact ⟨.nil, fun x => by simp [cpT], fun y _ x _ h => absurd h (Nat.lt_irrefl _)⟩
  | succ j ih =>
    intro hj
    obtain ⟨h1, h2, h3⟩ := ih (by omega)
    obtain ⟨x, hx⟩ : ∃ x, L[j]? = some x := ⟨L[j]'(by omega), List.getElem?_eq_getElem _⟩
    have hm : ∀ z, z ∈ L.take (j + 1) ↔ z ∈ L.take j ∨ z = x := fun z => by rw [List.take_add_one, hx]; simp
    by_cases hp : 0 < j ∧ L[j - 1]? = some x
    · rw [cpT_same hx hp.1 hp.2]
      refine ⟨h1, fun z => ?_, fun y hy z hz _ => ?_⟩
      · rw [h2, hm]
        constructor
        · exact .inl
        · rintro (h | rfl)
          · exact h
          · exact List.mem_take_iff_getElem.2 ⟨j - 1, by omega, (List.getElem?_eq_some_iff.1 hp.2).2⟩
      · rw [Nat.add_sub_cancel] at hy
        have : x = y := Option.some.inj (hx.symm.trans hy)
        subst this
        exact h3 x hp.2 z hz hp.1
    · have hnew : cpT L (j + 1) = cpT L j ++ [x] := by
        show cpT L j ++ _ = _
        rw [hx]
        simp only [if_neg hp]
      have hlt : ∀ z ∈ cpT L j, ltP z x := fun z hz => by
        have hj0 : 0 < j := by
          have := (h2 z).1 hz
          rcases Nat.eq_zero_or_pos j with e | e
          · rw [e] at this; simp at this
          · exact e
        obtain ⟨y, hy⟩ : ∃ y, L[j - 1]? = some y := ⟨L[j - 1]'(by omega), List.getElem?_eq_getElem _⟩
        have hyx : y ≠ x := fun e => hp ⟨hj0, by rw [← e]; exact hy⟩
        have hle : ¬ ltP x y := by
          have a1 := List.getElem?_eq_some_iff.1 hy
          have a2 := List.getElem?_eq_some_iff.1 hx
          have := List.pairwise_iff_getElem.1 hs (j - 1) j a1.1 a2.1 (by omega)
          rwa [a1.2, a2.2] at this
        have hyl : ltP y x := by
          unfold ltP at *
          by_cases e1 : y.1 = x.1
          · by_cases e2 : y.2 = x.2
            · exact absurd (Prod.ext e1 e2) hyx
            · omega
          · omega
        rcases h3 y hy z hz hj0 with rfl | h
        · exact hyl
        · unfold ltP at *; omega
      rw [hnew]
      refine ⟨List.pairwise_append.2 ⟨h1, List.pairwise_singleton _ _, fun a ha b hb => ?_⟩, fun z => ?_, fun y hy z hz _ => ?_⟩
      · rw [List.mem_singleton.1 hb]; exact hlt a ha
      · rw [List.mem_append, List.mem_singleton, h2, hm]
      · rw [Nat.add_sub_cancel] at hy
        have : x = y := Option.some.inj (hx.symm.trans hy)
        subst this
        rcases List.mem_append.1 hz with hz | hz
        · exact .inr (hlt z hz)
        · exact .inl (List.mem_singleton.1 hz)
theorem run_clear_pairs {P : Program} (w : World) (t e ty : TypeId) (ht : P.underlying t = some (.slice e)) (hv : ∀ w, (zeroValue e).run P w = .ok (.agg #[.int .i64 0, .int .i64 0]) w) (b o n c : Nat) (hn : 0 < n)
    (hc : ∀ j, j < n * 2 → (w.cell? ⟨b, o + j, none⟩).isSome = true) (hf : ∀ j, j < n * 2 → w.frozen? ⟨b, o + j, none⟩ = false) :
    (Builtin.clear_ #[t] ty #[.slice (some ⟨b, o, none⟩) n c]).run P w = .ok (.tuple #[]) (w.setCells b o (List.replicate (n * 2) (.int .i64 0))) := by
  have hcz : (Value.agg #[.int .i64 0, .int .i64 0]).cells = #[.int .i64 0, .int .i64 0] := rfl
  have hzc : (Builtin.zeroCells (Value.agg #[.int .i64 0, .int .i64 0]).cells n).toList = List.replicate (n * 2) (.int .i64 0) := by
    rw [hcz]
    simp [Builtin.zeroCells]
    apply List.ext_getElem
    · simp
    · intro i h1 h2
      have : i % 2 = 0 ∨ i % 2 = 1 := by omega
      rcases this with h | h <;> simp [h]
  have hst := run_storeCells_cells (P := P) b o (List.replicate (n * 2) (.int .i64 0)) 0 w (by simpa using hc) (by simpa using hf) (by intro v hv'; rw [List.eq_of_mem_replicate hv']; rfl)
  simp only [Nat.add_zero] at hst
  obtain ⟨m, rfl⟩ : ∃ m, n = m + 1 := ⟨n - 1, by omega⟩
  simp [Builtin.clear_, run_underlying ht, hv, hzc, hst]
end Go.Proofs.YtfpepoebammeoaaGreat
