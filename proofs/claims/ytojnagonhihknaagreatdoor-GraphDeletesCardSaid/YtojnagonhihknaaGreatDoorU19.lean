/- cmp.Compare of ints, cmp.Or of two. Pairs that lie in a block and are sorted: by the first, then by the second. No function of the program is named here. slices.Compact of pairs. -/
import Derived.Deep.RegionLaw
import Derived.Sort.Statements
import Derived.Shelf.SlSortCmp.Insertion
import Derived.Shelf.GgSortFunc.RowK
import Derived.Shelf.GgSortFunc.InsertionK
import Derived.Test.YtojnagonhihknaaGreatDoorU0
import Derived.Test.YtojnagonhihknaaGreatDoorU15
set_option linter.unusedVariables false
set_option linter.unusedSimpArgs false
namespace Go.Proofs.YtojnagonhihknaaGreatDoor
open Go.ChangeShapes Go.WideShapes Go.ChangeAt Go.RowKit

def cmpI (a b : Int) : Int := if a < b then -1 else if b < a then 1 else 0
theorem isnan_any (x : Int) (w : World) : Calls Tryz.prog 104 #[.int .i64 x] w fun e w' => e = .returned (.bool false) ∧ w' = w := by
  go_enter Tryz.func104, Tryz.ntmps104
  go_wp2_with fail
  go_ret
  exact ⟨by simp, rfl⟩
theorem compare_any (a b : Int) (w : World) : Calls Tryz.prog 75 #[.int .i64 a, .int .i64 b] w fun e w' => e = .returned (.int .i64 (cmpI a b)) ∧ w' = w := by
  have H1 := Lib.hid (fun x => isnan_any x w)
  unfold cmpI
  by_cases h1 : a < b
  · rw [if_pos h1]
    go_enter Tryz.func75, Tryz.ntmps75
    go_wp2_with fail
    refine (H1.out _).mono ?_
    rintro e w2 ⟨rfl, rfl⟩
    go_wp2_with fail
    refine (H1.out _).mono ?_
    rintro e w2 ⟨rfl, rfl⟩
    go_wp2_with fail
    go_ret
    exact ⟨rfl, rfl⟩
  · rw [if_neg h1]
    by_cases h2 : b < a
    · rw [if_pos h2]
      go_enter Tryz.func75, Tryz.ntmps75
      go_wp2_with fail
      refine (H1.out _).mono ?_
      rintro e w2 ⟨rfl, rfl⟩
      go_wp2_with fail
      refine (H1.out _).mono ?_
      rintro e w2 ⟨rfl, rfl⟩
      go_wp2_with fail
      go_ret
      exact ⟨rfl, rfl⟩
    · rw [if_neg h2]
      go_enter Tryz.func75, Tryz.ntmps75
      go_wp2_with fail
      refine (H1.out _).mono ?_
      rintro e w2 ⟨rfl, rfl⟩
      go_wp2_with fail
      refine (H1.out _).mono ?_
      rintro e w2 ⟨rfl, rfl⟩
      go_wp2_with fail
      go_ret
      exact ⟨rfl, rfl⟩
theorem or_any (x y : Int) (b : Nat) (w : World) (c0 : w.cell? ⟨b, 0, none⟩ = some (.int .i64 x)) (c1 : w.cell? ⟨b, 1, none⟩ = some (.int .i64 y)) :
    Calls Tryz.prog 74 #[.slice (some ⟨b, 0, none⟩) 2 2] w fun e w' => e = .returned (.int .i64 (if x = 0 then y else x)) ∧ w' = w := by
  obtain ⟨r, hr⟩ : ∃ r, r = if x = 0 then y else x := ⟨_, rfl⟩
  have HR1 : Hid (x = 0 → y = r) := Lib.hid (fun h => by rw [hr, if_pos h])
  have HR2 : Hid (¬ x = 0 → x = r) := Lib.hid (fun h => by rw [hr, if_neg h])
  rw [← hr]
  clear hr
  go_enter Tryz.func74, Tryz.ntmps74
  go_wp2_with fail
  go_loopw [8] (fun jv wr => ∃ j : Nat, jv = .int .i64 (j : Nat) ∧ j ≤ 2 ∧ Hid (1 ≤ j → x = 0) ∧ Hid (2 ≤ j → y = 0) ∧ Hid (wr = w)) (fun jv _ => 2 - (intOf jv).toNat)
  case atStart => exact ⟨0, rfl, by omega, Lib.hid (by omega), Lib.hid (by omega), Lib.hid rfl⟩
  case round =>
    obtain ⟨j, rfl, hj, h1, h2, hw⟩ := hrel
    have c0 := c0
    have c1 := c1
    rw [← hw.out] at c0 c1
    have hc : j = 0 ∨ j = 1 ∨ j = 2 := by omega
    rcases hc with rfl | rfl | rfl
    · by_cases hx : x = 0
      · have H : Hid (x = 0) := Lib.hid hx
        subst hx
        go_wp2_with fail
        exact ⟨⟨1, rfl, by omega, Lib.hid (by simp), Lib.hid (by omega), hw⟩, by simp [intOf]⟩
      · have hxb : (x == (0 : Int)) = false := by rw [beq_eq_false_iff_ne]; exact hx
        have H9 := Lib.hid (HR2.out hx)
        go_wp2_with fail
        go_ret
        exact ⟨by rw [← H9.out]; rfl, hw.out⟩
    · have hx := h1.out (by omega)
      have H9 := Lib.hid (HR1.out hx)
      subst hx
      by_cases hy : y = 0
      · subst hy
        go_wp2_with fail
        exact ⟨⟨2, rfl, by omega, Lib.hid (by simp), Lib.hid (by simp), hw⟩, by simp [intOf]⟩
      · have hyb : (y == (0 : Int)) = false := by rw [beq_eq_false_iff_ne]; exact hy
        go_wp2_with fail
        go_ret
        exact ⟨by rw [← H9.out]; rfl, hw.out⟩
    · have hx := h1.out (by omega)
      have hy := h2.out (by omega)
      have H9 := Lib.hid (HR1.out hx)
      subst hx
      subst hy
      go_wp2_with fail
      go_ret
      exact ⟨by rw [← H9.out]; rfl, hw.out⟩
end Go.Proofs.YtojnagonhihknaaGreatDoor
set_option linter.unusedVariables false
set_option linter.unusedSimpArgs false
namespace Go.Proofs.YtojnagonhihknaaGreatDoor
open Go.ChangeShapes Go.WideShapes Go.ChangeAt Go.RowKit Go.Shelf Go.Sort Go.Lib

def cmpP (x y : Int × Int) : Int := if cmpI x.1 y.1 = 0 then cmpI x.2 y.2 else cmpI x.1 y.1
abbrev encP (x : Int × Int) : List Value := [.int .i64 x.1, .int .i64 x.2]
def PA (w : World) (b : Nat) (L : Ed) : Prop := ∀ j e, L[j]? = some e → (w.cell? ⟨b, j * 2, none⟩ = some (.int .i64 e.1) ∧ w.frozen? ⟨b, j * 2, none⟩ = false) ∧ w.cell? ⟨b, j * 2 + 1, none⟩ = some (.int .i64 e.2) ∧ w.frozen? ⟨b, j * 2 + 1, none⟩ = false
theorem PA.ofRow {B n b cap : Nat} {w : World} {L : Ed} (h : Row 2 B w (.slice (some ⟨b, 0, none⟩) n cap) n (evs L)) : PA w b L := fun j e he => by
  obtain ⟨c0, f0, _⟩ := h.cellK (evs_at he).1
  obtain ⟨c1, f1, _⟩ := h.cellK (evs_at he).2
  exact ⟨⟨c0, f0⟩, c1, f1⟩
theorem PA.holds {w : World} {b : Nat} {L : Ed} (h : PA w b L) : HoldsK encP 2 w b 0 L.toArray := by
  intro t ht
  rw [size_flatK] at ht
  rw [get_flatK _ _ _ t ht, Nat.zero_add]
  have hj : t / 2 < L.length := by simp at ht; omega
  have he : L[t / 2]? = some L[t / 2] := List.getElem?_eq_getElem hj
  have hg : L.toArray[t / 2]! = L[t / 2] := by rw [getElem!_pos _ _ (by simpa using hj)]; simp
  rw [hg]
  obtain ⟨⟨c0, f0⟩, c1, f1⟩ := h (t / 2) _ he
  have hm : t % 2 = 0 ∨ t % 2 = 1 := by omega
  rcases hm with hm | hm
  · have e : t / 2 * 2 = t := by omega
    rw [e] at c0 f0
    rw [hm]
    exact ⟨c0, f0⟩
  · have e : t / 2 * 2 + 1 = t := by omega
    rw [e] at c1 f1
    rw [hm]
    exact ⟨c1, f1⟩
theorem PA.ofHolds {w : World} {b : Nat} {L : Ed} (h : HoldsK encP 2 w b 0 L.toArray) : PA w b L := fun j e he => by
  have hj := (List.getElem?_eq_some_iff.1 he).1
  have hg : L.toArray[j]! = e := by
    rw [getElem!_pos _ _ (by simpa using hj)]
    simpa using (List.getElem?_eq_some_iff.1 he).2
  have h0 := h (j * 2) (by rw [size_flatK]; simp; omega)
  have h1 := h (j * 2 + 1) (by rw [size_flatK]; simp; omega)
  rw [get_flatK _ _ _ _ (by simp; omega), Nat.zero_add, show j * 2 / 2 = j by omega, show j * 2 % 2 = 0 by omega, hg] at h0
  rw [get_flatK _ _ _ _ (by simp; omega), Nat.zero_add, show (j * 2 + 1) / 2 = j by omega, show (j * 2 + 1) % 2 = 1 by omega, hg] at h1
  exact ⟨h0, h1⟩
def ltP (x y : Int × Int) : Prop := x.1 < y.1 ∨ x.1 = y.1 ∧ x.2 < y.2
theorem cmpP_lt (x y : Int × Int) : ltOf cmpP x y = true ↔ ltP x y := by
  unfold ltOf cmpP cmpI ltP
  rw [decide_eq_true_iff]
  by_cases h1 : x.1 < y.1
  · simp [h1]
  · by_cases h2 : y.1 < x.1
    · simp [h1, h2]
      omega
    · have h3 : x.1 = y.1 := by omega
      by_cases h4 : x.2 < y.2
      · simp [h3, h4]
      · by_cases h5 : y.2 < x.2
        · simp [h3, h4, h5]
        · simp [h3, h4, h5]
theorem cmpP_not (x y : Int × Int) : ltOf cmpP x y = false ↔ ¬ ltP x y := by rw [← cmpP_lt, Bool.not_eq_true]
theorem swoP : SWO (ltOf cmpP) where
  irrefl x := by rw [cmpP_not]; unfold ltP; omega
  trans x y z h1 h2 := by rw [cmpP_lt] at *; unfold ltP at *; omega
  ntrans x y z h1 h2 := by rw [cmpP_not] at *; unfold ltP at *; omega
theorem totP (x y : Int × Int) (h1 : ltOf cmpP x y = false) (h2 : ltOf cmpP y x = false) : x = y := by
  rw [cmpP_not] at *
  unfold ltP at *
  ext <;> omega
theorem sortP_pairwise (L : Ed) : (L.mergeSort fun x y => !(ltOf cmpP) y x).Pairwise fun x y => ¬ ltP y x := by
  have h := List.pairwise_mergeSort (le := fun x y : Int × Int => !(ltOf cmpP) y x) (fun a b c h1 h2 => by
    rw [Bool.not_eq_true'] at *
    exact swoP.ntrans c b a h2 h1) (fun a b => by
    rw [Bool.or_eq_true, Bool.not_eq_true', Bool.not_eq_true', cmpP_not, cmpP_not]
    unfold ltP
    omega) L
  exact h.imp fun h => by rwa [Bool.not_eq_true', cmpP_not] at h
theorem offP_sorted {w : World} {g n : Nat} {os : Array Obj} (d : Array (Int × Int)) : Off (fun i => i = g) w (sortWorldK encP 2 w g 0 n d os) := by
  unfold sortWorldK putRowK
  refine ⟨rfl, rfl, rfl, by simp, fun k hk hne => ?_⟩
  rw [Go.Sort.heap_grow_old _ _ (by simpa using hk)]
  have : g ≠ k := fun e => hne e.symm
  simp [Go.Sort.putRow, Go.Sort.mapBlock, Go.Sort.ahead, Array.getElem?_modify, this]
end Go.Proofs.YtojnagonhihknaaGreatDoor
set_option linter.unusedVariables false
set_option linter.unusedSimpArgs false
namespace Go.Proofs.YtojnagonhihknaaGreatDoor
open Go.ChangeShapes Go.WideShapes Go.ChangeAt Go.RowKit

def cpT (L : Ed) : Nat → Ed
  | 0 => []
  | j + 1 => cpT L j ++ match L[j]? with
    | some x => if 0 < j ∧ L[j - 1]? = some x then [] else [x]
    | none => []
theorem cpT_same {L : Ed} {j : Nat} {x : Int × Int} (h : L[j]? = some x) (hj : 0 < j) (hp : L[j - 1]? = some x) : cpT L (j + 1) = cpT L j := by
  show cpT L j ++ _ = _
  rw [h]
  simp [hj, hp]
theorem cpT_new {L : Ed} {j : Nat} {x y : Int × Int} (h : L[j]? = some x) (hp : L[j - 1]? = some y) (hne : y ≠ x) : cpT L (j + 1) = cpT L j ++ [x] := by
  show cpT L j ++ _ = _
  rw [h]
  simp [hp, hne]
theorem cpT_one {L : Ed} {x : Int × Int} (h : L[0]? = some x) : cpT L 1 = [x] := by
  show cpT L 0 ++ _ = _
  rw [h]
  simp [cpT]
theorem cpT_says {L : Ed} (hs : L.Pairwise fun x y => ¬ ltP y x) : ∀ j, j ≤ L.length → (cpT L j).Pairwise ltP ∧ (∀ x, x ∈ cpT L j ↔ x ∈ L.take j) ∧ ∀ y, L[j - 1]? = some y → ∀ x ∈ cpT L j, 0 < j → x = y ∨ ltP x y := by
  intro j
  induction j with
  | zero => intro _; exact ⟨.nil, fun x => by simp [cpT], fun y _ x _ h => absurd h (Nat.lt_irrefl _)⟩
  | succ j ih =>
    intro hj
    obtain ⟨h1, h2, h3⟩ := ih (by omega)
    obtain ⟨x, hx⟩ : ∃ x, L[j]? = some x := ⟨L[j]'(by omega), List.getElem?_eq_getElem _⟩
    have hm : ∀ z, z ∈ L.take (j + 1) ↔ z ∈ L.take j ∨ z = x := fun z => by rw [List.take_add_one, hx]; simp
    by_cases hp : 0 < j ∧ L[j - 1]? = some x
    · rw [cpT_same hx hp.1 hp.2]
      refine ⟨h1, fun z => ?_, fun y hy z hz _ => ?_⟩
      · rw [h2, hm]
        constructor
        · exact .inl
        · rintro (h | rfl)
          · exact h
          · exact List.mem_take_iff_getElem.2 ⟨j - 1, by omega, (List.getElem?_eq_some_iff.1 hp.2).2⟩
      · rw [Nat.add_sub_cancel] at hy
        have : x = y := Option.some.inj (hx.symm.trans hy)
        subst this
        exact h3 x hp.2 z hz hp.1
    · have hnew : cpT L (j + 1) = cpT L j ++ [x] := by
        show cpT L j ++ _ = _
        rw [hx]
        simp only [if_neg hp]
      have hlt : ∀ z ∈ cpT L j, ltP z x := fun z hz => by
        have hj0 : 0 < j := by
          have := (h2 z).1 hz
          rcases Nat.eq_zero_or_pos j with e | e
          · rw [e] at this; simp at this
          · exact e
        obtain ⟨y, hy⟩ : ∃ y, L[j - 1]? = some y := ⟨L[j - 1]'(by omega), List.getElem?_eq_getElem _⟩
        have hyx : y ≠ x := fun e => hp ⟨hj0, by rw [← e]; exact hy⟩
        have hle : ¬ ltP x y := by
          have a1 := List.getElem?_eq_some_iff.1 hy
          have a2 := List.getElem?_eq_some_iff.1 hx
          have := List.pairwise_iff_getElem.1 hs (j - 1) j a1.1 a2.1 (by omega)
          rwa [a1.2, a2.2] at this
        have hyl : ltP y x := by
          unfold ltP at *
          by_cases e1 : y.1 = x.1
          · by_cases e2 : y.2 = x.2
            · exact absurd (Prod.ext e1 e2) hyx
            · omega
          · omega
        rcases h3 y hy z hz hj0 with rfl | h
        · exact hyl
        · unfold ltP at *; omega
      rw [hnew]
      refine ⟨List.pairwise_append.2 ⟨h1, List.pairwise_singleton _ _, fun a ha b hb => ?_⟩, fun z => ?_, fun y hy z hz _ => ?_⟩
      · rw [List.mem_singleton.1 hb]; exact hlt a ha
      · rw [List.mem_append, List.mem_singleton, h2, hm]
      · rw [Nat.add_sub_cancel] at hy
        have : x = y := Option.some.inj (hx.symm.trans hy)
        subst this
        rcases List.mem_append.1 hz with hz | hz
        · exact .inr (hlt z hz)
        · exact .inl (List.mem_singleton.1 hz)
theorem run_clear_pairs {P : Program} (w : World) (t e ty : TypeId) (ht : P.underlying t = some (.slice e)) (hv : ∀ w, (zeroValue e).run P w = .ok (.agg #[.int .i64 0, .int .i64 0]) w) (b o n c : Nat) (hn : 0 < n)
    (hc : ∀ j, j < n * 2 → (w.cell? ⟨b, o + j, none⟩).isSome = true) (hf : ∀ j, j < n * 2 → w.frozen? ⟨b, o + j, none⟩ = false) :
    (Builtin.clear_ #[t] ty #[.slice (some ⟨b, o, none⟩) n c]).run P w = .ok (.tuple #[]) (w.setCells b o (List.replicate (n * 2) (.int .i64 0))) := by
  have hcz : (Value.agg #[.int .i64 0, .int .i64 0]).cells = #[.int .i64 0, .int .i64 0] := rfl
  have hzc : (Builtin.zeroCells (Value.agg #[.int .i64 0, .int .i64 0]).cells n).toList = List.replicate (n * 2) (.int .i64 0) := by
    rw [hcz]
    simp [Builtin.zeroCells]
    apply List.ext_getElem
    · simp
    · intro i h1 h2
      have : i % 2 = 0 ∨ i % 2 = 1 := by omega
      rcases this with h | h <;> simp [h]
  have hst := run_storeCells_cells (P := P) b o (List.replicate (n * 2) (.int .i64 0)) 0 w (by simpa using hc) (by simpa using hf) (by intro v hv'; rw [List.eq_of_mem_replicate hv']; rfl)
  simp only [Nat.add_zero] at hst
  obtain ⟨m, rfl⟩ : ∃ m, n = m + 1 := ⟨n - 1, by omega⟩
  simp [Builtin.clear_, run_underlying ht, hv, hzc, hst]
end Go.Proofs.YtojnagonhihknaaGreatDoor
