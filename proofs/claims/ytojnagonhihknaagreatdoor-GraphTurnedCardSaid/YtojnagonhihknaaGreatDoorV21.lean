/- Slices of pairs that are read; their cells. No function of the program is named here. cmp.Compare of ints, cmp.Or of two. Pairs that lie in a block and are sorted: by the first, then by the second. No function of the program is named here. -/
import Derived.Deep.RegionLaw
import Derived.Sort.Statements
import Derived.Shelf.SlSortCmp.Insertion
import Derived.Shelf.GgSortFunc.RowK
import Derived.Shelf.GgSortFunc.InsertionK
import Derived.Test.YtojnagonhihknaaGreatDoorV1
import Derived.Test.YtojnagonhihknaaGreatDoorV20
set_option linter.unusedVariables false
namespace Go.Proofs.YtojnagonhihknaaGreatDoor
open Go.ChangeShapes Go.WideShapes Go.ChangeAt Go.RowKit

theorem Row.cellK {k B b n cap j : Nat} {w : World} {cs : List Value} {u : Value} (h : Row k B w (.slice (some ⟨b, 0, none⟩) n cap) n cs) (hj : cs[j]? = some u) : w.cell? ⟨b, j, none⟩ = some u ∧ w.frozen? ⟨b, j, none⟩ = false ∧ B ≤ b ∧ b < w.heap.size ∧ n ≤ cap ∧ cap ≤ maxLen := by
  obtain ⟨h0, ⟨h, _⟩ | ⟨b', cap', h1, h2, h3, h4, h5, h6, h7⟩⟩ := h
  · cases h
  · injection h1 with e1 e2 e3
    injection e1 with e1
    injection e1 with e1
    subst e1; subst e3
    have hl := (List.getElem?_eq_some_iff.1 hj).1
    exact ⟨h7 j u hj, (h6 j (by rw [h0] at hl; exact Nat.lt_of_lt_of_le hl (Nat.mul_le_mul_right k h4))).2, h2, h3, h4, h5⟩
abbrev Ed := List (Int × Int)
def RE (w : World) (v : Value) (es : Ed) : Prop :=
  (es = [] ∧ ∃ a c, v = .slice a 0 c) ∨ (es ≠ [] ∧ ∃ b o c, v = .slice (some ⟨b, o, none⟩) es.length c ∧ es.length ≤ c ∧ c ≤ maxLen ∧ b < w.heap.size ∧ ∀ (j : Nat) e, es[j]? = some e → w.cell? ⟨b, o + j * 2, none⟩ = some (.int .i64 e.1) ∧ w.cell? ⟨b, o + j * 2 + 1, none⟩ = some (.int .i64 e.2))
theorem RE.below {w w' : World} {v : Value} {es : Ed} (h : RE w v es) (hb : Below w.heap.size w w') : RE w' v es := by
  rcases h with h | ⟨hn, b, o, c, h1, h2, h3, h4, h5⟩
  · exact .inl h
  · exact .inr ⟨hn, b, o, c, h1, h2, h3, Nat.lt_of_lt_of_le h4 hb.size, fun j e he => ⟨(hb.cell (p := ⟨b, o + j * 2, none⟩) h4).trans (h5 j e he).1, (hb.cell (p := ⟨b, o + j * 2 + 1, none⟩) h4).trans (h5 j e he).2⟩⟩
theorem RE.form {w : World} {v : Value} {es : Ed} (h : RE w v es) : ∃ a c, v = .slice a es.length c := by
  rcases h with ⟨rfl, a, c, rfl⟩ | ⟨hn, b, o, c, rfl, _⟩
  · exact ⟨_, _, rfl⟩
  · exact ⟨_, _, rfl⟩
theorem RE.at {w : World} {a : Option Addr} {n c : Nat} {es : Ed} (h : RE w (.slice a n c) es) {j : Nat} {e : Int × Int} (he : es[j]? = some e) : ∃ b o, a = some ⟨b, o, none⟩ ∧ b < w.heap.size ∧ n ≤ c ∧ c ≤ maxLen ∧ w.cell? ⟨b, o + j * 2, none⟩ = some (.int .i64 e.1) ∧ w.cell? ⟨b, o + j * 2 + 1, none⟩ = some (.int .i64 e.2) := by
  rcases h with ⟨rfl, a', c', e'⟩ | ⟨hn, b, o, c', e', hc, hm, hl, hx⟩
  · simp at he
  · simp only [Value.slice.injEq] at e'
    obtain ⟨rfl, rfl, rfl⟩ := e'
    exact ⟨b, o, rfl, hl, hc, hm, hx j e he⟩
def evs (es : Ed) : List Value := es.flatMap fun e => [.int .i64 e.1, .int .i64 e.2]
theorem evs_snoc (es : Ed) (e : Int × Int) : evs (es ++ [e]) = evs es ++ [.int .i64 e.1, .int .i64 e.2] := by simp [evs]
theorem evs_len (es : Ed) : (evs es).length = es.length * 2 := by
  induction es with
  | nil => rfl
  | cons e es ih =>
    have : evs (e :: es) = [.int .i64 e.1, .int .i64 e.2] ++ evs es := by simp [evs]
    rw [this, List.length_append, ih, List.length_cons]
    simp; omega
theorem evs_at : ∀ {es : Ed} {j : Nat} {e : Int × Int}, es[j]? = some e → (evs es)[j * 2]? = some (.int .i64 e.1) ∧ (evs es)[j * 2 + 1]? = some (.int .i64 e.2)
  | e0 :: es, 0, e, h => by
    simp at h; subst h
    simp [evs]
  | e0 :: es, j + 1, e, h => by
    rw [List.getElem?_cons_succ] at h
    obtain ⟨h1, h2⟩ := evs_at h
    have : evs (e0 :: es) = [.int .i64 e0.1, .int .i64 e0.2] ++ evs es := by simp [evs]
    rw [this]
    constructor
    · rw [List.getElem?_append_right (by simp; omega)]
      rw [show (j + 1) * 2 - ([Value.int .i64 e0.1, Value.int .i64 e0.2] : List Value).length = j * 2 by simp; omega]
      exact h1
    · rw [List.getElem?_append_right (by simp; omega)]
      rw [show (j + 1) * 2 + 1 - ([Value.int .i64 e0.1, Value.int .i64 e0.2] : List Value).length = j * 2 + 1 by simp; omega]
      exact h2
theorem RE.ofRow {B : Nat} {w : World} {v : Value} {es : Ed} (h : Row 2 B w v es.length (evs es)) : RE w v es := by
  rcases Nat.eq_zero_or_pos es.length with h0 | hp
  · obtain ⟨a, c, rfl⟩ := h.form
    rw [h0]
    exact .inl ⟨List.length_eq_zero_iff.1 h0, _, _, rfl⟩
  · obtain ⟨b, cap, rfl, h2, h3, h4, h5, h6, h7⟩ := h.pos hp
    exact .inr ⟨fun e => by rw [e] at hp; simp at hp, b, 0, cap, rfl, h4, h5, h3, fun j e he => by
      rw [Nat.zero_add]
      exact ⟨h7 _ _ (evs_at he).1, h7 _ _ (evs_at he).2⟩⟩
theorem evs_set {es : Ed} {j : Nat} {e e' : Int × Int} (h : es[j]? = some e) : ((evs es).set (j * 2) (.int .i64 e'.1)).set (j * 2 + 1) (.int .i64 e'.2) = evs (es.set j e') := by
  induction es generalizing j with
  | nil => simp at h
  | cons e0 es ih =>
    have hc : ∀ e1 es1, evs (e1 :: es1) = .int .i64 e1.1 :: .int .i64 e1.2 :: evs es1 := fun e1 es1 => by simp [evs]
    cases j with
    | zero => simp [hc]
    | succ j =>
      rw [List.getElem?_cons_succ] at h
      rw [hc, List.set_cons_succ, hc, ← ih h, show (j + 1) * 2 = (j * 2 + 1) + 1 by omega]
      simp [List.set_cons_succ]
end Go.Proofs.YtojnagonhihknaaGreatDoor
set_option linter.unusedVariables false
set_option linter.unusedSimpArgs false
namespace Go.Proofs.YtojnagonhihknaaGreatDoor
open Go.ChangeShapes Go.WideShapes Go.ChangeAt Go.RowKit

def cmpI (a b : Int) : Int := if a < b then -1 else if b < a then 1 else 0
theorem isnan_any (x : Int) (w : World) : Calls Tryz.prog 104 #[.int .i64 x] w fun e w' => e = .returned (.bool false) ∧ w' = w := by
  go_enter Tryz.func104, Tryz.ntmps104
  go_wp2_with fail
  go_ret
  exact ⟨by simp, rfl⟩
theorem compare_any (a b : Int) (w : World) : Calls Tryz.prog 75 #[.int .i64 a, .int .i64 b] w fun e w' => e = .returned (.int .i64 (cmpI a b)) ∧ w' = w := by
  have H1 := Lib.hid (fun x => isnan_any x w)
  unfold cmpI
  by_cases h1 : a < b
  · rw [if_pos h1]
    go_enter Tryz.func75, Tryz.ntmps75
    go_wp2_with fail
    refine (H1.out _).mono ?_
    rintro e w2 ⟨rfl, rfl⟩
    go_wp2_with fail
    refine (H1.out _).mono ?_
    rintro e w2 ⟨rfl, rfl⟩
    go_wp2_with fail
    go_ret
    exact ⟨rfl, rfl⟩
  · rw [if_neg h1]
    by_cases h2 : b < a
    · rw [if_pos h2]
      go_enter Tryz.func75, Tryz.ntmps75
      go_wp2_with fail
      refine (H1.out _).mono ?_
      rintro e w2 ⟨rfl, rfl⟩
      go_wp2_with fail
      refine (H1.out _).mono ?_
      rintro e w2 ⟨rfl, rfl⟩
      go_wp2_with fail
      go_ret
      exact ⟨rfl, rfl⟩
    · rw [if_neg h2]
      go_enter Tryz.func75, Tryz.ntmps75
      go_wp2_with fail
      refine (H1.out _).mono ?_
      rintro e w2 ⟨rfl, rfl⟩
      go_wp2_with fail
      refine (H1.out _).mono ?_
      rintro e w2 ⟨rfl, rfl⟩
      go_wp2_with fail
      go_ret
      exact ⟨rfl, rfl⟩
theorem or_any (x y : Int) (b : Nat) (w : World) (c0 : w.cell? ⟨b, 0, none⟩ = some (.int .i64 x)) (c1 : w.cell? ⟨b, 1, none⟩ = some (.int .i64 y)) :
    Calls Tryz.prog 74 #[.slice (some ⟨b, 0, none⟩) 2 2] w fun e w' => e = .returned (.int .i64 (if x = 0 then y else x)) ∧ w' = w := by
  obtain ⟨r, hr⟩ : ∃ r, r = if x = 0 then y else x := ⟨_, rfl⟩
  have HR1 : Hid (x = 0 → y = r) := Lib.hid (fun h => by rw [hr, if_pos h])
  have HR2 : Hid (¬ x = 0 → x = r) := Lib.hid (fun h => by rw [hr, if_neg h])
  rw [← hr]
  clear hr
  go_enter Tryz.func74, Tryz.ntmps74
  go_wp2_with fail
  go_loopw [8] (fun jv wr => ∃ j : Nat, jv = .int .i64 (j : Nat) ∧ j ≤ 2 ∧ Hid (1 ≤ j → x = 0) ∧ Hid (2 ≤ j → y = 0) ∧ Hid (wr = w)) (fun jv _ => 2 - (intOf jv).toNat)
  case atStart => exact ⟨0, rfl, by omega, Lib.hid (by omega), Lib.hid (by omega), Lib.hid rfl⟩
  case round =>
    obtain ⟨j, rfl, hj, h1, h2, hw⟩ := hrel
    have c0 := c0
    have c1 := c1
    rw [← hw.out] at c0 c1
    have hc : j = 0 ∨ j = 1 ∨ j = 2 := by omega
    rcases hc with rfl | rfl | rfl
    · by_cases hx : x = 0
      · have H : Hid (x = 0) := Lib.hid hx
        subst hx
        go_wp2_with fail
        exact ⟨⟨1, rfl, by omega, Lib.hid (by simp), Lib.hid (by omega), hw⟩, by simp [intOf]⟩
      · have hxb : (x == (0 : Int)) = false := by rw [beq_eq_false_iff_ne]; exact hx
        have H9 := Lib.hid (HR2.out hx)
        go_wp2_with fail
        go_ret
        exact ⟨by rw [← H9.out]; rfl, hw.out⟩
    · have hx := h1.out (by omega)
      have H9 := Lib.hid (HR1.out hx)
      subst hx
      by_cases hy : y = 0
      · subst hy
        go_wp2_with fail
        exact ⟨⟨2, rfl, by omega, Lib.hid (by simp), Lib.hid (by simp), hw⟩, by simp [intOf]⟩
      · have hyb : (y == (0 : Int)) = false := by rw [beq_eq_false_iff_ne]; exact hy
        go_wp2_with fail
        go_ret
        exact ⟨by rw [← H9.out]; rfl, hw.out⟩
    · have hx := h1.out (by omega)
      have hy := h2.out (by omega)
      have H9 := Lib.hid (HR1.out hx)
      subst hx
      subst hy
      go_wp2_with fail
      go_ret
      exact ⟨by rw [← H9.out]; rfl, hw.out⟩
end Go.Proofs.YtojnagonhihknaaGreatDoor
set_option linter.unusedVariables false
set_option linter.unusedSimpArgs false
namespace Go.Proofs.YtojnagonhihknaaGreatDoor
open Go.ChangeShapes Go.WideShapes Go.ChangeAt Go.RowKit Go.Shelf Go.Sort Go.Lib

def cmpP (x y : Int × Int) : Int := if cmpI x.1 y.1 = 0 then cmpI x.2 y.2 else cmpI x.1 y.1
abbrev encP (x : Int × Int) : List Value := [.int .i64 x.1, .int .i64 x.2]
def PA (w : World) (b : Nat) (L : Ed) : Prop := ∀ j e, L[j]? = some e → (w.cell? ⟨b, j * 2, none⟩ = some (.int .i64 e.1) ∧ w.frozen? ⟨b, j * 2, none⟩ = false) ∧ w.cell? ⟨b, j * 2 + 1, none⟩ = some (.int .i64 e.2) ∧ w.frozen? ⟨b, j * 2 + 1, none⟩ = false
theorem PA.ofRow {B n b cap : Nat} {w : World} {L : Ed} (h : Row 2 B w (.slice (some ⟨b, 0, none⟩) n cap) n (evs L)) : PA w b L := fun j e he => by
  obtain ⟨c0, f0, _⟩ := h.cellK (evs_at he).1
  obtain ⟨c1, f1, _⟩ := h.cellK (evs_at he).2
  exact ⟨⟨c0, f0⟩, c1, f1⟩
theorem PA.holds {w : World} {b : Nat} {L : Ed} (h : PA w b L) : HoldsK encP 2 w b 0 L.toArray := by
  intro t ht
  rw [size_flatK] at ht
  rw [get_flatK _ _ _ t ht, Nat.zero_add]
  have hj : t / 2 < L.length := by simp at ht; omega
  have he : L[t / 2]? = some L[t / 2] := List.getElem?_eq_getElem hj
  have hg : L.toArray[t / 2]! = L[t / 2] := by rw [getElem!_pos _ _ (by simpa using hj)]; simp
  rw [hg]
  obtain ⟨⟨c0, f0⟩, c1, f1⟩ := h (t / 2) _ he
  have hm : t % 2 = 0 ∨ t % 2 = 1 := by omega
  rcases hm with hm | hm
  · have e : t / 2 * 2 = t := by omega
    rw [e] at c0 f0
    rw [hm]
    exact ⟨c0, f0⟩
  · have e : t / 2 * 2 + 1 = t := by omega
    rw [e] at c1 f1
    rw [hm]
    exact ⟨c1, f1⟩
theorem PA.ofHolds {w : World} {b : Nat} {L : Ed} (h : HoldsK encP 2 w b 0 L.toArray) : PA w b L := fun j e he => by
  have hj := (List.getElem?_eq_some_iff.1 he).1
  have hg : L.toArray[j]! = e := by
    rw [getElem!_pos _ _ (by simpa using hj)]
    simpa using (List.getElem?_eq_some_iff.1 he).2
  have h0 := h (j * 2) (by rw [size_flatK]; simp; omega)
  have h1 := h (j * 2 + 1) (by rw [size_flatK]; simp; omega)
  rw [get_flatK _ _ _ _ (by simp; omega), Nat.zero_add, show j * 2 / 2 = j by omega, show j * 2 % 2 = 0 by omega, hg] at h0
  rw [get_flatK _ _ _ _ (by simp; omega), Nat.zero_add, show (j * 2 + 1) / 2 = j by omega, show (j * 2 + 1) % 2 = 1 by omega, hg] at h1
  exact ⟨h0, h1⟩
def ltP (x y : Int × Int) : Prop := x.1 < y.1 ∨ x.1 = y.1 ∧ x.2 < y.2
theorem cmpP_lt (x y : Int × Int) : ltOf cmpP x y = true ↔ ltP x y := by
  unfold ltOf cmpP cmpI ltP
  rw [decide_eq_true_iff]
  by_cases h1 : x.1 < y.1
  · simp [h1]
  · by_cases h2 : y.1 < x.1
    · simp [h1, h2]
      omega
    · have h3 : x.1 = y.1 := by omega
      by_cases h4 : x.2 < y.2
      · simp [h3, h4]
      · by_cases h5 : y.2 < x.2
        · simp [h3, h4, h5]
        · simp [h3, h4, h5]
theorem cmpP_not (x y : Int × Int) : ltOf cmpP x y = false ↔ ¬ ltP x y := by rw [← cmpP_lt, Bool.not_eq_true]
theorem swoP : SWO (ltOf cmpP) where
  irrefl x := by rw [cmpP_not]; unfold ltP; omega
  trans x y z h1 h2 := by rw [cmpP_lt] at *; unfold ltP at *; omega
  ntrans x y z h1 h2 := by rw [cmpP_not] at *; unfold ltP at *; omega
theorem totP (x y : Int × Int) (h1 : ltOf cmpP x y = false) (h2 : ltOf cmpP y x = false) : x = y := by
  rw [cmpP_not] at *
  unfold ltP at *
  ext <;> omega
theorem sortP_pairwise (L : Ed) : (L.mergeSort fun x y => !(ltOf cmpP) y x).Pairwise fun x y => ¬ ltP y x := by
  have h := List.pairwise_mergeSort (le := fun x y : Int × Int => !(ltOf cmpP) y x) (fun a b c h1 h2 => by
    rw [Bool.not_eq_true'] at *
    exact swoP.ntrans c b a h2 h1) (fun a b => by
    rw [Bool.or_eq_true, Bool.not_eq_true', Bool.not_eq_true', cmpP_not, cmpP_not]
    unfold ltP
    omega) L
  exact h.imp fun h => by rwa [Bool.not_eq_true', cmpP_not] at h
theorem offP_sorted {w : World} {g n : Nat} {os : Array Obj} (d : Array (Int × Int)) : Off (fun i => i = g) w (sortWorldK encP 2 w g 0 n d os) := by
  unfold sortWorldK putRowK
  refine ⟨rfl, rfl, rfl, by simp, fun k hk hne => ?_⟩
  rw [Go.Sort.heap_grow_old _ _ (by simpa using hk)]
  have : g ≠ k := fun e => hne e.symm
  simp [Go.Sort.putRow, Go.Sort.mapBlock, Go.Sort.ahead, Array.getElem?_modify, this]
end Go.Proofs.YtojnagonhihknaaGreatDoor
