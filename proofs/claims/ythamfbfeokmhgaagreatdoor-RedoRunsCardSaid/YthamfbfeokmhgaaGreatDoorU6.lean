/- Texts as bytes, and slices that read as texts. No function of the program is named here. Digits of numbers: mathematics. No function of the program is named here. What forms are by their parts; boxes of three cells. No function of the program is named here. -/
import Derived.Laws.IdiomStrings
import Derived.Lib.ItoaMem
import Derived.Test.YthamfbfeokmhgaaGreatDoorU1
import Derived.Test.YthamfbfeokmhgaaGreatDoorU3
import Derived.Test.YthamfbfeokmhgaaGreatDoorU5
set_option linter.unusedVariables false
namespace Go.Proofs.YthamfbfeokmhgaaGreatDoor

abbrev tx (l : List UInt8) : ByteArray := ⟨l.toArray⟩
theorem tx_toList (l : List UInt8) : (tx l).data.toList = l := rfl
theorem tx_data (t : ByteArray) : tx t.data.toList = t := by cases t; simp
abbrev Lb := List ByteArray
theorem map_inj_on {α β : Type} (f : α → β) (Q : α → Prop) (h : ∀ x y, Q x → Q y → f x = f y → x = y) : ∀ l m : List α, (∀ x ∈ l, Q x) → (∀ x ∈ m, Q x) → l.map f = m.map f → l = m
  | [], [], _, _, _ => rfl
  | [], _ :: _, _, _, e => by simp at e
  | _ :: _, [], _, _, e => by simp at e
  | x :: r, y :: s, hl, hm, e => by
    simp only [List.map_cons, List.cons.injEq] at e
    rw [h x y (hl x (by simp)) (hm y (by simp)) e.1, map_inj_on f Q h r s (fun z hz => hl z (by simp [hz])) (fun z hz => hm z (by simp [hz])) e.2]
theorem Reads.form {w : World} {v : Value} {xs : Lb} (h : Reads w v xs) : ∃ a c, v = .slice a xs.length c ∧ xs.length ≤ 9223372036854775807 := by
  rcases h with ⟨rfl, a, c, rfl⟩ | ⟨hn, b, o, c, rfl, hc, hm, hx⟩
  · exact ⟨_, _, rfl, Nat.zero_le _⟩
  · exact ⟨_, _, rfl, by omega⟩
theorem Reads.at {w : World} {a : Option Addr} {n c : Nat} {xs : Lb} (h : Reads w (.slice a n c) xs) {j : Nat} {x : ByteArray} (hx : xs[j]? = some x) : ∃ b o, a = some ⟨b, o, none⟩ ∧ n = xs.length ∧ Cells w b o xs := by
  rcases h with ⟨rfl, a', c', e⟩ | ⟨hn, b, o, c', e, hc, hm, hx'⟩
  · simp at hx
  · simp only [Value.slice.injEq] at e
    obtain ⟨rfl, rfl, rfl⟩ := e
    exact ⟨b, o, rfl, rfl, hx'⟩
end Go.Proofs.YthamfbfeokmhgaaGreatDoor
set_option linter.unusedVariables false
namespace Go.Proofs.YthamfbfeokmhgaaGreatDoor
open Go.ChangeShapes Go.WideShapes Go.ChangeAt Go.RowKit
open Go.Lib (decDigits itoa)

theorem decDigits_len (u : Nat) : (decDigits u).length ≤ u / 2 + 1 := by
  induction u using Nat.strongRecOn with
  | _ u ih =>
    rw [decDigits]
    split
    · simp
    · have := ih (u / 10) (by omega)
      rw [List.length_append, List.length_singleton]; omega
theorem tx_app (l m : List UInt8) : tx l ++ tx m = tx (l ++ m) := by
  apply ba_ext
  simp [ByteArray.data_append]

theorem itoa_min : itoa (-9223372036854775808) = [45, 57, 50, 50, 51, 51, 55, 50, 48, 51, 54, 56, 53, 52, 55, 55, 53, 56, 48, 56] := by
  simp [itoa, decDigits]
theorem itoa_nat (u : Nat) : itoa (u : Nat) = decDigits u := Lib.itoa_nonneg u
end Go.Proofs.YthamfbfeokmhgaaGreatDoor
set_option linter.unusedVariables false
namespace Go.Proofs.YthamfbfeokmhgaaGreatDoor
open Go.ChangeShapes Go.WideShapes Go.ChangeAt Go.RowKit
open Go.Lib (decDigits itoa)

theorem Tm.ok_list (t : ByteArray) (xs : List Tm) : (Tm.mk true t xs).ok = (decide (t.size = 0) && Tm.oks xs) := by rw [Tm.ok]; rfl
theorem Tm.ok_text (t : ByteArray) (xs : List Tm) : (Tm.mk false t xs).ok = decide (xs.length = 0) := by
  rw [Tm.ok]
  cases xs <;> simp

theorem Tm.depth_list (t : ByteArray) (xs : List Tm) : (Tm.mk true t xs).depth = Tm.depths xs + 1 := by rw [Tm.depth]; rfl
theorem Tm.depth_text (t : ByteArray) (xs : List Tm) : (Tm.mk false t xs).depth = 0 := by rw [Tm.depth]; rfl
theorem Tm.depth_le_parts (T : Tm) : T.depth ≤ T.parts := by
  induction T using Tm.ind with
  | h l t xs ih =>
    have : Tm.depths xs ≤ Tm.partss xs := Tm.depths_le.2 fun x hx => Nat.le_trans (ih x hx) (Tm.parts_mem hx)
    rw [Tm.depth, Tm.parts]
    split <;> omega
theorem Tm.depths_le_partss (xs : List Tm) : Tm.depths xs ≤ Tm.partss xs := Tm.depths_le.2 fun x hx => Nat.le_trans (Tm.depth_le_parts x) (Tm.parts_mem hx)
theorem Tm.partss_take (xs : List Tm) (k : Nat) : Tm.partss (xs.take k) ≤ Tm.partss xs := by
  have := congrArg Tm.partss (List.take_append_drop k xs)
  rw [Tm.partss_app] at this
  omega

theorem keep_box {w W W2 : World} {t : ByteArray} (hb : Below W.heap.size W W2) (h : W.cell? ⟨w.heap.size, 1, none⟩ = some (.string t) ∧ Below w.heap.size w W ∧ w.heap.size < W.heap.size) :
    W2.cell? ⟨w.heap.size, 1, none⟩ = some (.string t) ∧ Below w.heap.size w W2 ∧ w.heap.size < W2.heap.size :=
  ⟨(hb.cell (p := ⟨w.heap.size, 1, none⟩) h.2.2).trans h.1, h.2.1.trans (hb.mono h.2.1.size), Nat.lt_of_lt_of_le h.2.2 hb.size⟩

theorem start_box (w : World) (x y : Value) (t : ByteArray) (ty : TypeId) :
    (w.alloc (.cells #[x, .string t, y] ty)).drew.cell? ⟨w.heap.size, 1, none⟩ = some (.string t) ∧ Below w.heap.size w (w.alloc (.cells #[x, .string t, y] ty)).drew ∧ w.heap.size < (w.alloc (.cells #[x, .string t, y] ty)).drew.heap.size :=
  ⟨(World.cell?_alloc_at _ _ _ _ rfl).trans rfl, ((Below.refl _ _).alloc (Nat.le_refl _) _).drew, by show _ < (w.heap.push _).size; simp⟩

theorem bytes_join (X : List UInt8) (t : ByteArray) : tx X ++ ⟨#[58]⟩ ++ t = tx (X ++ 58 :: t.data.toList) := by
  apply ba_ext
  simp [ByteArray.data_append]

theorem Tm.bytes_text (t : ByteArray) (xs : List Tm) : (Tm.mk false t xs).bytes = decDigits t.size ++ 58 :: t.data.toList := by rw [Tm.bytes]; rfl
theorem Tm.bytes_list (t : ByteArray) (xs : List Tm) : (Tm.mk true t xs).bytes = 40 :: (Tm.bytess xs ++ [41]) := by rw [Tm.bytes]; rfl

theorem Tm.bytess_take_le (xs : List Tm) (k : Nat) : (Tm.bytess (xs.take k)).length ≤ (Tm.bytess xs).length := by
  have := congrArg (fun l => (Tm.bytess l).length) (List.take_append_drop k xs)
  simp only [Tm.bytess_app, List.length_append] at this
  omega
theorem Tm.bytes_mem {xs : List Tm} {x : Tm} (h : x ∈ xs) : x.bytes.length ≤ (Tm.bytess xs).length := by
  induction xs with
  | nil => simp at h
  | cons y r ih =>
    simp only [Tm.bytess, List.length_append]
    rcases List.mem_cons.1 h with rfl | h
    · omega
    · have := ih h; omega
theorem Tm.bytess_get (xs : List Tm) (k : Nat) (x : Tm) (h : xs[k]? = some x) : (Tm.bytess (xs.take k)).length + x.bytes.length ≤ (Tm.bytess xs).length := by
  have h1 := Tm.bytess_take_le xs (k + 1)
  rw [take_snoc h, Tm.bytess_app, List.length_append] at h1
  simpa [Tm.bytess] using h1

theorem Tm.bytes_le (T : Tm) : T.bytes.length ≤ 2 * T.texts + 3 * T.parts := by
  induction T using Tm.ind with
  | h l t xs ih =>
    have hxs : (Tm.bytess xs).length ≤ 2 * Tm.textss xs + 3 * Tm.partss xs := by
      clear l t
      induction xs with
      | nil => simp [Tm.bytess]
      | cons x r ih2 =>
        have h1 := ih x (by simp)
        have h2 := ih2 fun y hy => ih y (by simp [hy])
        simp only [Tm.bytess, Tm.textss, Tm.partss, List.length_append]; omega
    cases l with
    | true => rw [Tm.bytes_list, Tm.texts, Tm.parts]; simp only [List.length_cons, List.length_append, List.length_nil]; omega
    | false =>
      have h1 := decDigits_len t.size
      have h2 := ba_len t
      rw [Tm.bytes_text, Tm.texts, Tm.parts]; simp only [List.length_cons, List.length_append]; omega
end Go.Proofs.YthamfbfeokmhgaaGreatDoor
