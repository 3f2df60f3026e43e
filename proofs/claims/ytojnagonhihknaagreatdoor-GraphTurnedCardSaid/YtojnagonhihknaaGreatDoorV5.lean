/- Forms in memory: a slice value reads as a list of forms. The contracts of Text: the program's and the document's. What reading and writing share. Texts as bytes, and slices that read as texts. No function of the program is named here. Digits of numbers: mathematics. No function of the program is named here. The contract of the document's Digits. -/
import Derived.Laws.IdiomStrings
import Derived.Lib.ItoaMem
import Derived.Test.YtojnagonhihknaaGreatDoorV1
import Derived.Test.YtojnagonhihknaaGreatDoorV3
import Derived.Test.YtojnagonhihknaaGreatDoorV4
set_option linter.unusedVariables false
namespace Go.Proofs.YtojnagonhihknaaGreatDoor
open Go.ChangeShapes Go.WideShapes Go.ChangeAt Go.RowKit

inductive SlL (Z : Nat → Prop) (w : World) : Value → List Tm → Prop
  | nil (a : Option Addr) (c : Nat) : c ≤ maxLen → SlL Z w (.slice a 0 c) []
  | row (b o c : Nat) (xs : List Tm) (S : Nat → Value) : xs ≠ [] → Z b → xs.length ≤ c → c ≤ maxLen →
      (∀ j l t ys, xs[j]? = some (.mk l t ys) → w.cell? ⟨b, o + j * 3, none⟩ = some (.bool l) ∧ w.cell? ⟨b, o + j * 3 + 1, none⟩ = some (.string t) ∧ w.cell? ⟨b, o + j * 3 + 2, none⟩ = some (S j) ∧ t.size ≤ 140737488355328) →
      (∀ j l t ys, xs[j]? = some (.mk l t ys) → SlL Z w (S j) ys) → SlL Z w (.slice (some ⟨b, o, none⟩) xs.length c) xs

theorem SlL.form {Z : Nat → Prop} {w : World} {v : Value} {xs : List Tm} (h : SlL Z w v xs) : ∃ a c, v = .slice a xs.length c ∧ xs.length ≤ c ∧ c ≤ maxLen := by
  cases h with
  | nil a c hc => exact ⟨a, c, rfl, Nat.zero_le _, hc⟩
  | row b o c xs S h1 h2 h3 h4 h5 h6 => exact ⟨_, c, rfl, h3, h4⟩

def FRow (Z : Nat → Prop) (w : World) (b o : Nat) (xs : List Tm) : Prop :=
  Z b ∧ b < w.heap.size ∧ ∀ j l t ys, xs[j]? = some (.mk l t ys) → ∃ a c, w.cell? ⟨b, o + j * 3, none⟩ = some (.bool l) ∧ w.cell? ⟨b, o + j * 3 + 1, none⟩ = some (.string t) ∧ w.cell? ⟨b, o + j * 3 + 2, none⟩ = some (.slice a ys.length c) ∧
    t.size ≤ 140737488355328 ∧ SlL Z w (.slice a ys.length c) ys

theorem SlL.pos {Z : Nat → Prop} {w : World} {v : Value} {xs : List Tm} (h : SlL Z w v xs) (hne : xs ≠ []) : ∃ b o c, v = .slice (some ⟨b, o, none⟩) xs.length c ∧ xs.length ≤ c ∧ c ≤ maxLen ∧ FRow Z w b o xs := by
  cases h with
  | nil a c => exact absurd rfl hne
  | row b o c xs S h1 h2 h3 h4 h5 h6 =>
    refine ⟨b, o, c, rfl, h3, h4, h2, ?_, fun j l t ys hj => ?_⟩
    · obtain ⟨⟨l, t, ys⟩, r, rfl⟩ := List.exists_cons_of_ne_nil h1
      exact cell_lt (h5 0 l t ys rfl).1
    · obtain ⟨c1, c2, c3, c4⟩ := h5 j l t ys hj
      have hs := h6 j l t ys hj
      obtain ⟨a, c', e, _, _⟩ := hs.form
      rw [e] at c3 hs
      exact ⟨a, c', c1, c2, c3, c4, hs⟩

theorem SlL.of_row {Z : Nat → Prop} {w : World} {b o c : Nat} {xs : List Tm} (h : FRow Z w b o xs) (hne : xs ≠ []) (hc : xs.length ≤ c) (hm : c ≤ maxLen) : SlL Z w (.slice (some ⟨b, o, none⟩) xs.length c) xs := by
  obtain ⟨h1, h2, h3⟩ := h
  have hS : ∀ j, ∃ v, ∀ l t ys, xs[j]? = some (.mk l t ys) → w.cell? ⟨b, o + j * 3, none⟩ = some (.bool l) ∧ w.cell? ⟨b, o + j * 3 + 1, none⟩ = some (.string t) ∧ w.cell? ⟨b, o + j * 3 + 2, none⟩ = some v ∧ t.size ≤ 140737488355328 ∧ SlL Z w v ys := by
    intro j
    cases e : xs[j]? with
    | none => exact ⟨.nilIface, fun _ _ _ h => by cases h⟩
    | some x =>
      obtain ⟨l, t, ys⟩ := x
      obtain ⟨a, c', k⟩ := h3 j l t ys e
      refine ⟨.slice a ys.length c', fun l' t' ys' h => ?_⟩
      cases h
      exact k
  obtain ⟨S, hS⟩ := Classical.axiomOfChoice hS
  exact .row b o c xs S hne h1 hc hm (fun j l t ys hj => by obtain ⟨a1, a2, a3, a4, _⟩ := hS j l t ys hj; exact ⟨a1, a2, a3, a4⟩) (fun j l t ys hj => (hS j l t ys hj).2.2.2.2)

theorem SlL.carry {Z Z' : Nat → Prop} {w w' : World} {v : Value} {xs : List Tm} (h : SlL Z w v xs) (hb : ∀ i, i < w.heap.size → Z i → w'.heap[i]? = w.heap[i]? ∧ Z' i) : SlL Z' w' v xs := by
  induction h with
  | nil a c hc => exact .nil a c hc
  | row b o c xs S h1 h2 h3 h4 h5 h6 ih =>
    have hlt : b < w.heap.size := by
      obtain ⟨⟨l, t, ys⟩, r, rfl⟩ := List.exists_cons_of_ne_nil h1
      exact cell_lt (h5 0 l t ys rfl).1
    obtain ⟨e, hz⟩ := hb b hlt h2
    refine .row b o c xs S h1 hz h3 h4 (fun j l t ys hj => ?_) (fun j l t ys hj => ih j l t ys hj)
    obtain ⟨a1, a2, a3, a4⟩ := h5 j l t ys hj
    exact ⟨(World.cell?_of_block (w := w) (a := ⟨b, o + j * 3, none⟩) e).trans a1, (World.cell?_of_block (w := w) (a := ⟨b, o + j * 3 + 1, none⟩) e).trans a2, (World.cell?_of_block (w := w) (a := ⟨b, o + j * 3 + 2, none⟩) e).trans a3, a4⟩

theorem SlL.keep {Z : Nat → Prop} {w w' : World} {v : Value} {xs : List Tm} (h : SlL Z w v xs) (hb : Below w.heap.size w w') : SlL Z w' v xs := h.carry fun i hi hz => ⟨hb.block i hi, hz⟩
theorem SlL.belowB {B : Nat} {w w' : World} {v : Value} {xs : List Tm} (h : SlL (· < B) w v xs) (hb : Below B w w') : SlL (· < B) w' v xs := h.carry fun i hi hz => ⟨hb.block i hz, hz⟩
theorem SlL.off {Z Y : Nat → Prop} {w w' : World} {v : Value} {xs : List Tm} (h : SlL Z w v xs) (ho : Off Y w w') (hz : ∀ i, Z i → ¬ Y i) : SlL Z w' v xs := h.carry fun i hi h => ⟨ho.block i hi (hz i h), h⟩
theorem SlL.mono {Z Z' : Nat → Prop} {w : World} {v : Value} {xs : List Tm} (h : SlL Z w v xs) (hz : ∀ i, i < w.heap.size → Z i → Z' i) : SlL Z' w v xs := h.carry fun i hi h => ⟨rfl, hz i hi h⟩
theorem SlL.drewN {Z : Nat → Prop} {w : World} {v : Value} {xs : List Tm} {n : Nat} (h : SlL Z w v xs) : SlL Z (w.drewN n) v xs := h.carry fun i hi h => ⟨rfl, h⟩
theorem SlL.drew {Z : Nat → Prop} {w : World} {v : Value} {xs : List Tm} (h : SlL Z w v xs) : SlL Z w.drew v xs := h.carry fun i hi h => ⟨rfl, h⟩
theorem SlL.alloc {Z : Nat → Prop} {w : World} {v : Value} {xs : List Tm} (h : SlL Z w v xs) (o : Obj) : SlL Z (w.alloc o) v xs := h.keep ((Below.refl _ _).alloc (Nat.le_refl _) o)
theorem FRow.below {Z : Nat → Prop} {w w' : World} {b o : Nat} {xs : List Tm} (h : FRow Z w b o xs) (hb : Below w.heap.size w w') : FRow Z w' b o xs := by
  obtain ⟨h1, h2, h3⟩ := h
  refine ⟨h1, Nat.lt_of_lt_of_le h2 hb.size, fun j l t ys hj => ?_⟩
  obtain ⟨a, c, a1, a2, a3, a4, a5⟩ := h3 j l t ys hj
  exact ⟨a, c, (hb.cell (p := ⟨b, o + j * 3, none⟩) h2).trans a1, (hb.cell (p := ⟨b, o + j * 3 + 1, none⟩) h2).trans a2, (hb.cell (p := ⟨b, o + j * 3 + 2, none⟩) h2).trans a3, a4, a5.keep hb⟩
theorem FRow.off {Z Y : Nat → Prop} {w w' : World} {b o : Nat} {xs : List Tm} (h : FRow Z w b o xs) (ho : Off Y w w') (hz : ∀ i, Z i → ¬ Y i) : FRow Z w' b o xs := by
  obtain ⟨h1, h2, h3⟩ := h
  refine ⟨h1, Nat.lt_of_lt_of_le h2 ho.size, fun j l t ys hj => ?_⟩
  obtain ⟨a, c, a1, a2, a3, a4, a5⟩ := h3 j l t ys hj
  have hn := hz b h1
  exact ⟨a, c, (ho.cell (p := ⟨b, o + j * 3, none⟩) h2 hn).trans a1, (ho.cell (p := ⟨b, o + j * 3 + 1, none⟩) h2 hn).trans a2, (ho.cell (p := ⟨b, o + j * 3 + 2, none⟩) h2 hn).trans a3, a4, a5.off ho hz⟩

abbrev fv (l : Bool) (t : ByteArray) (s : Value) : Value := .agg #[.bool l, .string t, s]
end Go.Proofs.YtojnagonhihknaaGreatDoor
set_option linter.unusedVariables false
namespace Go.Proofs.YtojnagonhihknaaGreatDoor
open Go.ChangeShapes Go.WideShapes Go.ChangeAt Go.RowKit

theorem text_any (s : ByteArray) (w : World) :
    Calls Tryz.prog 141 #[.string s] w fun e w' => e = .returned (fv false s (.slice none 0 0)) ∧ Below w.heap.size w w' := by
  go_enter Tryz.func141, Tryz.ntmps141
  go_wp2_with fail
  exact bodyPost_ret (v := fv false s (.slice none 0 0)) (by simp [results, Tryz.results141, go_sem]) rfl ⟨rfl, (Below.refl _ _).alloc (Nat.le_refl _) _⟩
end Go.Proofs.YtojnagonhihknaaGreatDoor
set_option linter.unusedVariables false
namespace Go.Proofs.YtojnagonhihknaaGreatDoor
open Go.ChangeShapes Go.WideShapes Go.ChangeAt Go.RowKit

abbrev fz : Value := .agg #[.bool false, .string ⟨#[]⟩, .slice none 0 0]
theorem cells3_off {Z : Nat → Prop} {w wr : World} {x1 x2 x3 : Value} {ty : TypeId} (h : Off Z (w.alloc (.cells #[x1, x2, x3] ty)) wr) (hz : ¬ Z w.heap.size) :
    (wr.cell? ⟨w.heap.size, 0, none⟩ = some x1 ∧ wr.cell? ⟨w.heap.size, 1, none⟩ = some x2 ∧ wr.cell? ⟨w.heap.size, 2, none⟩ = some x3) ∧ (∀ j, wr.frozen? ⟨w.heap.size, j, none⟩ = false) ∧ w.heap.size < wr.heap.size := by
  have hlt : w.heap.size < (w.alloc (.cells #[x1, x2, x3] ty)).heap.size := by show _ < (w.heap.push _).size; simp
  have hc : ∀ j, wr.cell? ⟨w.heap.size, j, none⟩ = #[x1, x2, x3][j]? := fun j => (h.cell (p := ⟨w.heap.size, j, none⟩) hlt hz).trans (World.cell?_alloc_at _ _ _ _ rfl)
  exact ⟨⟨hc 0, hc 1, hc 2⟩, fun j => (h.frozen (p := ⟨w.heap.size, j, none⟩) hlt hz).trans (World.frozen?_alloc_at _ _ _ _ rfl), Nat.lt_of_lt_of_le hlt h.size⟩
theorem extract_list (s : ByteArray) (a b : Nat) : (s.extract a b).data.toList = (s.data.toList.drop a).take (b - a) := by
  rw [ByteArray.data_extract, Array.toList_extract, List.extract_eq_take_drop]
end Go.Proofs.YtojnagonhihknaaGreatDoor
set_option linter.unusedVariables false
namespace Go.Proofs.YtojnagonhihknaaGreatDoor

abbrev tx (l : List UInt8) : ByteArray := ⟨l.toArray⟩
theorem tx_toList (l : List UInt8) : (tx l).data.toList = l := rfl
theorem tx_data (t : ByteArray) : tx t.data.toList = t := by cases t; simp
abbrev Lb := List ByteArray
theorem map_inj_on {α β : Type} (f : α → β) (Q : α → Prop) (h : ∀ x y, Q x → Q y → f x = f y → x = y) : ∀ l m : List α, (∀ x ∈ l, Q x) → (∀ x ∈ m, Q x) → l.map f = m.map f → l = m
  | [], [], _, _, _ => rfl
  | [], _ :: _, _, _, e => by simp at e
  | _ :: _, [], _, _, e => by simp at e
  | x :: r, y :: s, hl, hm, e => by
    simp only [List.map_cons, List.cons.injEq] at e
    rw [h x y (hl x (by simp)) (hm y (by simp)) e.1, map_inj_on f Q h r s (fun z hz => hl z (by simp [hz])) (fun z hz => hm z (by simp [hz])) e.2]
theorem Reads.form {w : World} {v : Value} {xs : Lb} (h : Reads w v xs) : ∃ a c, v = .slice a xs.length c ∧ xs.length ≤ 9223372036854775807 := by
  rcases h with ⟨rfl, a, c, rfl⟩ | ⟨hn, b, o, c, rfl, hc, hm, hx⟩
  · exact ⟨_, _, rfl, Nat.zero_le _⟩
  · exact ⟨_, _, rfl, by omega⟩
theorem Reads.at {w : World} {a : Option Addr} {n c : Nat} {xs : Lb} (h : Reads w (.slice a n c) xs) {j : Nat} {x : ByteArray} (hx : xs[j]? = some x) : ∃ b o, a = some ⟨b, o, none⟩ ∧ n = xs.length ∧ Cells w b o xs := by
  rcases h with ⟨rfl, a', c', e⟩ | ⟨hn, b, o, c', e, hc, hm, hx'⟩
  · simp at hx
  · simp only [Value.slice.injEq] at e
    obtain ⟨rfl, rfl, rfl⟩ := e
    exact ⟨b, o, rfl, rfl, hx'⟩
end Go.Proofs.YtojnagonhihknaaGreatDoor
set_option linter.unusedVariables false
namespace Go.Proofs.YtojnagonhihknaaGreatDoor
open Go.ChangeShapes Go.WideShapes Go.ChangeAt Go.RowKit
open Go.Lib (decDigits itoa)

theorem decDigits_len (u : Nat) : (decDigits u).length ≤ u / 2 + 1 := by
  induction u using Nat.strongRecOn with
  | _ u ih =>
    rw [decDigits]
    split
    · simp
    · have := ih (u / 10) (by omega)
      rw [List.length_append, List.length_singleton]; omega
theorem tx_app (l m : List UInt8) : tx l ++ tx m = tx (l ++ m) := by
  apply ba_ext
  simp [ByteArray.data_append]

theorem itoa_min : itoa (-9223372036854775808) = [45, 57, 50, 50, 51, 51, 55, 50, 48, 51, 54, 56, 53, 52, 55, 55, 53, 56, 48, 56] := by
  simp [itoa, decDigits]
theorem itoa_nat (u : Nat) : itoa (u : Nat) = decDigits u := Lib.itoa_nonneg u
end Go.Proofs.YtojnagonhihknaaGreatDoor
set_option linter.unusedVariables false
namespace Go.Proofs.YtojnagonhihknaaGreatDoor
open Go.ChangeShapes Go.WideShapes Go.ChangeAt Go.RowKit
open Go.Lib (decDigits itoa)

theorem one_digit (w : World) (u : Nat) (t1 t2 t3 : TypeId) (h1 : Tryz.prog.underlying t1 = some (.slice t2)) (h2 : Tryz.prog.underlying t2 = some (.int .u8)) (h3 : Tryz.prog.underlying t3 = some .string) :
    (convert t1 t3 (.slice (some ⟨w.heap.size, 0, none⟩) 1 1)).run Tryz.prog (w.alloc (.cells #[.int .u8 (48 + (u : Int) % 10)] t2)) = .ok (.string (tx [UInt8.ofNat (48 + u % 10)])) (w.alloc (.cells #[.int .u8 (48 + (u : Int) % 10)] t2)) := by
  refine run_convert_bytes_back _ t1 t3 t2 ⟨w.heap.size, 0, none⟩ 1 [UInt8.ofNat (48 + u % 10)] h1 h2 h3 (fun j hj => ?_)
  have : j = 0 := by simp at hj; omega
  subst this
  have hx : (UInt8.ofNat (48 + u % 10)).toNat = 48 + u % 10 := dig_toNat (by omega)
  rw [show (⟨w.heap.size, 0, none⟩ : Addr).add 0 = ⟨w.heap.size, 0, none⟩ from rfl, World.cell?_alloc_at _ _ _ _ rfl]
  simp
  omega

set_option maxHeartbeats 1000000 in
set_option maxRecDepth 100000 in
theorem digits_nat : ∀ (u : Nat) (w : World), u ≤ 9223372036854775807 →
    Calls Tryz.prog 128 #[.int .i64 (u : Nat)] w fun e w' => e = .returned (.string (tx (decDigits u))) ∧ Below w.heap.size w w' := by
  intro u
  induction u using Nat.strongRecOn with
  | _ u ih =>
    intro w hu
    have hx := fun w => one_digit w u 144 5 9 Tryz.underlying144 Tryz.underlying5 Tryz.underlying9
    have h0 : (0 : Int) ≤ u := by omega
    have hd : decDigits u = if u < 10 then [UInt8.ofNat (48 + u % 10)] else decDigits (u / 10) ++ [UInt8.ofNat (48 + u % 10)] := by
      rw [decDigits]
      split
      · rw [Nat.mod_eq_of_lt (by assumption)]
      · rfl
    obtain ⟨X, hX⟩ : ∃ X, X = [UInt8.ofNat (48 + u % 10)] := ⟨_, rfl⟩
    rw [← hX] at hd
    have hX1 : X.length = 1 := by rw [hX]; rfl
    have hx' : ∀ w : World, (convert 144 9 (.slice (some ⟨w.heap.size, 0, none⟩) 1 1)).run Tryz.prog (w.alloc (.cells #[.int .u8 (48 + (u : Int) % 10)] 5)) = .ok (.string (tx X)) (w.alloc (.cells #[.int .u8 (48 + (u : Int) % 10)] 5)) := by
      rw [hX]; exact hx
    clear hx hX
    by_cases hlt : u < 10
    · rw [if_pos hlt] at hd
      rw [hd]
      clear ih hd
      have hlt' : (u : Int) < 10 := by omega
      go_enter Tryz.func128, Tryz.ntmps128
      go_wp2_with fail
      go_ret
      exact ⟨rfl, (Below.refl _ _).alloc (Nat.le_refl _) _⟩
    · rw [if_neg hlt] at hd
      have hc := fun w => ih (u / 10) (by omega) w (by omega)
      have HC := Lib.hid hc
      have HD := Lib.hid hd
      have hsz : (decDigits (u / 10)).length + X.length ≤ 9223372036854775807 := by have := decDigits_len (u / 10); omega
      clear hX1
      have hge : ¬ (u : Int) < 10 := by omega
      clear ih hd hc
      go_enter Tryz.func128, Tryz.ntmps128
      go_wp2_with (go_at_call 128; refine (HC.out _).mono ?_; rintro e w2 ⟨rfl, hb2⟩)
      go_ret
      refine ⟨ret_str (by rw [tx_app, HD.out]), ?_⟩
      exact ((Below.refl _ _).alloc (Nat.le_refl _) _).trans (hb2.mono (by simp))

set_option maxHeartbeats 1000000 in
set_option maxRecDepth 100000 in
theorem digits_any (n : Int) (w : World) (h0 : -9223372036854775808 ≤ n) (h1 : n ≤ 9223372036854775807) :
    Calls Tryz.prog 128 #[.int .i64 n] w fun e w' => e = .returned (.string (tx (itoa n))) ∧ Below w.heap.size w w' := by
  by_cases hneg : n < 0
  · by_cases hm : n = -9223372036854775808
    · subst hm
      rw [itoa_min]
      go_enter Tryz.func128, Tryz.ntmps128
      go_wp2_with fail
      go_ret
      exact ⟨rfl, Below.refl _ _⟩
    · obtain ⟨u, hu⟩ : ∃ u : Nat, n = -(u : Int) := ⟨n.natAbs, by omega⟩
      subst hu
      have hi : itoa (-(u : Int)) = 45 :: decDigits u := Lib.itoa_neg u (by omega)
      have hc := digits_nat u w (by omega)
      have HC := Lib.hid hc
      have HI := Lib.hid hi
      have hl := decDigits_len u
      have hq : (-(u : Int) == -9223372036854775808) = false := by rw [beq_eq_false_iff_ne]; exact hm
      have hsz : 1 + (decDigits u).length ≤ 9223372036854775807 := by omega
      have e1 : wrap64 (-(-(u : Int))) = (u : Int) := by unfold wrap64; omega
      have e2 : wrap64 (u : Int) = (u : Int) := by unfold wrap64; omega
      clear hc hi hl hm
      go_enter Tryz.func128, Tryz.ntmps128
      go_wp2_with (go_at_call 128; ((with_reducible refine HC.out.mono ?_); rintro e w2 ⟨rfl, hb2⟩))
      go_ret
      refine ⟨ret_str ?_, hb2⟩
      rw [show (⟨#[45]⟩ : ByteArray) = tx [45] from rfl, tx_app, HI.out]; rfl
  · obtain ⟨u, hu⟩ : ∃ u : Nat, n = (u : Int) := ⟨n.toNat, by omega⟩
    subst hu
    rw [itoa_nat]
    exact digits_nat u w (by omega)
end Go.Proofs.YtojnagonhihknaaGreatDoor
