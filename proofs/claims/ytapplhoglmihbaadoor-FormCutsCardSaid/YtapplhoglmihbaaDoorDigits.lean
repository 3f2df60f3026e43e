/- The contract of the document's Digits. -/
import Derived.Test.YtapplhoglmihbaaDoorForms
import Derived.Laws.IdiomStrings
import Derived.Lib.ItoaMem
set_option linter.unusedVariables false
namespace Go.Proofs.YtapplhoglmihbaaDoor
open Go.ChangeShapes Go.WideShapes Go.ChangeAt Go.RowKit
open Go.Lib (decDigits itoa)

/-- A text of these bytes. -/
abbrev tx (l : List UInt8) : ByteArray := ⟨l.toArray⟩

theorem decDigits_len (u : Nat) : (decDigits u).length ≤ u / 2 + 1 := by
  induction u using Nat.strongRecOn with
  | _ u ih =>
    rw [decDigits]
    split
    · simp
    · have := ih (u / 10) (by omega)
      rw [List.length_append, List.length_singleton]; omega
theorem tx_app (l m : List UInt8) : tx l ++ tx m = tx (l ++ m) := by
  apply ba_ext
  simp [ByteArray.data_append]

theorem one_digit (w : World) (u : Nat) (t1 t2 t3 : TypeId) (h1 : Tryd.prog.underlying t1 = some (.slice t2)) (h2 : Tryd.prog.underlying t2 = some (.int .u8)) (h3 : Tryd.prog.underlying t3 = some .string) :
    (convert t1 t3 (.slice (some ⟨w.heap.size, 0, none⟩) 1 1)).run Tryd.prog (w.alloc (.cells #[.int .u8 (48 + (u : Int) % 10)] t2)) = .ok (.string (tx [UInt8.ofNat (48 + u % 10)])) (w.alloc (.cells #[.int .u8 (48 + (u : Int) % 10)] t2)) := by
  refine run_convert_bytes_back _ t1 t3 t2 ⟨w.heap.size, 0, none⟩ 1 [UInt8.ofNat (48 + u % 10)] h1 h2 h3 (fun j hj => ?_)
  have : j = 0 := by simp at hj; omega
  subst this
  have hx : (UInt8.ofNat (48 + u % 10)).toNat = 48 + u % 10 := dig_toNat (by omega)
  rw [show (⟨w.heap.size, 0, none⟩ : Addr).add 0 = ⟨w.heap.size, 0, none⟩ from rfl, World.cell?_alloc_at _ _ _ _ rfl]
  simp
  omega

set_option maxHeartbeats 1000000 in
set_option maxRecDepth 100000 in
theorem digits_nat : ∀ (u : Nat) (w : World), u ≤ 9223372036854775807 →
    Calls Tryd.prog 36 #[.int .i64 (u : Nat)] w fun e w' => e = .returned (.string (tx (decDigits u))) ∧ Below w.heap.size w w' := by
  intro u
  induction u using Nat.strongRecOn with
  | _ u ih =>
    intro w hu
    have hx := fun w => one_digit w u 52 5 9 Tryd.underlying52 Tryd.underlying5 Tryd.underlying9
    have h0 : (0 : Int) ≤ u := by omega
    have hd : decDigits u = if u < 10 then [UInt8.ofNat (48 + u % 10)] else decDigits (u / 10) ++ [UInt8.ofNat (48 + u % 10)] := by
      rw [decDigits]
      split
      · rw [Nat.mod_eq_of_lt (by assumption)]
      · rfl
    obtain ⟨X, hX⟩ : ∃ X, X = [UInt8.ofNat (48 + u % 10)] := ⟨_, rfl⟩
    rw [← hX] at hd
    have hX1 : X.length = 1 := by rw [hX]; rfl
    have hx' : ∀ w : World, (convert 52 9 (.slice (some ⟨w.heap.size, 0, none⟩) 1 1)).run Tryd.prog (w.alloc (.cells #[.int .u8 (48 + (u : Int) % 10)] 5)) = .ok (.string (tx X)) (w.alloc (.cells #[.int .u8 (48 + (u : Int) % 10)] 5)) := by
      rw [hX]; exact hx
    clear hx hX
    by_cases hlt : u < 10
    · rw [if_pos hlt] at hd
      rw [hd]
      clear ih hd
      have hlt' : (u : Int) < 10 := by omega
      go_enter Tryd.func36, Tryd.ntmps36
      go_wp2_with fail
      go_ret
      exact ⟨rfl, (Below.refl _ _).alloc (Nat.le_refl _) _⟩
    · rw [if_neg hlt] at hd
      have hc := fun w => ih (u / 10) (by omega) w (by omega)
      have HC := Lib.hid hc
      have HD := Lib.hid hd
      have hsz : (decDigits (u / 10)).length + X.length ≤ 9223372036854775807 := by have := decDigits_len (u / 10); omega
      clear hX1
      have hge : ¬ (u : Int) < 10 := by omega
      clear ih hd hc
      go_enter Tryd.func36, Tryd.ntmps36
      go_wp2_with (go_at_call 36; refine (HC.out _).mono ?_; rintro e w2 ⟨rfl, hb2⟩)
      go_ret
      refine ⟨ret_str (by rw [tx_app, HD.out]), ?_⟩
      exact ((Below.refl _ _).alloc (Nat.le_refl _) _).trans (hb2.mono (by simp))

theorem itoa_min : itoa (-9223372036854775808) = [45, 57, 50, 50, 51, 51, 55, 50, 48, 51, 54, 56, 53, 52, 55, 55, 53, 56, 48, 56] := by
  simp [itoa, decDigits]
theorem itoa_nat (u : Nat) : itoa (u : Nat) = decDigits u := Lib.itoa_nonneg u

set_option maxHeartbeats 1000000 in
set_option maxRecDepth 100000 in
theorem digits_any (n : Int) (w : World) (h0 : -9223372036854775808 ≤ n) (h1 : n ≤ 9223372036854775807) :
    Calls Tryd.prog 36 #[.int .i64 n] w fun e w' => e = .returned (.string (tx (itoa n))) ∧ Below w.heap.size w w' := by
  by_cases hneg : n < 0
  · by_cases hm : n = -9223372036854775808
    · subst hm
      rw [itoa_min]
      go_enter Tryd.func36, Tryd.ntmps36
      go_wp2_with fail
      go_ret
      exact ⟨rfl, Below.refl _ _⟩
    · obtain ⟨u, hu⟩ : ∃ u : Nat, n = -(u : Int) := ⟨n.natAbs, by omega⟩
      subst hu
      have hi : itoa (-(u : Int)) = 45 :: decDigits u := Lib.itoa_neg u (by omega)
      have hc := digits_nat u w (by omega)
      have HC := Lib.hid hc
      have HI := Lib.hid hi
      have hl := decDigits_len u
      have hq : (-(u : Int) == -9223372036854775808) = false := by rw [beq_eq_false_iff_ne]; exact hm
      have hsz : 1 + (decDigits u).length ≤ 9223372036854775807 := by omega
      have e1 : wrap64 (-(-(u : Int))) = (u : Int) := by unfold wrap64; omega
      have e2 : wrap64 (u : Int) = (u : Int) := by unfold wrap64; omega
      clear hc hi hl hm
      go_enter Tryd.func36, Tryd.ntmps36
      go_wp2_with (go_at_call 36; ((with_reducible refine HC.out.mono ?_); rintro e w2 ⟨rfl, hb2⟩))
      go_ret
      refine ⟨ret_str ?_, hb2⟩
      rw [show (⟨#[45]⟩ : ByteArray) = tx [45] from rfl, tx_app, HI.out]; rfl
  · obtain ⟨u, hu⟩ : ∃ u : Nat, n = (u : Int) := ⟨n.toNat, by omega⟩
    subst hu
    rw [itoa_nat]
    exact digits_nat u w (by omega)
end Go.Proofs.YtapplhoglmihbaaDoor
