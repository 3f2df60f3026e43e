/- The contracts of the functions that turn a number of 32 bits: the program's. -/
import Derived.Test.YtnlmklbehldfcaaDoorBase
import Derived.Test.YtnlmklbehldfcaaDoorSha
set_option linter.unusedVariables false
namespace Go.Proofs.YtnlmklbehldfcaaDoor
open Go.ChangeShapes Go.WideShapes Go.ChangeAt Go.RowKit

/-- The turns that the digest asks for. -/
def isTurn (n : Nat) : Bool := [2, 3, 6, 7, 10, 11, 13, 17, 18, 19, 22, 25].contains n

theorem rotl_any (x : Wd) (n : Nat) (w : World) (hn : isTurn n = true) :
    Calls Tryd.prog 41 #[.int .u32 (nv x), .int .i64 (-(n : Int))] w fun e w' => e = .returned (.int .u32 (nv (rotr x n))) ∧ w' = w := by
  have hm : n = 2 ∨ n = 3 ∨ n = 6 ∨ n = 7 ∨ n = 10 ∨ n = 11 ∨ n = 13 ∨ n = 17 ∨ n = 18 ∨ n = 19 ∨ n = 22 ∨ n = 25 := by simpa [isTurn] using hn
  obtain ⟨q, hq⟩ : ∃ q : Int, bits .and .u64 (IntKind.u64.wrap (-(n : Int))) 31 = q := ⟨_, rfl⟩
  have hq' : q = 32 - n := by
    rcases hm with rfl | rfl | rfl | rfl | rfl | rfl | rfl | rfl | rfl | rfl | rfl | rfl <;> (rw [← hq]; decide)
  have h0 : 0 ≤ q := by omega
  have h32 : q ≤ 32 := by omega
  have hs : IntKind.u64.wrap (32 - q) = n := by rw [hq', IntKind.wrap_u64]; omega
  have hqn : q.toNat = 32 - n := by omega
  have hr : bits .or .u32 (IntKind.u32.wrap ((nv x) * 2 ^ (32 - n))) ((nv x) / 2 ^ n) = nv (rotr x n) := by
    rw [wd_shl, wd_shr, wd_or]; rfl
  have hn0 : (0 : Int) ≤ n := by omega
  have hn32 : (n : Int) ≤ 32 := by omega
  have HR := Lib.hid hr
  have HQ := Lib.hid hq'
  clear hr hm hn hq'
  go_enter Tryd.func41, Tryd.ntmps41
  go_wp2
  go_ret
  exact ⟨ret_int (by first | exact HR.out | simpa [hqn] using HR.out), rfl⟩

theorem turn_any (x : Wd) (n : Nat) (w : World) (hn : isTurn n = true) (h30 : n ≤ 30) :
    Calls Tryd.prog 36 #[.int .u32 (nv x), .int .i64 (n : Int)] w fun e w' => e = .returned (.int .u32 (nv (rotr x n))) ∧ w' = w := by
  have hc := rotl_any x n w hn
  have HC := Lib.hid hc
  clear hc
  go_enter Tryd.func36, Tryd.ntmps36
  go_wp2_with fail
  refine HC.out.mono ?_
  rintro e w1 ⟨rfl, rfl⟩
  go_wp2
  go_ret
  exact ⟨rfl, rfl⟩
/-- At whichever number that is one of the digest's. -/
theorem turnI (x : Wd) (n : Int) (w : World) (h0 : 0 ≤ n) (hn : isTurn n.toNat = true) (h30 : n.toNat ≤ 30) :
    Calls Tryd.prog 36 #[.int .u32 (nv x), .int .i64 n] w fun e w' => e = .returned (.int .u32 (nv (rotr x n.toNat))) ∧ w' = w := by
  have := turn_any x n.toNat w hn h30
  rwa [Int.toNat_of_nonneg h0] at this
theorem turn2 (x : Wd) (w : World) : Calls Tryd.prog 36 #[.int .u32 (nv x), .int .i64 2] w fun e w' => e = .returned (.int .u32 (nv (rotr x 2))) ∧ w' = w := turn_any x 2 w rfl (by decide)
theorem turn6 (x : Wd) (w : World) : Calls Tryd.prog 36 #[.int .u32 (nv x), .int .i64 6] w fun e w' => e = .returned (.int .u32 (nv (rotr x 6))) ∧ w' = w := turn_any x 6 w rfl (by decide)
theorem turn7 (x : Wd) (w : World) : Calls Tryd.prog 36 #[.int .u32 (nv x), .int .i64 7] w fun e w' => e = .returned (.int .u32 (nv (rotr x 7))) ∧ w' = w := turn_any x 7 w rfl (by decide)
theorem turn11 (x : Wd) (w : World) : Calls Tryd.prog 36 #[.int .u32 (nv x), .int .i64 11] w fun e w' => e = .returned (.int .u32 (nv (rotr x 11))) ∧ w' = w := turn_any x 11 w rfl (by decide)
theorem turn13 (x : Wd) (w : World) : Calls Tryd.prog 36 #[.int .u32 (nv x), .int .i64 13] w fun e w' => e = .returned (.int .u32 (nv (rotr x 13))) ∧ w' = w := turn_any x 13 w rfl (by decide)
theorem turn17 (x : Wd) (w : World) : Calls Tryd.prog 36 #[.int .u32 (nv x), .int .i64 17] w fun e w' => e = .returned (.int .u32 (nv (rotr x 17))) ∧ w' = w := turn_any x 17 w rfl (by decide)
theorem turn18 (x : Wd) (w : World) : Calls Tryd.prog 36 #[.int .u32 (nv x), .int .i64 18] w fun e w' => e = .returned (.int .u32 (nv (rotr x 18))) ∧ w' = w := turn_any x 18 w rfl (by decide)
theorem turn19 (x : Wd) (w : World) : Calls Tryd.prog 36 #[.int .u32 (nv x), .int .i64 19] w fun e w' => e = .returned (.int .u32 (nv (rotr x 19))) ∧ w' = w := turn_any x 19 w rfl (by decide)
theorem turn22 (x : Wd) (w : World) : Calls Tryd.prog 36 #[.int .u32 (nv x), .int .i64 22] w fun e w' => e = .returned (.int .u32 (nv (rotr x 22))) ∧ w' = w := turn_any x 22 w rfl (by decide)
theorem turn25 (x : Wd) (w : World) : Calls Tryd.prog 36 #[.int .u32 (nv x), .int .i64 25] w fun e w' => e = .returned (.int .u32 (nv (rotr x 25))) ∧ w' = w := turn_any x 25 w rfl (by decide)
end Go.Proofs.YtnlmklbehldfcaaDoor
