/- Words of our own over memory that reads as lists of strings. No function of the program is named here. The contracts of the functions that turn a number of 32 bits: the program's. -/
import Derived.Test.YthamfbfeokmhgaaGreatDoorRows
import Derived.WalkKit
import Derived.ProofKit
import Derived.OpenShut
import Derived.WalkSpells
import Derived.Outline
import Derived.BigQuiet
import Derived.Deep.QuietTactic
import Derived.Below
import Derived.Lib.Hide
import Derived.Laws.OwnMore
import Derived.OwnWalk
import Derived.Test.YthamfbfeokmhgaaGreatDoorU0
set_option linter.unusedVariables false
namespace Go.Proofs.YthamfbfeokmhgaaGreatDoor
open Go.ChangeShapes Go.WideShapes Go.ChangeAt Go.RowKit

def Cells (w : World) (b o : Nat) (xs : List ByteArray) : Prop :=
  b < w.heap.size ∧ ∀ j x, xs[j]? = some x → w.cell? ⟨b, o + j, none⟩ = some (.string x)

def Reads (w : World) (v : Value) (xs : List ByteArray) : Prop :=
  (xs = [] ∧ ∃ a c, v = .slice a 0 c) ∨ (xs ≠ [] ∧ ∃ b o c, v = .slice (some ⟨b, o, none⟩) xs.length c ∧ xs.length ≤ c ∧ c ≤ 9223372036854775807 ∧ Cells w b o xs)

theorem Cells.below {w w' : World} {b o : Nat} {xs : List ByteArray} (h : Cells w b o xs) (hb : Below w.heap.size w w') : Cells w' b o xs :=
  ⟨Nat.lt_of_lt_of_le h.1 hb.size, fun j x hx => (hb.cell (p := ⟨b, o + j, none⟩) h.1).trans (h.2 j x hx)⟩

theorem Reads.below {w w' : World} {v : Value} {xs : List ByteArray} (h : Reads w v xs) (hb : Below w.heap.size w w') : Reads w' v xs := by
  rcases h with h | ⟨hn, b, o, c, hv, hc, hm, hx⟩
  · exact .inl h
  · exact .inr ⟨hn, b, o, c, hv, hc, hm, hx.below hb⟩

theorem Cells.drew {w : World} {b o : Nat} {xs : List ByteArray} (h : Cells w b o xs) : Cells w.drew b o xs := h
theorem Cells.drewN {w : World} {b o n : Nat} {xs : List ByteArray} (h : Cells w b o xs) : Cells (w.drewN n) b o xs := h
theorem Reads.drewN {w : World} {v : Value} {n : Nat} {xs : List ByteArray} (h : Reads w v xs) : Reads (w.drewN n) v xs := by
  rcases h with h | ⟨hn, b, o, c, hv, hc, hm, hx⟩
  · exact .inl h
  · exact .inr ⟨hn, b, o, c, hv, hc, hm, hx.drewN⟩
theorem Reads.drew {w : World} {v : Value} {xs : List ByteArray} (h : Reads w v xs) : Reads w.drew v xs := h

theorem wpList_push {P : Program} {ops : Array Oper} {rest : List Oper} {o : Oper} {a : Act} {Q : Exit → Act → World → Prop} (hgd : o.guard = none) (s x : Operand) (t : TypeId)
    (ho : o.op = .call { callee := .builtin .append, args := #[s, x], argTypes := #[t, t] })
    (base : Nat) (e : TypeId) (z : Value) (size bytes : Nat) (ht : P.underlying t = some (.slice e)) (hinfo : (P.info? e).map (fun i => (i.zero, i.size, i.bytes)) = some (some z, size, bytes)) (hzs : z.cells.size = size) (hsz : 0 < size)
    (wr : World) (v : Value) (n : Nat) (xs : List Value) (hs : a.eval s = v) (hown : wr.ownsRow base e size v n xs)
    (us : List Value) (c : Nat) (t1 : TypeId) (W : World) (hW : W = wr.alloc (.cells us.toArray t1)) (hx : a.eval x = .slice (some ⟨wr.heap.size, 0, none⟩) 1 c) (hl : us.length = size) (h1 : ∀ u ∈ us, u.oneCell' = true)
    (h63 : n + 1 ≤ 140737488355328) (hbytes : (n + 1) * bytes ≤ 140737488355328) (hbase : base ≤ wr.heap.size)
    (h : ∀ v' w', w'.ownsRow base e size v' (n + 1) (xs ++ us) → (wr.alloc (.cells us.toArray t1)).grownBy w' v.ownBlock → Below base wr w' → wpList P ops Q rest (a.put o.dst v') w') :
    wpList P ops Q (o :: rest) a W := by
  subst hW
  obtain ⟨i, hi, hz, hsize, hby⟩ := info_parts hinfo
  refine wpList_append_own _ hgd s x t ho base e i z size bytes ht hi hz hsize hby hzs hsz v n xs hs (hown.alloc _) ⟨wr.heap.size, 0, none⟩ 1 c us hx (by rw [hl]; omega) ?_ h1 (by unfold maxLen; omega) hbytes (by simp; omega) ?_
  · intro j u hj
    rw [show (⟨wr.heap.size, 0, none⟩ : Addr).add j = ⟨wr.heap.size, j, none⟩ by unfold Addr.add; split <;> simp_all, World.cell?_alloc_at _ _ _ _ rfl]
    simpa using hj
  · intro v' w' h1' h2' _
    refine h v' w' h1' h2' (((Below.refl _ _).alloc hbase _).grown h2' (by simp; omega) (fun k hk => (hown.lt k hk).1))

theorem cell_lt {w : World} {b o : Nat} {v : Value} (h : w.cell? ⟨b, o, none⟩ = some v) : b < w.heap.size := by
  rcases Nat.lt_or_ge b w.heap.size with h' | h'
  · exact h'
  · have e : w.heap[b]? = none := Array.getElem?_eq_none h'
    simp [World.cell?, e] at h

theorem Below.drewN {B n : Nat} {a w : World} (h : Below B a w) : Below B a (w.drewN n) := ⟨h.os, h.tape, h.output, h.size, h.block⟩

theorem take_succ_eq {α : Type} {xs ys : List α} {k : Nat} {x y : α} (h : xs.take k = ys.take k) (hx : xs[k]? = some x) (hy : ys[k]? = some y) (e : x = y) : xs.take (k + 1) = ys.take (k + 1) := by
  rw [List.take_add_one, List.take_add_one, h, hx, hy, e]

theorem ba_ne {x y : ByteArray} (h : (!x.toList == y.toList) = true) : x ≠ y := by
  rintro rfl
  simp at h
theorem ba_eq {x y : ByteArray} (h : (!x.toList == y.toList) = false) : x = y := by
  have h' : x.toList = y.toList := by simpa using h
  have e : x.data.toList = y.data.toList := by rw [← ByteArray.toList_eq x, ← ByteArray.toList_eq y]; exact h'
  cases x; cases y
  simp only [ByteArray.mk.injEq]
  exact Array.toList_inj.1 e

theorem ba_eq' {x y : ByteArray} (h : (x.toList == y.toList) = true) : x = y := by
  refine ba_eq ?_
  rw [h]; rfl
theorem ba_ne' {x y : ByteArray} (h : (x.toList == y.toList) = false) : x ≠ y := by
  refine ba_ne ?_
  rw [h]; rfl

theorem ret_bool {a b : Bool} (h : a = b) : Ending.returned (.bool a) = .returned (.bool b) := by rw [h]
theorem ret_int {k : IntKind} {a b : Int} (h : a = b) : Ending.returned (.int k a) = .returned (.int k b) := by rw [h]
theorem ret_str {a b : ByteArray} (h : a = b) : Ending.returned (.string a) = .returned (.string b) := by rw [h]
end Go.Proofs.YthamfbfeokmhgaaGreatDoor
set_option linter.unusedVariables false
namespace Go.Proofs.YthamfbfeokmhgaaGreatDoor
open Go.ChangeShapes Go.WideShapes Go.ChangeAt Go.RowKit

def isTurn (n : Nat) : Bool := [2, 3, 6, 7, 10, 11, 13, 17, 18, 19, 22, 25].contains n

theorem rotl_any (x : Wd) (n : Nat) (w : World) (hn : isTurn n = true) :
    Calls Tryz.prog 119 #[.int .u32 (nv x), .int .i64 (-(n : Int))] w fun e w' => e = .returned (.int .u32 (nv (rotr x n))) ∧ w' = w := by
  have hm : n = 2 ∨ n = 3 ∨ n = 6 ∨ n = 7 ∨ n = 10 ∨ n = 11 ∨ n = 13 ∨ n = 17 ∨ n = 18 ∨ n = 19 ∨ n = 22 ∨ n = 25 := by simpa [isTurn] using hn
  obtain ⟨q, hq⟩ : ∃ q : Int, bits .and .u64 (IntKind.u64.wrap (-(n : Int))) 31 = q := ⟨_, rfl⟩
  have hq' : q = 32 - n := by
    rcases hm with rfl | rfl | rfl | rfl | rfl | rfl | rfl | rfl | rfl | rfl | rfl | rfl <;> (rw [← hq]; decide)
  have h0 : 0 ≤ q := by omega
  have h32 : q ≤ 32 := by omega
  have hs : IntKind.u64.wrap (32 - q) = n := by rw [hq', IntKind.wrap_u64]; omega
  have hqn : q.toNat = 32 - n := by omega
  have hr : bits .or .u32 (IntKind.u32.wrap ((nv x) * 2 ^ (32 - n))) ((nv x) / 2 ^ n) = nv (rotr x n) := by
    rw [wd_shl, wd_shr, wd_or]; rfl
  have hn0 : (0 : Int) ≤ n := by omega
  have hn32 : (n : Int) ≤ 32 := by omega
  have HR := Lib.hid hr
  have HQ := Lib.hid hq'
  clear hr hm hn hq'
  go_enter Tryz.func119, Tryz.ntmps119
  go_wp2
  go_ret
  exact ⟨ret_int (by first | exact HR.out | simpa [hqn] using HR.out), rfl⟩

theorem turn_any (x : Wd) (n : Nat) (w : World) (hn : isTurn n = true) (h30 : n ≤ 30) :
    Calls Tryz.prog 104 #[.int .u32 (nv x), .int .i64 (n : Int)] w fun e w' => e = .returned (.int .u32 (nv (rotr x n))) ∧ w' = w := by
  have hc := rotl_any x n w hn
  have HC := Lib.hid hc
  clear hc
  go_enter Tryz.func104, Tryz.ntmps104
  go_wp2_with fail
  refine HC.out.mono ?_
  rintro e w1 ⟨rfl, rfl⟩
  go_wp2
  go_ret
  exact ⟨rfl, rfl⟩
theorem turnI (x : Wd) (n : Int) (w : World) (h0 : 0 ≤ n) (hn : isTurn n.toNat = true) (h30 : n.toNat ≤ 30) :
    Calls Tryz.prog 104 #[.int .u32 (nv x), .int .i64 n] w fun e w' => e = .returned (.int .u32 (nv (rotr x n.toNat))) ∧ w' = w := by
  have := turn_any x n.toNat w hn h30
  rwa [Int.toNat_of_nonneg h0] at this
theorem turn2 (x : Wd) (w : World) : Calls Tryz.prog 104 #[.int .u32 (nv x), .int .i64 2] w fun e w' => e = .returned (.int .u32 (nv (rotr x 2))) ∧ w' = w := turn_any x 2 w rfl (by decide)
theorem turn6 (x : Wd) (w : World) : Calls Tryz.prog 104 #[.int .u32 (nv x), .int .i64 6] w fun e w' => e = .returned (.int .u32 (nv (rotr x 6))) ∧ w' = w := turn_any x 6 w rfl (by decide)
theorem turn7 (x : Wd) (w : World) : Calls Tryz.prog 104 #[.int .u32 (nv x), .int .i64 7] w fun e w' => e = .returned (.int .u32 (nv (rotr x 7))) ∧ w' = w := turn_any x 7 w rfl (by decide)
theorem turn11 (x : Wd) (w : World) : Calls Tryz.prog 104 #[.int .u32 (nv x), .int .i64 11] w fun e w' => e = .returned (.int .u32 (nv (rotr x 11))) ∧ w' = w := turn_any x 11 w rfl (by decide)
theorem turn13 (x : Wd) (w : World) : Calls Tryz.prog 104 #[.int .u32 (nv x), .int .i64 13] w fun e w' => e = .returned (.int .u32 (nv (rotr x 13))) ∧ w' = w := turn_any x 13 w rfl (by decide)
theorem turn17 (x : Wd) (w : World) : Calls Tryz.prog 104 #[.int .u32 (nv x), .int .i64 17] w fun e w' => e = .returned (.int .u32 (nv (rotr x 17))) ∧ w' = w := turn_any x 17 w rfl (by decide)
theorem turn18 (x : Wd) (w : World) : Calls Tryz.prog 104 #[.int .u32 (nv x), .int .i64 18] w fun e w' => e = .returned (.int .u32 (nv (rotr x 18))) ∧ w' = w := turn_any x 18 w rfl (by decide)
theorem turn19 (x : Wd) (w : World) : Calls Tryz.prog 104 #[.int .u32 (nv x), .int .i64 19] w fun e w' => e = .returned (.int .u32 (nv (rotr x 19))) ∧ w' = w := turn_any x 19 w rfl (by decide)
theorem turn22 (x : Wd) (w : World) : Calls Tryz.prog 104 #[.int .u32 (nv x), .int .i64 22] w fun e w' => e = .returned (.int .u32 (nv (rotr x 22))) ∧ w' = w := turn_any x 22 w rfl (by decide)
theorem turn25 (x : Wd) (w : World) : Calls Tryz.prog 104 #[.int .u32 (nv x), .int .i64 25] w fun e w' => e = .returned (.int .u32 (nv (rotr x 25))) ∧ w' = w := turn_any x 25 w rfl (by decide)
end Go.Proofs.YthamfbfeokmhgaaGreatDoor
