/- Plain mathematics of the digest: numbers of 32 bits and how a block of 64 bytes is mixed in. No program is named here. The contracts of the functions that turn a number of 32 bits: the program's. The contract of the document's turn. Plain mathematics of digits of base 16. No program is named here. Slices of one-cell elements that a call has made (nil, a conversion's, or made): what they hold, append and string(..). No function of the program is named here. append to slices of one-cell elements, as far as a machine's memory goes. No function of the program is named here. The contract of the function that makes a text's ending. -/
import Derived.Test.YtgjcblginkdinaaGreatDoorRows
import Derived.Laws.BitsAllLaws
import Derived.Lib.Bytealg
import Derived.Lib.IndexBytes
import Derived.Deep.AppendSrc
import Derived.Deep.MidRow
import Derived.Deep.RegionLaw
import Derived.Laws.IdiomStrings
import Derived.Test.YtgjcblginkdinaaGreatDoorZ0
set_option linter.unusedVariables false
namespace Go.Proofs.YtgjcblginkdinaaGreatDoor

abbrev Wd := BitVec 32

def rotr (x : Wd) (n : Nat) : Wd := x <<< (32 - n) ||| x >>> n
def ls0 (x : Wd) : Wd := rotr x 7 ^^^ rotr x 18 ^^^ x >>> 3
def ls1 (x : Wd) : Wd := rotr x 17 ^^^ rotr x 19 ^^^ x >>> 10
def bs0 (x : Wd) : Wd := rotr x 2 ^^^ rotr x 13 ^^^ rotr x 22
def bs1 (x : Wd) : Wd := rotr x 6 ^^^ rotr x 11 ^^^ rotr x 25
def chw (e f g : Wd) : Wd := e &&& f ||| g &&& ~~~e
def mjw (a b c : Wd) : Wd := a &&& b ||| a &&& c ||| b &&& c

structure St where
  a : Wd
  b : Wd
  c : Wd
  d : Wd
  e : Wd
  f : Wd
  g : Wd
  h : Wd

def tOne (s : St) (k w : Wd) : Wd := s.h + bs1 s.e + chw s.e s.f s.g + k + w
def tTwo (s : St) : Wd := bs0 s.a + mjw s.a s.b s.c
def rnd (s : St) (k w : Wd) : St := ⟨tOne s k w + tTwo s, s.a, s.b, s.c, s.d + tOne s k w, s.e, s.f, s.g⟩
def runs (K W : List Wd) (s : St) : Nat → St
  | 0 => s
  | t + 1 => rnd (runs K W s t) (K.getD t 0) (W.getD t 0)
def addS (s t : St) : St := ⟨s.a + t.a, s.b + t.b, s.c + t.c, s.d + t.d, s.e + t.e, s.f + t.f, s.g + t.g, s.h + t.h⟩

def wd4 (a b c d : UInt8) : Wd := BitVec.ofNat 32 a.toNat <<< 24 ||| BitVec.ofNat 32 b.toNat <<< 16 ||| BitVec.ofNat 32 c.toNat <<< 8 ||| BitVec.ofNat 32 d.toNat
def wdAt (s : List UInt8) (t : Nat) : Wd := wd4 (s.getD (4 * t) 0) (s.getD (4 * t + 1) 0) (s.getD (4 * t + 2) 0) (s.getD (4 * t + 3) 0)

def nextW (s : List UInt8) (l : List Wd) (t : Nat) : Wd :=
  if t < 16 then wdAt s t else l.getD (t - 16) 0 + ls0 (l.getD (t - 15) 0) + l.getD (t - 7) 0 + ls1 (l.getD (t - 2) 0)
def sch (s : List UInt8) : Nat → List Wd
  | 0 => []
  | t + 1 => sch s t ++ [nextW s (sch s t) t]

theorem sch_len (s : List UInt8) : ∀ t, (sch s t).length = t
  | 0 => rfl
  | t + 1 => by rw [sch, List.length_append, sch_len s t]; rfl

theorem sch_getD (s : List UInt8) (t j : Nat) : (sch s (t + 1)).getD j 0 = if j = t then nextW s (sch s t) t else (sch s t).getD j 0 := by
  rw [sch, List.getD_eq_getElem?_getD, List.getD_eq_getElem?_getD]
  have hl := sch_len s t
  by_cases h : j = t
  · rw [if_pos h, h, List.getElem?_append_right (by omega), hl]; simp
  · rw [if_neg h]
    by_cases h2 : j < t
    · rw [List.getElem?_append_left (by omega)]
    · rw [List.getElem?_eq_none (by simp [hl]; omega), List.getElem?_eq_none (by omega)]

def mixB (K : List Wd) (h : St) (s : List UInt8) : St := addS h (runs K (sch s 64) h 64)
def mixL (K : List Wd) : Nat → St → List UInt8 → St
  | 0, h, _ => h
  | n + 1, h, s => mixL K n (mixB K h (s.take 64)) (s.drop 64)

theorem mixL_add (K : List Wd) : ∀ (m n : Nat) (h : St) (a b : List UInt8), a.length = 64 * m → mixL K (m + n) h (a ++ b) = mixL K n (mixL K m h a) b
  | 0, n, h, a, b, e => by
    have : a = [] := List.length_eq_zero_iff.1 (by omega)
    subst this
    simp [mixL]
  | m + 1, n, h, a, b, e => by
    rw [show m + 1 + n = (m + n) + 1 by omega, mixL, mixL]
    have h1 : (a ++ b).take 64 = a.take 64 := by rw [List.take_append_of_le_length (by omega)]
    have h2 : (a ++ b).drop 64 = a.drop 64 ++ b := by rw [List.drop_append_of_le_length (by omega)]
    rw [h1, h2]
    exact mixL_add K m n _ _ b (by rw [List.length_drop]; omega)

theorem mixL_take (K : List Wd) : ∀ (m : Nat) (h : St) (a : List UInt8), 64 * m ≤ a.length → mixL K m h a = mixL K m h (a.take (64 * m))
  | m, h, a, e => by
    have := mixL_add K m 0 h (a.take (64 * m)) (a.drop (64 * m)) (by rw [List.length_take]; omega)
    rw [List.take_append_drop] at this
    simpa [mixL] using this

def zeros (n : Nat) : Nat := (119 - n % 64) % 64
theorem zeros_mod (n : Nat) : (n + 1 + zeros n) % 64 = 56 := by unfold zeros; omega
theorem zeros_lt (n : Nat) : zeros n < 64 := by unfold zeros; omega
theorem zeros_le {n j : Nat} (h : (n + 1 + j) % 64 = 56) (hj : j ≤ zeros n) : j = zeros n := by unfold zeros at *; omega

def bitsB (n : Nat) (j : Nat) : List UInt8 := (List.range j).map fun i => UInt8.ofNat (n * 8 % 18446744073709551616 / 2 ^ (56 - 8 * i))
theorem bitsB_succ (n j : Nat) : bitsB n (j + 1) = bitsB n j ++ [UInt8.ofNat (n * 8 % 18446744073709551616 / 2 ^ (56 - 8 * j))] := by
  simp [bitsB, List.range_succ]
theorem bitsB_len (n j : Nat) : (bitsB n j).length = j := by simp [bitsB]

def endL (r : List UInt8) (n : Nat) : List UInt8 := r ++ [128] ++ List.replicate (zeros r.length) 0 ++ bitsB n 8
theorem endL_len (r : List UInt8) (n : Nat) : (endL r n).length % 64 = 0 := by
  have := zeros_mod r.length
  simp [endL, bitsB_len]; omega

def lowB (x : Wd) : UInt8 := UInt8.ofNat x.toNat
def wdB (x : Wd) : List UInt8 := [lowB (x >>> 24), lowB (x >>> 16), lowB (x >>> 8), lowB x]
def stW (s : St) : List Wd := [s.a, s.b, s.c, s.d, s.e, s.f, s.g, s.h]
def outW (l : List Wd) : List UInt8 := l.flatMap wdB
theorem outW_len (l : List Wd) : (outW l).length = 4 * l.length := by
  induction l with
  | nil => rfl
  | cons x l ih => rw [outW, List.flatMap_cons, List.length_append, ← outW, ih]; simp [wdB]; omega

def shaR (K : List Wd) (H : St) (s : List UInt8) : List UInt8 :=
  outW (stW (mixL K ((endL s s.length).length / 64) H (endL s s.length)))
def shaP (K : List Wd) (H : St) (s : List UInt8) : List UInt8 :=
  outW (stW (mixL K ((endL (s.drop (s.length - s.length % 64)) s.length).length / 64) (mixL K (s.length / 64) H s) (endL (s.drop (s.length - s.length % 64)) s.length)))

theorem zeros_rest (n : Nat) : zeros (n % 64) = zeros n := by unfold zeros; omega

theorem sha_same (K : List Wd) (H : St) (s : List UInt8) : shaP K H s = shaR K H s := by
  unfold shaP shaR
  have hk : s.length - s.length % 64 = 64 * (s.length / 64) := by omega
  have hl : (s.drop (s.length - s.length % 64)).length = s.length % 64 := by rw [List.length_drop]; omega
  have he : endL s s.length = s.take (64 * (s.length / 64)) ++ endL (s.drop (s.length - s.length % 64)) s.length := by
    unfold endL
    rw [hl, zeros_rest, hk, ← List.append_assoc, ← List.append_assoc, ← List.append_assoc, List.take_append_drop]
  have ht : (s.take (64 * (s.length / 64))).length = 64 * (s.length / 64) := by rw [List.length_take]; omega
  have hn : (endL s s.length).length / 64 = s.length / 64 + (endL (s.drop (s.length - s.length % 64)) s.length).length / 64 := by
    rw [he, List.length_append, ht]; omega
  rw [hn]
  rw [he, mixL_add K _ _ H _ _ ht, ← mixL_take K _ H s (by omega)]

theorem shaR_len (K : List Wd) (H : St) (s : List UInt8) : (shaR K H s).length = 32 := by
  unfold shaR; rw [outW_len]; rfl

def nv (x : Wd) : Int := (x.toNat : Int)
theorem wd_add (x y : Wd) : IntKind.u32.wrap (nv x + nv y) = nv (x + y) := by
  unfold nv
  rw [IntKind.wrap_u32', BitVec.toNat_add]
  have : (2 : Nat) ^ 32 = 4294967296 := rfl
  rw [this]; omega
theorem wd_mod2 (x y : Wd) : (nv x + nv y) % (4294967296 : Int) = nv (x + y) := by rw [← wd_add, IntKind.wrap_u32']
theorem wd_mod3 (x y z : Wd) : (nv x + nv y + nv z) % (4294967296 : Int) = nv (x + y + z) := by rw [← wd_mod2, ← wd_mod2]; omega
theorem wd_add4 (x y z v : Wd) : (nv x + nv y + nv z + nv v) % (4294967296 : Int) = nv (x + y + z + v) := by rw [← wd_mod2, ← wd_mod3]; omega
theorem wd_xor (x y : Wd) : bits .xor .u32 (nv x) (nv y) = nv (x ^^^ y) := by
  unfold nv
  rw [u32_xor_nat _ _ x.isLt y.isLt, BitVec.toNat_xor]
theorem wd_and (x y : Wd) : bits .and .u32 (nv x) (nv y) = nv (x &&& y) := by
  unfold nv
  rw [u32_and_nat _ _ x.isLt y.isLt, BitVec.toNat_and]
theorem wd_or (x y : Wd) : bits .or .u32 (nv x) (nv y) = nv (x ||| y) := by
  unfold nv
  rw [u32_or_nat _ _ x.isLt y.isLt, BitVec.toNat_or]
theorem wd_andNot (x y : Wd) : bits .andNot .u32 (nv x) (nv y) = nv (x &&& ~~~y) := by
  unfold nv
  rw [u32_andNot_nat _ _ x.isLt y.isLt, BitVec.toNat_and, BitVec.toNat_not]
theorem wd_shr (x : Wd) (n : Nat) : nv x / (2 : Int) ^ n = nv (x >>> n) := by
  unfold nv
  rw [BitVec.toNat_ushiftRight, Nat.shiftRight_eq_div_pow]
  simp
theorem wd_shl (x : Wd) (n : Nat) : IntKind.u32.wrap (nv x * (2 : Int) ^ n) = nv (x <<< n) := by
  unfold nv
  rw [BitVec.toNat_shiftLeft, Nat.shiftLeft_eq, IntKind.wrap_u32']
  simp
theorem wd_shr3 (x : Wd) : nv x / (8 : Int) = nv (x >>> 3) := wd_shr x 3
theorem wd_shr10 (x : Wd) : nv x / (1024 : Int) = nv (x >>> 10) := wd_shr x 10
theorem wd_shr24 (x : Wd) : nv x / (16777216 : Int) = nv (x >>> 24) := wd_shr x 24
theorem wd_shr16 (x : Wd) : nv x / (65536 : Int) = nv (x >>> 16) := wd_shr x 16
theorem wd_shr8 (x : Wd) : nv x / (256 : Int) = nv (x >>> 8) := wd_shr x 8
theorem wd_shl24 (x : Wd) : IntKind.u32.wrap (nv x * (16777216 : Int)) = nv (x <<< 24) := wd_shl x 24
theorem wd_shl16 (x : Wd) : IntKind.u32.wrap (nv x * (65536 : Int)) = nv (x <<< 16) := wd_shl x 16
theorem wd_shl8 (x : Wd) : IntKind.u32.wrap (nv x * (256 : Int)) = nv (x <<< 8) := wd_shl x 8
def bv (b : UInt8) : Int := (b.toNat : Int)
theorem wd_byte (x : Wd) : IntKind.u8.wrap (nv x) = bv (lowB x) := by
  unfold nv bv lowB
  rw [IntKind.wrap_u8', UInt8.toNat_ofNat']
  have : (2 : Nat) ^ 8 = 256 := rfl
  rw [this]; omega
theorem wd_ofByte (b : UInt8) : IntKind.u32.wrap (bv b) = nv (BitVec.ofNat 32 b.toNat) := by
  unfold nv bv
  rw [IntKind.wrap_u32', BitVec.toNat_ofNat]
  have : (2 : Nat) ^ 32 = 4294967296 := rfl
  rw [this]; omega
theorem sizeAl (w : World) (o : Obj) : (w.alloc o).heap.size = w.heap.size + 1 := by
  show (w.heap.push o).size = _
  simp
theorem bv_u8 (b : UInt8) : (b.toNat : Int) = bv b := rfl
end Go.Proofs.YtgjcblginkdinaaGreatDoor
set_option linter.unusedVariables false
namespace Go.Proofs.YtgjcblginkdinaaGreatDoor
open Go.ChangeShapes Go.WideShapes Go.ChangeAt Go.RowKit

def isTurn (n : Nat) : Bool := [2, 3, 6, 7, 10, 11, 13, 17, 18, 19, 22, 25].contains n

theorem rotl_any (x : Wd) (n : Nat) (w : World) (hn : isTurn n = true) :
    Calls Tryz.prog 167 #[.int .u32 (nv x), .int .i64 (-(n : Int))] w fun e w' => e = .returned (.int .u32 (nv (rotr x n))) ∧ w' = w := by
  have hm : n = 2 ∨ n = 3 ∨ n = 6 ∨ n = 7 ∨ n = 10 ∨ n = 11 ∨ n = 13 ∨ n = 17 ∨ n = 18 ∨ n = 19 ∨ n = 22 ∨ n = 25 := by simpa [isTurn] using hn
  obtain ⟨q, hq⟩ : ∃ q : Int, bits .and .u64 (IntKind.u64.wrap (-(n : Int))) 31 = q := ⟨_, rfl⟩
  have hq' : q = 32 - n := by
    rcases hm with rfl | rfl | rfl | rfl | rfl | rfl | rfl | rfl | rfl | rfl | rfl | rfl <;> (rw [← hq]; decide)
  have h0 : 0 ≤ q := by omega
  have h32 : q ≤ 32 := by omega
  have hs : IntKind.u64.wrap (32 - q) = n := by rw [hq', IntKind.wrap_u64]; omega
  have hqn : q.toNat = 32 - n := by omega
  have hr : bits .or .u32 (IntKind.u32.wrap ((nv x) * 2 ^ (32 - n))) ((nv x) / 2 ^ n) = nv (rotr x n) := by
    rw [wd_shl, wd_shr, wd_or]; rfl
  have hn0 : (0 : Int) ≤ n := by omega
  have hn32 : (n : Int) ≤ 32 := by omega
  have HR := Lib.hid hr
  have HQ := Lib.hid hq'
  clear hr hm hn hq'
  go_enter Tryz.func167, Tryz.ntmps167
  go_wp2
  go_ret
  exact ⟨ret_int (by first | exact HR.out | simpa [hqn] using HR.out), rfl⟩

theorem turn_any (x : Wd) (n : Nat) (w : World) (hn : isTurn n = true) (h30 : n ≤ 30) :
    Calls Tryz.prog 151 #[.int .u32 (nv x), .int .i64 (n : Int)] w fun e w' => e = .returned (.int .u32 (nv (rotr x n))) ∧ w' = w := by
  have hc := rotl_any x n w hn
  have HC := Lib.hid hc
  clear hc
  go_enter Tryz.func151, Tryz.ntmps151
  go_wp2_with fail
  refine HC.out.mono ?_
  rintro e w1 ⟨rfl, rfl⟩
  go_wp2
  go_ret
  exact ⟨rfl, rfl⟩
theorem turnI (x : Wd) (n : Int) (w : World) (h0 : 0 ≤ n) (hn : isTurn n.toNat = true) (h30 : n.toNat ≤ 30) :
    Calls Tryz.prog 151 #[.int .u32 (nv x), .int .i64 n] w fun e w' => e = .returned (.int .u32 (nv (rotr x n.toNat))) ∧ w' = w := by
  have := turn_any x n.toNat w hn h30
  rwa [Int.toNat_of_nonneg h0] at this
theorem turn2 (x : Wd) (w : World) : Calls Tryz.prog 151 #[.int .u32 (nv x), .int .i64 2] w fun e w' => e = .returned (.int .u32 (nv (rotr x 2))) ∧ w' = w := turn_any x 2 w rfl (by decide)
theorem turn7 (x : Wd) (w : World) : Calls Tryz.prog 151 #[.int .u32 (nv x), .int .i64 7] w fun e w' => e = .returned (.int .u32 (nv (rotr x 7))) ∧ w' = w := turn_any x 7 w rfl (by decide)
theorem turn13 (x : Wd) (w : World) : Calls Tryz.prog 151 #[.int .u32 (nv x), .int .i64 13] w fun e w' => e = .returned (.int .u32 (nv (rotr x 13))) ∧ w' = w := turn_any x 13 w rfl (by decide)
theorem turn17 (x : Wd) (w : World) : Calls Tryz.prog 151 #[.int .u32 (nv x), .int .i64 17] w fun e w' => e = .returned (.int .u32 (nv (rotr x 17))) ∧ w' = w := turn_any x 17 w rfl (by decide)
theorem turn18 (x : Wd) (w : World) : Calls Tryz.prog 151 #[.int .u32 (nv x), .int .i64 18] w fun e w' => e = .returned (.int .u32 (nv (rotr x 18))) ∧ w' = w := turn_any x 18 w rfl (by decide)
theorem turn19 (x : Wd) (w : World) : Calls Tryz.prog 151 #[.int .u32 (nv x), .int .i64 19] w fun e w' => e = .returned (.int .u32 (nv (rotr x 19))) ∧ w' = w := turn_any x 19 w rfl (by decide)
theorem turn22 (x : Wd) (w : World) : Calls Tryz.prog 151 #[.int .u32 (nv x), .int .i64 22] w fun e w' => e = .returned (.int .u32 (nv (rotr x 22))) ∧ w' = w := turn_any x 22 w rfl (by decide)
end Go.Proofs.YtgjcblginkdinaaGreatDoor
set_option linter.unusedVariables false
namespace Go.Proofs.YtgjcblginkdinaaGreatDoor
open Go.ChangeShapes Go.WideShapes Go.ChangeAt Go.RowKit

set_option maxHeartbeats 1000000 in
theorem rturn_any (x : Wd) (n : Int) (w : World) (h1 : 1 ≤ n) (h2 : n ≤ 31) :
    Calls Tryz.prog 79 #[.int .u32 (nv x), .int .i64 n] w fun e w' => e = .returned (.int .u32 (nv (rotr x n.toNat))) ∧ ∃ q, w' = w.drewN q := by
  have hq : (32 - n).toNat = 32 - n.toNat := by omega
  have hw : IntKind.i64.wrap (32 - n) = 32 - n := by rw [IntKind.wrap_i64]; omega
  have hr : bits .or .u32 (nv x / (2 : Int) ^ n.toNat) (IntKind.u32.wrap (nv x * (2 : Int) ^ (32 - n.toNat))) = nv (rotr x n.toNat) := by
    rw [wd_shl, wd_shr, wd_or, rotr, BitVec.or_comm]
  have h0 : 0 ≤ n := by omega
  have h3 : n ≤ 32 := by omega
  have h4 : 0 ≤ 32 - n := by omega
  have h5 : 32 - n ≤ 32 := by omega
  have HR := Lib.hid hr
  clear hr
  go_enter Tryz.func79, Tryz.ntmps79
  go_wp2
  go_quiet (fail)
  go_wp2
  go_ret
  refine ⟨?_, nq, rfl⟩
  refine ret_int ?_
  first | exact HR.out | simpa [hq] using HR.out
end Go.Proofs.YtgjcblginkdinaaGreatDoor
set_option linter.unusedVariables false
namespace Go.Proofs.YtgjcblginkdinaaGreatDoor

def digL : List UInt8 := [48, 49, 50, 51, 52, 53, 54, 55, 56, 57, 97, 98, 99, 100, 101, 102]
def dg (n : Nat) : UInt8 := digL.getD n 0
def dv (c : UInt8) : Int := Lib.indexByte digL c
def hexL (l : List UInt8) : List UInt8 := l.flatMap fun b => [dg (b.toNat / 16), dg (b.toNat % 16)]
def pairB (a b : UInt8) : UInt8 := UInt8.ofNat (dv a * 16 + dv b).toNat
def rawL : List UInt8 → Option (List UInt8)
  | [] => some []
  | [_] => none
  | a :: b :: r => if dv a < 0 ∨ dv b < 0 then none else (rawL r).map (pairB a b :: ·)

theorem dv_dg : ∀ n, n < 16 → dv (dg n) = n := by decide
theorem dv_ge (c : UInt8) : -1 ≤ dv c := Lib.indexByte_ge _ _
set_option maxRecDepth 100000 in
theorem dv_all : ∀ n, n < 256 → dv (UInt8.ofNat n) < 16 ∧ dv (UInt8.ofNat n) = if 48 ≤ n ∧ n ≤ 57 then (n : Int) - 48 else if 97 ≤ n ∧ n ≤ 102 then (n : Int) - 87 else -1 := by decide
theorem dv_lt (c : UInt8) : dv c < 16 := by
  have := (dv_all c.toNat (UInt8.toNat_lt c)).1
  rwa [UInt8.ofNat_toNat] at this
theorem dv_eq (c : UInt8) : dv c = if 48 ≤ c.toNat ∧ c.toNat ≤ 57 then (c.toNat : Int) - 48 else if 97 ≤ c.toNat ∧ c.toNat ≤ 102 then (c.toNat : Int) - 87 else -1 := by
  have := (dv_all c.toNat (UInt8.toNat_lt c)).2
  rwa [UInt8.ofNat_toNat] at this

theorem hexL_len (l : List UInt8) : (hexL l).length = 2 * l.length := by
  induction l with
  | nil => rfl
  | cons b l ih => rw [hexL, List.flatMap_cons, List.length_append, ← hexL, ih]; simp; omega

theorem pair_dg (b : UInt8) : pairB (dg (b.toNat / 16)) (dg (b.toNat % 16)) = b := by
  have hb := UInt8.toNat_lt b
  rw [pairB, dv_dg _ (by omega), dv_dg _ (by omega)]
  have : ((b.toNat / 16 : Nat) : Int) * 16 + ((b.toNat % 16 : Nat) : Int) = (b.toNat : Int) := by omega
  rw [this, Int.toNat_natCast, UInt8.ofNat_toNat]

theorem raw_hex (l : List UInt8) : rawL (hexL l) = some l := by
  induction l with
  | nil => rfl
  | cons b l ih =>
    have hb := UInt8.toNat_lt b
    rw [hexL, List.flatMap_cons, ← hexL]
    show rawL (dg (b.toNat / 16) :: dg (b.toNat % 16) :: hexL l) = _
    rw [rawL, if_neg (by rw [dv_dg _ (by omega), dv_dg _ (by omega)]; omega), ih, pair_dg]; rfl

theorem raw_odd : ∀ (n : Nat) (l : List UInt8), l.length = 2 * n + 1 → rawL l = none
  | 0, [a], _ => rfl
  | n + 1, a :: b :: r, h => by
    rw [rawL, raw_odd n r (by simp at h; omega)]
    split <;> rfl
  | 0, [], h => by simp at h
  | 0, _ :: _ :: _, h => by simp at h
  | _ + 1, [], h => by simp at h
  | _ + 1, [_], h => by simp at h

theorem raw_step {l : List UInt8} {i : Nat} {a b : UInt8} (h1 : l[i]? = some a) (h2 : l[i + 1]? = some b) : l.drop i = a :: b :: l.drop (i + 2) := by
  have hi : i < l.length := (List.getElem?_eq_some_iff.1 h1).1
  have hi2 : i + 1 < l.length := (List.getElem?_eq_some_iff.1 h2).1
  rw [List.drop_eq_getElem_cons hi, List.drop_eq_getElem_cons hi2]
  rw [List.getElem?_eq_getElem hi] at h1
  rw [List.getElem?_eq_getElem hi2] at h2
  rw [Option.some.inj h1, Option.some.inj h2]

end Go.Proofs.YtgjcblginkdinaaGreatDoor
set_option linter.unusedVariables false
namespace Go.Proofs.YtgjcblginkdinaaGreatDoor
open Go.ChangeShapes Go.WideShapes Go.ChangeAt Go.RowKit

def Arr (B : Nat) (w : World) (v : Value) (cs : List Value) : Prop :=
  (v = .slice none 0 0 ∧ cs = []) ∨ ∃ b cap, v = .slice (some ⟨b, 0, none⟩) cs.length cap ∧ B ≤ b ∧ b < w.heap.size ∧ cs.length ≤ cap ∧ cap ≤ maxLen ∧
    (∀ j, j < cap → (w.cell? ⟨b, j, none⟩).isSome = true ∧ w.frozen? ⟨b, j, none⟩ = false) ∧ ∀ j u, cs[j]? = some u → w.cell? ⟨b, j, none⟩ = some u

theorem Arr.nil (B : Nat) (w : World) : Arr B w (.slice none 0 0) [] := .inl ⟨rfl, rfl⟩
theorem Arr.below {B : Nat} {w w' : World} {v : Value} {cs : List Value} (h : Arr B w v cs) (hb : Below w.heap.size w w') : Arr B w' v cs := by
  rcases h with h | ⟨b, cap, h1, h2, h3, h4, h5, h6, h7⟩
  · exact .inl h
  · exact .inr ⟨b, cap, h1, h2, Nat.lt_of_lt_of_le h3 hb.size, h4, h5, fun j hj => ⟨by rw [hb.cell (p := ⟨b, j, none⟩) h3]; exact (h6 j hj).1, (hb.frozen (p := ⟨b, j, none⟩) h3).trans (h6 j hj).2⟩, fun j u hu => (hb.cell (p := ⟨b, j, none⟩) h3).trans (h7 j u hu)⟩
theorem Arr.mono {B B' : Nat} {w : World} {v : Value} {cs : List Value} (h : Arr B w v cs) (hb : B' ≤ B) : Arr B' w v cs := by
  rcases h with h | ⟨b, cap, h1, h2, h3⟩
  · exact .inl h
  · exact .inr ⟨b, cap, h1, Nat.le_trans hb h2, h3⟩
theorem Arr.drewN {B n : Nat} {w : World} {v : Value} {cs : List Value} (h : Arr B w v cs) : Arr B (w.drewN n) v cs := h
theorem Arr.drew {B : Nat} {w : World} {v : Value} {cs : List Value} (h : Arr B w v cs) : Arr B w.drew v cs := h
theorem Arr.form {B : Nat} {w : World} {v : Value} {cs : List Value} (h : Arr B w v cs) : ∃ a c, v = .slice a cs.length c := by
  rcases h with ⟨rfl, rfl⟩ | ⟨b, cap, h1, _⟩
  · exact ⟨none, 0, rfl⟩
  · exact ⟨_, _, h1⟩
theorem Arr.pos {B : Nat} {w : World} {v : Value} {cs : List Value} (h : Arr B w v cs) (hp : cs ≠ []) : ∃ b cap, v = .slice (some ⟨b, 0, none⟩) cs.length cap ∧ B ≤ b ∧ b < w.heap.size ∧ cs.length ≤ cap ∧ cap ≤ maxLen ∧
    (∀ j, j < cap → (w.cell? ⟨b, j, none⟩).isSome = true ∧ w.frozen? ⟨b, j, none⟩ = false) ∧ ∀ j u, cs[j]? = some u → w.cell? ⟨b, j, none⟩ = some u := by
  rcases h with ⟨rfl, h⟩ | h
  · exact absurd h hp
  · exact h
theorem Arr.alloc {B : Nat} {w : World} {v : Value} {cs : List Value} (h : Arr B w v cs) (o : Obj) : Arr B (w.alloc o) v cs :=
  h.below ((Below.refl _ _).alloc (Nat.le_refl _) o)
theorem Arr.set {B : Nat} {w : World} {b n cap k : Nat} {cs : List Value} (h : Arr B w (.slice (some ⟨b, 0, none⟩) n cap) cs) (hk : k < cs.length) (u : Value) : Arr B (w.setCell ⟨b, k, none⟩ u) (.slice (some ⟨b, 0, none⟩) n cap) (cs.set k u) := by
  rcases h with ⟨h, _⟩ | ⟨b', cap', h1, h2, h3, h4, h5, h6, h7⟩
  · cases h
  · injection h1 with e1 e2 e3
    injection e1 with e1
    injection e1 with e1
    subst e1; subst e3; subst e2
    refine .inr ⟨b, cap, by rw [List.length_set], h2, by simpa [World.setCell] using h3, by rw [List.length_set]; exact h4, h5, fun j hj => ?_, fun j v hv => ?_⟩
    · refine ⟨?_, by rw [World.frozen?_setCell]; exact (h6 j hj).2⟩
      by_cases e : k = j
      · subst e
        obtain ⟨x, hx⟩ := Option.isSome_iff_exists.1 (h6 k hj).1
        rw [World.cell?_setCell_same _ _ _ hx]; rfl
      · rw [World.cell?_setCell_other _ _ _ _ (fun h => e (by injection h))]
        exact (h6 j hj).1
    · by_cases e : k = j
      · subst e
        obtain ⟨x, hx⟩ := Option.isSome_iff_exists.1 (h6 k (by omega)).1
        rw [World.cell?_setCell_same _ _ _ hx]
        rw [List.getElem?_set_self hk] at hv
        exact hv
      · rw [World.cell?_setCell_other _ _ _ _ (fun h => e (by injection h))]
        rw [List.getElem?_set_ne e] at hv
        exact h7 j v hv

section
variable {P : Program}

theorem arr_new {B : Nat} {w : World} {e : TypeId} {cs : List Value} {cap : Nat} {xs : Array Value} {fr : Nat × Nat} (hB : B ≤ w.heap.size) (hc : cs.length ≤ cap) (hm : cap ≤ maxLen) (hs : xs.size = cap) (hf : fr = (0, 0) ∨ cap ≤ fr.1) (hx : ∀ (j : Nat) (u : Value), cs[j]? = some u → xs[j]? = some u) :
    Arr B (w.alloc (.cells xs e fr)) (.slice (some ⟨w.heap.size, 0, none⟩) cs.length cap) cs := by
  have hcell : ∀ j, (w.alloc (.cells xs e fr)).cell? ⟨w.heap.size, j, none⟩ = xs[j]? := fun j => World.cell?_alloc_mark w xs e fr j
  refine .inr ⟨w.heap.size, cap, rfl, hB, by show _ < (w.heap.push _).size; simp, hc, hm, fun j hj => ⟨?_, ?_⟩, fun j u hu => by rw [hcell]; exact hx j u hu⟩
  · rw [hcell, Array.getElem?_eq_getElem (by omega)]; rfl
  · obtain ⟨lo, hi⟩ := fr
    rw [World.frozen?_alloc_mark]
    rcases hf with h | h
    · simp only [Prod.mk.injEq] at h
      simp [h.2]
    · have : ¬ lo ≤ j := by have : cap ≤ lo := h; omega
      simp [this]

theorem run_append_arr {B : Nat} {w : World} {v : Value} {cs news : List Value} (t ty e : TypeId) (z : Value) (bytes : Nat) (ht : P.underlying t = some (.slice e)) (hinfo : (P.info? e).map (fun i => (i.zero, i.size, i.bytes)) = some (some z, 1, bytes)) (hz1 : z.cells.size = 1)
    (h : Arr B w v cs) (g c : Nat) (hnews : ∀ j u, news[j]? = some u → w.cell? ⟨g, j, none⟩ = some u) (h1 : ∀ u ∈ news, u.oneCell' = true) (hn : 0 < news.length) (hB : B ≤ w.heap.size) (hl : cs.length + news.length ≤ 1099511627776) (hb : bytes ≤ 16) :
    ∃ v' w', (Builtin.append_ #[t, t] ty #[v, .slice (some ⟨g, 0, none⟩) news.length c]).run P w = .ok v' w' ∧ Arr B w' v' (cs ++ news) ∧ Below B w w' := by
  obtain ⟨i, hi, hzz⟩ := Option.map_eq_some_iff.1 hinfo
  simp only [Prod.mk.injEq] at hzz
  obtain ⟨hz, hsz, hby⟩ := hzz
  have hsrc : Src P i.size t (.slice (some ⟨g, 0, none⟩) news.length c) news.length news w := by
    rw [hsz]
    exact Src.ofSlice w ht ⟨g, 0, none⟩ news.length c news (by omega) (fun j u hu => by rw [Addr.add_mid, Nat.zero_add]; exact hnews j u hu) h1
  have grow : ∀ (base : Option Addr) (sCap : Nat), (Builtin.firstCells i.size cs.length (.slice base cs.length sCap)).run P w.drew = .ok cs.toArray w.drew → sCap < cs.length + news.length →
      ∃ v' w', (Builtin.append_ #[t, t] ty #[.slice base cs.length sCap, .slice (some ⟨g, 0, none⟩) news.length c]).run P w = .ok v' w' ∧ Arr B w' v' (cs ++ news) ∧ Below B w w' := by
    intro base sCap hold hg
    have hfit : Builtin.nextslicecap (cs.length + news.length) sCap * i.bytes ≤ 281474976710656 := growslice_fits hg (by
      rw [hby]
      have := Nat.mul_le_mul hl hb
      omega)
    have hr := run_append_grow_src (P := P) w t t ty e i z ht hi hz base cs.length sCap cs hold (.slice (some ⟨g, 0, none⟩) news.length c) news.length news hsrc hg (by omega) hfit
    have hge := grownCap_ge w (cs.length + news.length) sCap e
    have hcm : grownCap w (cs.length + news.length) sCap e ≤ maxLen := grownCap_le_maxLen w _ sCap e (by unfold maxLen; omega)
    refine ⟨_, _, hr, ?_, ?_⟩
    · have := arr_new (B := B) (w := w.drew) (e := e) (cs := cs ++ news) (cap := grownCap w (cs.length + news.length) sCap e) (xs := (cs ++ news).toArray ++ Builtin.zeroCells z.cells (grownCap w (cs.length + news.length) sCap e - (cs.length + news.length))) (fr := (0, 0)) hB
        (by rw [List.length_append]; exact hge) hcm (by rw [Array.size_append, List.size_toArray, List.length_append, size_zeroCells, hz1]; omega) (.inl rfl) (fun j u hu => by
          rw [Array.getElem?_append, if_pos (by rw [List.size_toArray]; exact (List.getElem?_eq_some_iff.1 hu).1)]
          simpa using hu)
      rw [List.length_append] at this
      exact this
    · exact ((Below.refl B w).drew).alloc hB _
  rcases h with ⟨rfl, rfl⟩ | ⟨b, cap, rfl, h2, h3, h4, h5, h6, h7⟩
  · exact grow none 0 (by simpa using run_firstCells_none w.drew i.size 0 0 0) (by omega)
  · by_cases hroom : cs.length + news.length ≤ cap
    · have hr := run_append_room_src (P := P) w t t ty e i ht hi b 0 cs.length cap _ news.length news hsrc hroom
        (fun j hj => by rw [hsz, Nat.zero_add, Nat.mul_one]; exact (h6 _ (by omega)).1) (fun j hj => by rw [hsz, Nat.zero_add, Nat.mul_one]; exact (h6 _ (by omega)).2)
      rw [hsz, Nat.zero_add, Nat.mul_one] at hr
      refine ⟨_, _, hr, .inr ⟨b, cap, by rw [List.length_append], h2, ?_, by rw [List.length_append]; exact hroom, h5, fun j hj => ?_, fun j u hu => ?_⟩, ?_⟩
      · have : ∀ (vs : List Value) (o : Nat) (x : World), (x.setCells b o vs).heap.size = x.heap.size := fun vs => by
          induction vs with
          | nil => intros; rfl
          | cons a r ih => intro o x; rw [World.setCells, ih]; simp [World.setCell]
        rw [this]; exact h3
      · exact ⟨World.isSome_setCells b news cs.length w _ (h6 j hj).1, by rw [World.frozen?_setCells]; exact (h6 j hj).2⟩
      · have hjl : j < (cs ++ news).length := (List.getElem?_eq_some_iff.1 hu).1
        rw [List.length_append] at hjl
        by_cases e1 : j < cs.length
        · rw [List.getElem?_append_left e1] at hu
          rw [World.cell?_setCells_out b news cs.length w ⟨b, j, none⟩ (fun _ _ => .inl e1)]
          exact h7 j u hu
        · rw [List.getElem?_append_right (by omega)] at hu
          have hin := World.cell?_setCells_in b news cs.length w (fun i hi => (h6 _ (by omega)).1) (j - cs.length) (by omega)
          rw [show cs.length + (j - cs.length) = j by omega] at hin
          rw [hin, ← hu, List.getElem?_eq_getElem (by omega)]
      · have : ∀ (vs : List Value) (o : Nat) (x : World), Below B w x → Below B w (x.setCells b o vs) := fun vs => by
          induction vs with
          | nil => intro o x hx; exact hx
          | cons a r ih => intro o x hx; exact ih (o + 1) _ (hx.setCell (p := ⟨b, o, none⟩) h2 a)
        exact this news cs.length w (Below.refl B w)
    · exact grow (some ⟨b, 0, none⟩) cap (run_firstCells_some w.drew i.size cs.length ⟨b, 0, none⟩ cs.length cap cs (by rw [hsz]; omega) (fun j u hu => by rw [Addr.add_mid, Nat.zero_add]; exact h7 j u hu)) (by omega)

theorem wp_append_arr {w : World} {o : Oper} {a : Act} {K : Act → World → Prop} {Q : Exit → Act → World → Prop} (s x : Operand) (t : TypeId)
    (ho : o.op = .call { callee := .builtin .append, args := #[s, x], argTypes := #[t, t] }) (e : TypeId) (z : Value) (bytes : Nat) (ht : P.underlying t = some (.slice e)) (hinfo : (P.info? e).map (fun i => (i.zero, i.size, i.bytes)) = some (some z, 1, bytes)) (hz1 : z.cells.size = 1)
    (B : Nat) (v : Value) (cs news : List Value) (hs : a.eval s = v) (h : Arr B w v cs) (g m c : Nat) (hx : a.eval x = .slice (some ⟨g, 0, none⟩) m c) (hm : m = news.length) (hnews : ∀ j u, news[j]? = some u → w.cell? ⟨g, j, none⟩ = some u) (h1 : ∀ u ∈ news, u.oneCell' = true) (hn : 0 < news.length)
    (hB : B ≤ w.heap.size) (hl : cs.length + news.length ≤ 1099511627776) (hb : bytes ≤ 16)
    (hK : ∀ v' w', Arr B w' v' (cs ++ news) → Below B w w' → K (a.put o.dst v') w') : o.wp P a w K Q := by
  subst hm
  obtain ⟨v', w', hr, h2, h3⟩ := run_append_arr (P := P) t o.type e z bytes ht hinfo hz1 h g c hnews h1 hn hB hl hb
  unfold Oper.wp execOp
  simp only [ho, resolve, invoke, builtin, Sem.run_bind, Sem.run_pure, Result.andThen_ok, List.map_toArray, List.map_cons, List.map_nil, hs, hx, hr]
  exact hK v' w' h2 h3

theorem wpList_append_arr {w : World} {ops : Array Oper} {rest : List Oper} {o : Oper} {a : Act} {Q : Exit → Act → World → Prop} (hgd : o.guard = none) (s x : Operand) (t : TypeId)
    (ho : o.op = .call { callee := .builtin .append, args := #[s, x], argTypes := #[t, t] }) (e : TypeId) (z : Value) (bytes : Nat) (ht : P.underlying t = some (.slice e)) (hinfo : (P.info? e).map (fun i => (i.zero, i.size, i.bytes)) = some (some z, 1, bytes)) (hz1 : z.cells.size = 1)
    (B : Nat) (v : Value) (cs news : List Value) (hs : a.eval s = v) (h : Arr B w v cs) (g m c : Nat) (hx : a.eval x = .slice (some ⟨g, 0, none⟩) m c) (hm : m = news.length) (hnews : ∀ j u, news[j]? = some u → w.cell? ⟨g, j, none⟩ = some u) (h1 : ∀ u ∈ news, u.oneCell' = true) (hn : 0 < news.length)
    (hB : B ≤ w.heap.size) (hl : cs.length + news.length ≤ 1099511627776) (hb : bytes ≤ 16)
    (hK : ∀ v' w', Arr B w' v' (cs ++ news) → Below B w w' → wpList P ops Q rest (a.put o.dst v') w') : wpList P ops Q (o :: rest) a w :=
  wpList_plain hgd fun _ hk => wp_append_arr s x t ho e z bytes ht hinfo hz1 B v cs news hs h g m c hx hm hnews h1 hn hB hl hb fun v' w' h2 h3 => hk _ _ (hK v' w' h2 h3)

theorem step_append_arr {w : World} {ops : Array Oper} {o : Oper} {a : Act} {K : Act → World → Prop} {Q : Exit → Act → World → Prop} {E : Prop} (hgd : o.guard = none) (s x : Operand) (t : TypeId)
    (ho : o.op = .call { callee := .builtin .append, args := #[s, x], argTypes := #[t, t] }) (e : TypeId) (z : Value) (bytes : Nat) (ht : P.underlying t = some (.slice e)) (hinfo : (P.info? e).map (fun i => (i.zero, i.size, i.bytes)) = some (some z, 1, bytes)) (hz1 : z.cells.size = 1)
    (B : Nat) (v : Value) (cs news : List Value) (hs : a.eval s = v) (h : Arr B w v cs) (g m c : Nat) (hx : a.eval x = .slice (some ⟨g, 0, none⟩) m c) (hm : m = news.length) (hnews : ∀ j u, news[j]? = some u → w.cell? ⟨g, j, none⟩ = some u) (h1 : ∀ u ∈ news, u.oneCell' = true) (hn : 0 < news.length)
    (hB : B ≤ w.heap.size) (hl : cs.length + news.length ≤ 1099511627776) (hb : bytes ≤ 16)
    (hK : ∀ v' w', Arr B w' v' (cs ++ news) → Below B w w' → K (a.put o.dst v') w') :
    if Region.wanted o (yielded ops a.tmps) = true then Oper.wp P o a w K Q else E := by
  have hw : Region.wanted o (yielded ops a.tmps) = true := by simp [Region.wanted, hgd]
  rw [if_pos hw]
  exact wp_append_arr s x t ho e z bytes ht hinfo hz1 B v cs news hs h g m c hx hm hnews h1 hn hB hl hb hK

end

/- one_u8 -/
theorem one1 {k : IntKind} {x : Int} : ∀ u ∈ [Value.int k x], u.oneCell' = true := by
  intro u hu
  rw [List.mem_singleton] at hu
  rw [hu]; rfl
theorem one_map {α : Type} {k : IntKind} {f : α → Int} {l : List α} : ∀ u ∈ l.map (fun x => Value.int k (f x)), u.oneCell' = true := by
  intro u hu
  obtain ⟨x, _, rfl⟩ := List.mem_map.1 hu
  rfl
theorem news_new {w : World} {c : List Value} {t : TypeId} : ∀ (j : Nat) (u : Value), c[j]? = some u → (w.alloc (.cells c.toArray t)).cell? ⟨w.heap.size, j, none⟩ = some u := fun j u hu => by
  rw [World.cell?_alloc_at _ _ _ _ rfl]; simpa using hu
def bys (l : List UInt8) : List Value := l.map fun b => .int .u8 (bv b)
theorem bys_len (l : List UInt8) : (bys l).length = l.length := by simp [bys]
theorem bys_app (l m : List UInt8) : bys (l ++ m) = bys l ++ bys m := by simp [bys]

theorem arr_bytes {B : Nat} {P : Program} (w : World) (src dst e : TypeId) (s : ByteArray) (hs : P.underlying src = some .string) (hd : P.underlying dst = some (.slice e)) (he : P.underlying e = some (.int .u8)) (hB : B ≤ w.heap.size) (hl : s.size ≤ 1099511627776) :
    ∃ v' w', (convert src dst (.string s)).run P w = .ok v' w' ∧ Arr B w' v' (bys s.data.toList) ∧ Below B w w' := by
  have hr := run_bytes_of_string (P := P) w src dst e s hs hd he
  have hge := grownCap_ge w s.size 0 e
  have hcm : grownCap w s.size 0 e ≤ maxLen := grownCap_le_maxLen w _ 0 e (by unfold maxLen; omega)
  have hll : s.data.toList.length = s.size := Array.length_toList
  have hbr : (bytesRow s (grownCap w s.size 0 e)).size = grownCap w s.size 0 e := by
    have hsd : s.data.size = s.size := rfl
    rw [bytesRow, Array.size_append, Array.size_map, Array.size_replicate, hsd]; omega
  refine ⟨_, _, hr, ?_, ((Below.refl B w).drew).alloc hB _⟩
  have := arr_new (B := B) (w := w.drew) (e := e) (cs := bys s.data.toList) (cap := grownCap w s.size 0 e) (xs := bytesRow s (grownCap w s.size 0 e)) (fr := ((bytesRow s (grownCap w s.size 0 e)).size, (bytesRow s (grownCap w s.size 0 e)).size + 1)) hB
    (by rw [bys_len, hll]; exact hge) hcm hbr (.inr (by rw [hbr]; exact Nat.le_refl _)) (fun j u hu => by
      have hj : j < (bys s.data.toList).length := (List.getElem?_eq_some_iff.1 hu).1
      rw [bys_len, hll] at hj
      rw [bytesRow_at s _ j hj]
      rw [bys, List.getElem?_map, List.getElem?_eq_getElem (by rw [hll]; exact hj)] at hu
      rw [← Option.some.inj hu]
      rfl)
  rw [bys_len, hll] at this
  exact this

theorem arr_string {B : Nat} {P : Program} {w : World} {v : Value} {l : List UInt8} (h : Arr B w v (bys l)) (src dst e : TypeId) (hs : P.underlying src = some (.slice e)) (he : P.underlying e = some (.int .u8)) (hd : P.underlying dst = some .string) :
    (convert src dst v).run P w = .ok (.string ⟨l.toArray⟩) w := by
  rcases h with ⟨rfl, h⟩ | ⟨b, cap, rfl, h2, h3, h4, h5, h6, h7⟩
  · have : l = [] := by simpa [bys] using h
    subst this
    rw [run_convert_bytes_string w src dst e none 0 0 hs he hd]
    rfl
  · rw [bys_len]
    refine run_convert_bytes_back w src dst e ⟨b, 0, none⟩ cap l hs he hd (fun j hj => ?_)
    rw [Addr.add_mid, Nat.zero_add]
    refine h7 j _ ?_
    rw [bys, List.getElem?_map, List.getElem?_eq_getElem hj]
    rfl
end Go.Proofs.YtgjcblginkdinaaGreatDoor
set_option linter.unusedVariables false
namespace Go.Proofs.YtgjcblginkdinaaGreatDoor
open Go.ChangeShapes Go.WideShapes Go.ChangeAt Go.RowKit
section
variable {P : Program}

theorem run_append_arr_w {B : Nat} {w : World} {v : Value} {cs news : List Value} (t ty e : TypeId) (z : Value) (bytes : Nat) (ht : P.underlying t = some (.slice e)) (hinfo : (P.info? e).map (fun i => (i.zero, i.size, i.bytes)) = some (some z, 1, bytes)) (hz1 : z.cells.size = 1)
    (h : Arr B w v cs) (g c : Nat) (hnews : ∀ j u, news[j]? = some u → w.cell? ⟨g, j, none⟩ = some u) (h1 : ∀ u ∈ news, u.oneCell' = true) (hn : 0 < news.length) (hB : B ≤ w.heap.size) (hl : cs.length + news.length ≤ 140737488355328) (hb : (cs.length + news.length) * bytes ≤ 140737488355328) :
    ∃ v' w', (Builtin.append_ #[t, t] ty #[v, .slice (some ⟨g, 0, none⟩) news.length c]).run P w = .ok v' w' ∧ Arr B w' v' (cs ++ news) ∧ Below B w w' := by
  obtain ⟨i, hi, hzz⟩ := Option.map_eq_some_iff.1 hinfo
  simp only [Prod.mk.injEq] at hzz
  obtain ⟨hz, hsz, hby⟩ := hzz
  have hsrc : Src P i.size t (.slice (some ⟨g, 0, none⟩) news.length c) news.length news w := by
    rw [hsz]
    exact Src.ofSlice w ht ⟨g, 0, none⟩ news.length c news (by omega) (fun j u hu => by rw [Addr.add_mid, Nat.zero_add]; exact hnews j u hu) h1
  have grow : ∀ (base : Option Addr) (sCap : Nat), (Builtin.firstCells i.size cs.length (.slice base cs.length sCap)).run P w.drew = .ok cs.toArray w.drew → sCap < cs.length + news.length →
      ∃ v' w', (Builtin.append_ #[t, t] ty #[.slice base cs.length sCap, .slice (some ⟨g, 0, none⟩) news.length c]).run P w = .ok v' w' ∧ Arr B w' v' (cs ++ news) ∧ Below B w w' := by
    intro base sCap hold hg
    have hfit : Builtin.nextslicecap (cs.length + news.length) sCap * i.bytes ≤ 281474976710656 := growslice_fits hg (by
      rw [hby]
      exact hb)
    have hr := run_append_grow_src (P := P) w t t ty e i z ht hi hz base cs.length sCap cs hold (.slice (some ⟨g, 0, none⟩) news.length c) news.length news hsrc hg (by omega) hfit
    have hge := grownCap_ge w (cs.length + news.length) sCap e
    have hcm : grownCap w (cs.length + news.length) sCap e ≤ maxLen := grownCap_le_maxLen w _ sCap e (by unfold maxLen; omega)
    refine ⟨_, _, hr, ?_, ?_⟩
    · have := arr_new (B := B) (w := w.drew) (e := e) (cs := cs ++ news) (cap := grownCap w (cs.length + news.length) sCap e) (xs := (cs ++ news).toArray ++ Builtin.zeroCells z.cells (grownCap w (cs.length + news.length) sCap e - (cs.length + news.length))) (fr := (0, 0)) hB
        (by rw [List.length_append]; exact hge) hcm (by rw [Array.size_append, List.size_toArray, List.length_append, size_zeroCells, hz1]; omega) (.inl rfl) (fun j u hu => by
          rw [Array.getElem?_append, if_pos (by rw [List.size_toArray]; exact (List.getElem?_eq_some_iff.1 hu).1)]
          simpa using hu)
      rw [List.length_append] at this
      exact this
    · exact ((Below.refl B w).drew).alloc hB _
  rcases h with ⟨rfl, rfl⟩ | ⟨b, cap, rfl, h2, h3, h4, h5, h6, h7⟩
  · exact grow none 0 (by simpa using run_firstCells_none w.drew i.size 0 0 0) (by omega)
  · by_cases hroom : cs.length + news.length ≤ cap
    · have hr := run_append_room_src (P := P) w t t ty e i ht hi b 0 cs.length cap _ news.length news hsrc hroom
        (fun j hj => by rw [hsz, Nat.zero_add, Nat.mul_one]; exact (h6 _ (by omega)).1) (fun j hj => by rw [hsz, Nat.zero_add, Nat.mul_one]; exact (h6 _ (by omega)).2)
      rw [hsz, Nat.zero_add, Nat.mul_one] at hr
      refine ⟨_, _, hr, .inr ⟨b, cap, by rw [List.length_append], h2, ?_, by rw [List.length_append]; exact hroom, h5, fun j hj => ?_, fun j u hu => ?_⟩, ?_⟩
      · have : ∀ (vs : List Value) (o : Nat) (x : World), (x.setCells b o vs).heap.size = x.heap.size := fun vs => by
          induction vs with
          | nil => intros; rfl
          | cons a r ih => intro o x; rw [World.setCells, ih]; simp [World.setCell]
        rw [this]; exact h3
      · exact ⟨World.isSome_setCells b news cs.length w _ (h6 j hj).1, by rw [World.frozen?_setCells]; exact (h6 j hj).2⟩
      · have hjl : j < (cs ++ news).length := (List.getElem?_eq_some_iff.1 hu).1
        rw [List.length_append] at hjl
        by_cases e1 : j < cs.length
        · rw [List.getElem?_append_left e1] at hu
          rw [World.cell?_setCells_out b news cs.length w ⟨b, j, none⟩ (fun _ _ => .inl e1)]
          exact h7 j u hu
        · rw [List.getElem?_append_right (by omega)] at hu
          have hin := World.cell?_setCells_in b news cs.length w (fun i hi => (h6 _ (by omega)).1) (j - cs.length) (by omega)
          rw [show cs.length + (j - cs.length) = j by omega] at hin
          rw [hin, ← hu, List.getElem?_eq_getElem (by omega)]
      · have : ∀ (vs : List Value) (o : Nat) (x : World), Below B w x → Below B w (x.setCells b o vs) := fun vs => by
          induction vs with
          | nil => intro o x hx; exact hx
          | cons a r ih => intro o x hx; exact ih (o + 1) _ (hx.setCell (p := ⟨b, o, none⟩) h2 a)
        exact this news cs.length w (Below.refl B w)
    · exact grow (some ⟨b, 0, none⟩) cap (run_firstCells_some w.drew i.size cs.length ⟨b, 0, none⟩ cs.length cap cs (by rw [hsz]; omega) (fun j u hu => by rw [Addr.add_mid, Nat.zero_add]; exact h7 j u hu)) (by omega)

theorem wp_append_arr_w {w : World} {o : Oper} {a : Act} {K : Act → World → Prop} {Q : Exit → Act → World → Prop} (s x : Operand) (t : TypeId)
    (ho : o.op = .call { callee := .builtin .append, args := #[s, x], argTypes := #[t, t] }) (e : TypeId) (z : Value) (bytes : Nat) (ht : P.underlying t = some (.slice e)) (hinfo : (P.info? e).map (fun i => (i.zero, i.size, i.bytes)) = some (some z, 1, bytes)) (hz1 : z.cells.size = 1)
    (B : Nat) (v : Value) (cs news : List Value) (hs : a.eval s = v) (h : Arr B w v cs) (g m c : Nat) (hx : a.eval x = .slice (some ⟨g, 0, none⟩) m c) (hm : m = news.length) (hnews : ∀ j u, news[j]? = some u → w.cell? ⟨g, j, none⟩ = some u) (h1 : ∀ u ∈ news, u.oneCell' = true) (hn : 0 < news.length)
    (hB : B ≤ w.heap.size) (hl : cs.length + news.length ≤ 140737488355328) (hb : (cs.length + news.length) * bytes ≤ 140737488355328)
    (hK : ∀ v' w', Arr B w' v' (cs ++ news) → Below B w w' → K (a.put o.dst v') w') : o.wp P a w K Q := by
  subst hm
  obtain ⟨v', w', hr, h2, h3⟩ := run_append_arr_w (P := P) t o.type e z bytes ht hinfo hz1 h g c hnews h1 hn hB hl hb
  unfold Oper.wp execOp
  simp only [ho, resolve, invoke, builtin, Sem.run_bind, Sem.run_pure, Result.andThen_ok, List.map_toArray, List.map_cons, List.map_nil, hs, hx, hr]
  exact hK v' w' h2 h3

theorem step_append_arr_w {w : World} {ops : Array Oper} {o : Oper} {a : Act} {K : Act → World → Prop} {Q : Exit → Act → World → Prop} {E : Prop} (hgd : o.guard = none) (s x : Operand) (t : TypeId)
    (ho : o.op = .call { callee := .builtin .append, args := #[s, x], argTypes := #[t, t] }) (e : TypeId) (z : Value) (bytes : Nat) (ht : P.underlying t = some (.slice e)) (hinfo : (P.info? e).map (fun i => (i.zero, i.size, i.bytes)) = some (some z, 1, bytes)) (hz1 : z.cells.size = 1)
    (B : Nat) (v : Value) (cs news : List Value) (hs : a.eval s = v) (h : Arr B w v cs) (g m c : Nat) (hx : a.eval x = .slice (some ⟨g, 0, none⟩) m c) (hm : m = news.length) (hnews : ∀ j u, news[j]? = some u → w.cell? ⟨g, j, none⟩ = some u) (h1 : ∀ u ∈ news, u.oneCell' = true) (hn : 0 < news.length)
    (hB : B ≤ w.heap.size) (hl : cs.length + news.length ≤ 140737488355328) (hb : (cs.length + news.length) * bytes ≤ 140737488355328)
    (hK : ∀ v' w', Arr B w' v' (cs ++ news) → Below B w w' → K (a.put o.dst v') w') :
    if Region.wanted o (yielded ops a.tmps) = true then Oper.wp P o a w K Q else E := by
  have hw : Region.wanted o (yielded ops a.tmps) = true := by simp [Region.wanted, hgd]
  rw [if_pos hw]
  exact wp_append_arr_w s x t ho e z bytes ht hinfo hz1 B v cs news hs h g m c hx hm hnews h1 hn hB hl hb hK

end
end Go.Proofs.YtgjcblginkdinaaGreatDoor
set_option linter.unusedVariables false
namespace Go.Proofs.YtgjcblginkdinaaGreatDoor
open Go.ChangeShapes Go.WideShapes Go.ChangeAt Go.RowKit

attribute [local go_sem] bv_u8

theorem rep_succ (r : List UInt8) (j : Nat) : r ++ [128] ++ List.replicate j 0 ++ [0] = r ++ [128] ++ List.replicate (j + 1) 0 := by
  rw [List.replicate_succ', ← List.append_assoc]

def lenOf (v : Value) : Nat := match v with | .slice _ n _ => n | _ => 0

set_option maxHeartbeats 2000000 in
set_option maxRecDepth 100000 in
theorem ending_any (r : ByteArray) (n : Nat) (w : World) (hr : r.size ≤ 1000000) (hn : n ≤ 1000000) :
    Calls Tryz.prog 112 #[.string r, .int .i64 (n : Int)] w fun e w' => e = .returned (.string ⟨(endL r.data.toList n).toArray⟩) ∧ Below w.heap.size w w' := by
  have hl : r.data.toList.length = r.size := Array.length_toList
  obtain ⟨v0, w1, hrun, harr, hb1⟩ := arr_bytes (B := w.heap.size) (P := Tryz.prog) w 9 101 5 r Tryz.underlying9 Tryz.underlying101 Tryz.underlying5 (Nat.le_refl _) (by omega)
  obtain ⟨L, hL⟩ : ∃ L, L = r.data.toList := ⟨_, rfl⟩
  rw [← hL] at hl harr ⊢
  have HA := Lib.hid harr
  have HB := Lib.hid hb1
  have HL := Lib.hid hL
  have HLL := Lib.hid hl
  have hsz1 := hb1.size
  clear harr hb1 hL hl
  go_enter Tryz.func112, Tryz.ntmps112
  go_wp2_with (at_builtin; refine wpList_append_arr rfl _ _ 101 rfl 5 (.int .u8 0) 1 Tryz.underlying101 Tryz.infoByte rfl w.heap.size v0 (bys L) [.int .u8 128] rfl (HA.out.alloc _) _ _ _ rfl rfl news_new (by decide) (by decide) (by rw [sizeAl]; omega) (by rw [bys_len, HLL.out]; show _ + 1 ≤ _; omega) (by decide) ?_; rintro v2 w2 harr2 hb2)
  have HA2 : Hid (Arr w.heap.size w2 v2 (bys (L ++ [128] ++ List.replicate 0 0))) := Lib.hid (by rw [List.replicate_zero, List.append_nil, bys_app]; exact harr2)
  have HB2 : Hid (Below w.heap.size w w2) := Lib.hid ((HB.out.alloc hsz1 _).trans hb2)
  clear harr2 hb2
  go_loopw [5] (fun v wr => ∃ j : Nat, j ≤ zeros L.length ∧ Arr w.heap.size wr v (bys (L ++ [128] ++ List.replicate j 0)) ∧ Below w.heap.size w wr) (fun v _ => 2000000 - lenOf v)
  case atStart => exact ⟨0, Nat.zero_le _, HA2.out, HB2.out⟩
  case round =>
    obtain ⟨j, hj, harr, hbel⟩ := hrel
    have hz := zeros_lt L.length
    have hll := HLL.out
    obtain ⟨a, c, rfl⟩ := harr.form
    have hN : (bys (L ++ [128] ++ List.replicate j 0)).length = L.length + 1 + j := by simp [bys_len]; omega
    obtain ⟨N, hNe⟩ : ∃ N, N = (bys (L ++ [128] ++ List.replicate j 0)).length := ⟨_, rfl⟩
    rw [← hNe] at hN
    have HA3 := Lib.hid harr
    rw [← hNe] at HA3
    rw [← hNe]
    have HB3 := Lib.hid hbel
    have hsz3 := hbel.size
    have HNe := Lib.hid hNe
    have HJ := Lib.hid hj
    have HN := Lib.hid hN
    clear harr hbel hNe
    by_cases h56 : N % 64 = 56
    · have t1 : (((N : Int) % 64) == 56) = true := by rw [beq_iff_eq]; omega
      have t2 : (N : Int) % 64 = 56 := by omega
      have hje : j = zeros L.length := zeros_le (by rw [← hN]; exact h56) hj
      have HJE := Lib.hid hje
      have HH := Lib.hid h56
      clear hje h56 hj hN hz
      go_wp2
      have HA6 : Hid (Arr w.heap.size wr (.slice a N c) (bys (L ++ [128] ++ List.replicate (zeros L.length) 0 ++ bitsB n 0))) := Lib.hid (by
        rw [← HJE.out]
        show Arr _ _ _ (bys (_ ++ []))
        rw [List.append_nil]
        exact HA3.out)
      clear t1 t2
      go_loopw [5, 7] (fun v sv wr => ∃ i : Nat, i ≤ 8 ∧ sv = .int .i64 (56 - 8 * (i : Int)) ∧ Arr w.heap.size wr v (bys (L ++ [128] ++ List.replicate (zeros L.length) 0 ++ bitsB n i)) ∧ Below w.heap.size w wr) (fun _ sv _ => (intOf sv + 8).toNat)
      case atStart => exact ⟨0, by omega, rfl, HA6.out, HB3.out⟩
      case round =>
        obtain ⟨i, hi, rfl, harr, hbel⟩ := hrel
        obtain ⟨a6, c6, h6⟩ := harr.form
        obtain ⟨N6, hN6⟩ : ∃ N, N = (bys (L ++ [128] ++ List.replicate (zeros L.length) 0 ++ bitsB n i)).length := ⟨_, rfl⟩
        rw [← hN6] at h6
        subst h6
        have hN6' : N6 ≤ 1000200 := by
          rw [hN6, bys_len]
          have e1 := zeros_lt L.length
          have e2 := HLL.out
          simp [bitsB_len]; omega
        have HA7 := Lib.hid harr
        have HB7 := Lib.hid hbel
        have hsz7 := hbel.size
        have HN6 := Lib.hid hN6
        have HI := Lib.hid hi
        clear harr hbel hN6
        by_cases hlt : i < 8
        · obtain ⟨sh, hsh⟩ : ∃ sh : Nat, sh = 56 - 8 * i := ⟨_, rfl⟩
          have hsh' : (56 : Int) - 8 * (i : Int) = (sh : Int) := by omega
          have hs56 : (sh : Int) ≤ 56 := by omega
          obtain ⟨b, hb⟩ : ∃ b, b = UInt8.ofNat (n * 8 % 18446744073709551616 / 2 ^ (56 - 8 * i)) := ⟨_, rfl⟩
          have hval : IntKind.u8.wrap ((n : Int) * 8 / 2 ^ sh) = bv b := by
            rw [hb, ← hsh, IntKind.wrap_u8', bv, UInt8.toNat_ofNat', Nat.mod_eq_of_lt (by omega : n * 8 < 18446744073709551616)]
            rw [Int.natCast_emod, Int.natCast_ediv, Int.natCast_mul, Int.natCast_pow]
            rfl
          have HS := Lib.hid hsh
          have HBb := Lib.hid hb
          rw [hsh']
          have HSH := Lib.hid hsh'
          clear hsh hb hi hsh'
          go_wp2_with (at_builtin; refine wpList_append_arr rfl _ _ 101 rfl 5 (.int .u8 0) 1 Tryz.underlying101 Tryz.infoByte rfl w.heap.size _ _ [.int .u8 (bv b)] rfl (HA7.out.alloc _) _ _ _ rfl rfl news_new one1 (Nat.zero_lt_succ _) (by rw [sizeAl]; omega) (by rw [← HN6.out]; show _ + 1 ≤ _; omega) (by decide) ?_; rintro v8 w8 harr8 hb8)
          have harr9 : Arr w.heap.size w8 v8 (bys (L ++ [128] ++ List.replicate (zeros L.length) 0 ++ bitsB n (i + 1))) := by
            rw [bitsB_succ, ← List.append_assoc, bys_app, ← HBb.out]
            exact harr8
          refine ⟨⟨i + 1, by omega, by have := HSH.out; go_num, harr9, (HB7.out.alloc hsz7 _).trans hb8⟩, ?_⟩
          simp [intOf]; omega
        · have hie : i = 8 := by omega
          subst hie
          have hst := arr_string (P := Tryz.prog) HA7.out 101 9 5 Tryz.underlying101 Tryz.underlying5 Tryz.underlying9
          go_wp2
          go_ret
          refine ⟨?_, HB7.out⟩
          rw [endL, HLL.out]
          show Ending.returned (Value.string _) = Ending.returned (Value.string _)
          simp
    · have t1 : (((N : Int) % 64) == 56) = false := by rw [beq_eq_false_iff_ne]; omega
      have t2 : ¬ (N : Int) % 64 = 56 := by omega
      have hjl : j < zeros L.length := by
        rcases Nat.lt_or_ge j (zeros L.length) with h | h
        · exact h
        · exfalso
          have e : j = zeros L.length := by omega
          have := zeros_mod L.length
          rw [hN, e] at h56
          exact h56 this
      have HJL := Lib.hid hjl
      have HH := Lib.hid h56
      clear h56 hjl hj hN hz
      go_wp2_with (at_builtin; refine wpList_append_arr rfl _ _ 101 rfl 5 (.int .u8 0) 1 Tryz.underlying101 Tryz.infoByte rfl w.heap.size _ _ [.int .u8 0] rfl (HA3.out.alloc _) _ _ _ rfl rfl news_new (by decide) (by decide) (by rw [sizeAl]; omega) (by have e1 := HNe.out; have e2 := HN.out; have e3 := zeros_lt L.length; have e4 := HJL.out; rw [← e1]; show _ + 1 ≤ _; omega) (by decide) ?_; rintro v4 w4 harr4 hb4)
      have harr5 : Arr w.heap.size w4 v4 (bys (L ++ [128] ++ List.replicate (j + 1) 0)) := by
        rw [← rep_succ, bys_app]
        exact harr4
      obtain ⟨a5, c5, h5⟩ := harr5.form
      refine ⟨⟨j + 1, HJL.out, harr5, (HB3.out.alloc hsz3 _).trans hb4⟩, ?_⟩
      rw [h5]
      show 2000000 - (bys (L ++ [128] ++ List.replicate (j + 1) 0)).length < 2000000 - N
      have e3 := zeros_lt L.length
      have e4 := HJL.out
      have e5 := HN.out
      have e6 : (bys (L ++ [128] ++ List.replicate (j + 1) 0)).length = L.length + 1 + (j + 1) := by simp [bys_len]; omega
      omega
end Go.Proofs.YtgjcblginkdinaaGreatDoor
