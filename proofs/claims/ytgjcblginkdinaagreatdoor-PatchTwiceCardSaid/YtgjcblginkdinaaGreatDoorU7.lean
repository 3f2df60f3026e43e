/- Plain mathematics of the digest: numbers of 32 bits and how a block of 64 bytes is mixed in. No program is named here. The contracts of the functions that turn a number of 32 bits: the program's. The contract of the document's turn. -/
import Derived.Test.YtgjcblginkdinaaGreatDoorRows
import Derived.Laws.BitsAllLaws
import Derived.Test.YtgjcblginkdinaaGreatDoorU0
set_option linter.unusedVariables false
namespace Go.Proofs.YtgjcblginkdinaaGreatDoor

abbrev Wd := BitVec 32

def rotr (x : Wd) (n : Nat) : Wd := x <<< (32 - n) ||| x >>> n
def ls0 (x : Wd) : Wd := rotr x 7 ^^^ rotr x 18 ^^^ x >>> 3
def ls1 (x : Wd) : Wd := rotr x 17 ^^^ rotr x 19 ^^^ x >>> 10
def bs0 (x : Wd) : Wd := rotr x 2 ^^^ rotr x 13 ^^^ rotr x 22
def bs1 (x : Wd) : Wd := rotr x 6 ^^^ rotr x 11 ^^^ rotr x 25
def chw (e f g : Wd) : Wd := e &&& f ||| g &&& ~~~e
def mjw (a b c : Wd) : Wd := a &&& b ||| a &&& c ||| b &&& c

structure St where
  a : Wd
  b : Wd
  c : Wd
  d : Wd
  e : Wd
  f : Wd
  g : Wd
  h : Wd

def tOne (s : St) (k w : Wd) : Wd := s.h + bs1 s.e + chw s.e s.f s.g + k + w
def tTwo (s : St) : Wd := bs0 s.a + mjw s.a s.b s.c
def rnd (s : St) (k w : Wd) : St := ⟨tOne s k w + tTwo s, s.a, s.b, s.c, s.d + tOne s k w, s.e, s.f, s.g⟩
def runs (K W : List Wd) (s : St) : Nat → St
  | 0 => s
  | t + 1 => rnd (runs K W s t) (K.getD t 0) (W.getD t 0)
def addS (s t : St) : St := ⟨s.a + t.a, s.b + t.b, s.c + t.c, s.d + t.d, s.e + t.e, s.f + t.f, s.g + t.g, s.h + t.h⟩

def wd4 (a b c d : UInt8) : Wd := BitVec.ofNat 32 a.toNat <<< 24 ||| BitVec.ofNat 32 b.toNat <<< 16 ||| BitVec.ofNat 32 c.toNat <<< 8 ||| BitVec.ofNat 32 d.toNat
def wdAt (s : List UInt8) (t : Nat) : Wd := wd4 (s.getD (4 * t) 0) (s.getD (4 * t + 1) 0) (s.getD (4 * t + 2) 0) (s.getD (4 * t + 3) 0)

def nextW (s : List UInt8) (l : List Wd) (t : Nat) : Wd :=
  if t < 16 then wdAt s t else l.getD (t - 16) 0 + ls0 (l.getD (t - 15) 0) + l.getD (t - 7) 0 + ls1 (l.getD (t - 2) 0)
def sch (s : List UInt8) : Nat → List Wd
  | 0 => []
  | t + 1 => sch s t ++ [nextW s (sch s t) t]

theorem sch_len (s : List UInt8) : ∀ t, (sch s t).length = t
  | 0 => rfl
  | t + 1 => by rw [sch, List.length_append, sch_len s t]; rfl

theorem sch_getD (s : List UInt8) (t j : Nat) : (sch s (t + 1)).getD j 0 = if j = t then nextW s (sch s t) t else (sch s t).getD j 0 := by
  rw [sch, List.getD_eq_getElem?_getD, List.getD_eq_getElem?_getD]
  have hl := sch_len s t
  by_cases h : j = t
  · rw [if_pos h, h, List.getElem?_append_right (by omega), hl]; simp
  · rw [if_neg h]
    by_cases h2 : j < t
    · rw [List.getElem?_append_left (by omega)]
    · rw [List.getElem?_eq_none (by simp [hl]; omega), List.getElem?_eq_none (by omega)]

def mixB (K : List Wd) (h : St) (s : List UInt8) : St := addS h (runs K (sch s 64) h 64)
def mixL (K : List Wd) : Nat → St → List UInt8 → St
  | 0, h, _ => h
  | n + 1, h, s => mixL K n (mixB K h (s.take 64)) (s.drop 64)

theorem mixL_add (K : List Wd) : ∀ (m n : Nat) (h : St) (a b : List UInt8), a.length = 64 * m → mixL K (m + n) h (a ++ b) = mixL K n (mixL K m h a) b
  | 0, n, h, a, b, e => by
    have : a = [] := List.length_eq_zero_iff.1 (by omega)
    subst this
    simp [mixL]
  | m + 1, n, h, a, b, e => by
    rw [show m + 1 + n = (m + n) + 1 by omega, mixL, mixL]
    have h1 : (a ++ b).take 64 = a.take 64 := by rw [List.take_append_of_le_length (by omega)]
    have h2 : (a ++ b).drop 64 = a.drop 64 ++ b := by rw [List.drop_append_of_le_length (by omega)]
    rw [h1, h2]
    exact mixL_add K m n _ _ b (by rw [List.length_drop]; omega)

theorem mixL_take (K : List Wd) : ∀ (m : Nat) (h : St) (a : List UInt8), 64 * m ≤ a.length → mixL K m h a = mixL K m h (a.take (64 * m))
  | m, h, a, e => by
    have := mixL_add K m 0 h (a.take (64 * m)) (a.drop (64 * m)) (by rw [List.length_take]; omega)
    rw [List.take_append_drop] at this
    simpa [mixL] using this

def zeros (n : Nat) : Nat := (119 - n % 64) % 64
theorem zeros_mod (n : Nat) : (n + 1 + zeros n) % 64 = 56 := by unfold zeros; omega
theorem zeros_lt (n : Nat) : zeros n < 64 := by unfold zeros; omega
theorem zeros_le {n j : Nat} (h : (n + 1 + j) % 64 = 56) (hj : j ≤ zeros n) : j = zeros n := by unfold zeros at *; omega

def bitsB (n : Nat) (j : Nat) : List UInt8 := (List.range j).map fun i => UInt8.ofNat (n * 8 % 18446744073709551616 / 2 ^ (56 - 8 * i))
theorem bitsB_succ (n j : Nat) : bitsB n (j + 1) = bitsB n j ++ [UInt8.ofNat (n * 8 % 18446744073709551616 / 2 ^ (56 - 8 * j))] := by
  simp [bitsB, List.range_succ]
theorem bitsB_len (n j : Nat) : (bitsB n j).length = j := by simp [bitsB]

def endL (r : List UInt8) (n : Nat) : List UInt8 := r ++ [128] ++ List.replicate (zeros r.length) 0 ++ bitsB n 8
def lowB (x : Wd) : UInt8 := UInt8.ofNat x.toNat
def wdB (x : Wd) : List UInt8 := [lowB (x >>> 24), lowB (x >>> 16), lowB (x >>> 8), lowB x]
def stW (s : St) : List Wd := [s.a, s.b, s.c, s.d, s.e, s.f, s.g, s.h]
def outW (l : List Wd) : List UInt8 := l.flatMap wdB
theorem outW_len (l : List Wd) : (outW l).length = 4 * l.length := by
  induction l with
  | nil => rfl
  | cons x l ih => rw [outW, List.flatMap_cons, List.length_append, ← outW, ih]; simp [wdB]; omega

def shaR (K : List Wd) (H : St) (s : List UInt8) : List UInt8 :=
  outW (stW (mixL K ((endL s s.length).length / 64) H (endL s s.length)))
def shaP (K : List Wd) (H : St) (s : List UInt8) : List UInt8 :=
  outW (stW (mixL K ((endL (s.drop (s.length - s.length % 64)) s.length).length / 64) (mixL K (s.length / 64) H s) (endL (s.drop (s.length - s.length % 64)) s.length)))

theorem zeros_rest (n : Nat) : zeros (n % 64) = zeros n := by unfold zeros; omega

theorem sha_same (K : List Wd) (H : St) (s : List UInt8) : shaP K H s = shaR K H s := by
  unfold shaP shaR
  have hk : s.length - s.length % 64 = 64 * (s.length / 64) := by omega
  have hl : (s.drop (s.length - s.length % 64)).length = s.length % 64 := by rw [List.length_drop]; omega
  have he : endL s s.length = s.take (64 * (s.length / 64)) ++ endL (s.drop (s.length - s.length % 64)) s.length := by
    unfold endL
    rw [hl, zeros_rest, hk, ← List.append_assoc, ← List.append_assoc, ← List.append_assoc, List.take_append_drop]
  have ht : (s.take (64 * (s.length / 64))).length = 64 * (s.length / 64) := by rw [List.length_take]; omega
  have hn : (endL s s.length).length / 64 = s.length / 64 + (endL (s.drop (s.length - s.length % 64)) s.length).length / 64 := by
    rw [he, List.length_append, ht]; omega
  rw [hn]
  rw [he, mixL_add K _ _ H _ _ ht, ← mixL_take K _ H s (by omega)]

theorem shaR_len (K : List Wd) (H : St) (s : List UInt8) : (shaR K H s).length = 32 := by
  unfold shaR; rw [outW_len]; rfl

def nv (x : Wd) : Int := (x.toNat : Int)
theorem wd_add (x y : Wd) : IntKind.u32.wrap (nv x + nv y) = nv (x + y) := by
  unfold nv
  rw [IntKind.wrap_u32', BitVec.toNat_add]
  have : (2 : Nat) ^ 32 = 4294967296 := rfl
  rw [this]; omega
theorem wd_mod2 (x y : Wd) : (nv x + nv y) % (4294967296 : Int) = nv (x + y) := by rw [← wd_add, IntKind.wrap_u32']
theorem wd_mod3 (x y z : Wd) : (nv x + nv y + nv z) % (4294967296 : Int) = nv (x + y + z) := by rw [← wd_mod2, ← wd_mod2]; omega
theorem wd_add4 (x y z v : Wd) : (nv x + nv y + nv z + nv v) % (4294967296 : Int) = nv (x + y + z + v) := by rw [← wd_mod2, ← wd_mod3]; omega
theorem wd_xor (x y : Wd) : bits .xor .u32 (nv x) (nv y) = nv (x ^^^ y) := by
  unfold nv
  rw [u32_xor_nat _ _ x.isLt y.isLt, BitVec.toNat_xor]
theorem wd_and (x y : Wd) : bits .and .u32 (nv x) (nv y) = nv (x &&& y) := by
  unfold nv
  rw [u32_and_nat _ _ x.isLt y.isLt, BitVec.toNat_and]
theorem wd_or (x y : Wd) : bits .or .u32 (nv x) (nv y) = nv (x ||| y) := by
  unfold nv
  rw [u32_or_nat _ _ x.isLt y.isLt, BitVec.toNat_or]
theorem wd_andNot (x y : Wd) : bits .andNot .u32 (nv x) (nv y) = nv (x &&& ~~~y) := by
  unfold nv
  rw [u32_andNot_nat _ _ x.isLt y.isLt, BitVec.toNat_and, BitVec.toNat_not]
theorem wd_shr (x : Wd) (n : Nat) : nv x / (2 : Int) ^ n = nv (x >>> n) := by
  unfold nv
  rw [BitVec.toNat_ushiftRight, Nat.shiftRight_eq_div_pow]
  simp
theorem wd_shl (x : Wd) (n : Nat) : IntKind.u32.wrap (nv x * (2 : Int) ^ n) = nv (x <<< n) := by
  unfold nv
  rw [BitVec.toNat_shiftLeft, Nat.shiftLeft_eq, IntKind.wrap_u32']
  simp
theorem wd_shr3 (x : Wd) : nv x / (8 : Int) = nv (x >>> 3) := wd_shr x 3
theorem wd_shr10 (x : Wd) : nv x / (1024 : Int) = nv (x >>> 10) := wd_shr x 10
theorem wd_shr24 (x : Wd) : nv x / (16777216 : Int) = nv (x >>> 24) := wd_shr x 24
theorem wd_shr16 (x : Wd) : nv x / (65536 : Int) = nv (x >>> 16) := wd_shr x 16
theorem wd_shr8 (x : Wd) : nv x / (256 : Int) = nv (x >>> 8) := wd_shr x 8
theorem wd_shl24 (x : Wd) : IntKind.u32.wrap (nv x * (16777216 : Int)) = nv (x <<< 24) := wd_shl x 24
theorem wd_shl16 (x : Wd) : IntKind.u32.wrap (nv x * (65536 : Int)) = nv (x <<< 16) := wd_shl x 16
theorem wd_shl8 (x : Wd) : IntKind.u32.wrap (nv x * (256 : Int)) = nv (x <<< 8) := wd_shl x 8
def bv (b : UInt8) : Int := (b.toNat : Int)
theorem wd_byte (x : Wd) : IntKind.u8.wrap (nv x) = bv (lowB x) := by
  unfold nv bv lowB
  rw [IntKind.wrap_u8', UInt8.toNat_ofNat']
  have : (2 : Nat) ^ 8 = 256 := rfl
  rw [this]; omega
theorem wd_ofByte (b : UInt8) : IntKind.u32.wrap (bv b) = nv (BitVec.ofNat 32 b.toNat) := by
  unfold nv bv
  rw [IntKind.wrap_u32', BitVec.toNat_ofNat]
  have : (2 : Nat) ^ 32 = 4294967296 := rfl
  rw [this]; omega
theorem sizeAl (w : World) (o : Obj) : (w.alloc o).heap.size = w.heap.size + 1 := by
  show (w.heap.push o).size = _
  simp
theorem bv_u8 (b : UInt8) : (b.toNat : Int) = bv b := rfl
end Go.Proofs.YtgjcblginkdinaaGreatDoor
set_option linter.unusedVariables false
namespace Go.Proofs.YtgjcblginkdinaaGreatDoor
open Go.ChangeShapes Go.WideShapes Go.ChangeAt Go.RowKit

def isTurn (n : Nat) : Bool := [2, 3, 6, 7, 10, 11, 13, 17, 18, 19, 22, 25].contains n

theorem rotl_any (x : Wd) (n : Nat) (w : World) (hn : isTurn n = true) :
    Calls Tryz.prog 167 #[.int .u32 (nv x), .int .i64 (-(n : Int))] w fun e w' => e = .returned (.int .u32 (nv (rotr x n))) ∧ w' = w := by
  have hm : n = 2 ∨ n = 3 ∨ n = 6 ∨ n = 7 ∨ n = 10 ∨ n = 11 ∨ n = 13 ∨ n = 17 ∨ n = 18 ∨ n = 19 ∨ n = 22 ∨ n = 25 := by simpa [isTurn] using hn
  obtain ⟨q, hq⟩ : ∃ q : Int, bits .and .u64 (IntKind.u64.wrap (-(n : Int))) 31 = q := ⟨_, rfl⟩
  have hq' : q = 32 - n := by
    rcases hm with rfl | rfl | rfl | rfl | rfl | rfl | rfl | rfl | rfl | rfl | rfl | rfl <;> (rw [← hq]; decide)
  have h0 : 0 ≤ q := by omega
  have h32 : q ≤ 32 := by omega
  have hs : IntKind.u64.wrap (32 - q) = n := by rw [hq', IntKind.wrap_u64]; omega
  have hqn : q.toNat = 32 - n := by omega
  have hr : bits .or .u32 (IntKind.u32.wrap ((nv x) * 2 ^ (32 - n))) ((nv x) / 2 ^ n) = nv (rotr x n) := by
    rw [wd_shl, wd_shr, wd_or]; rfl
  have hn0 : (0 : Int) ≤ n := by omega
  have hn32 : (n : Int) ≤ 32 := by omega
  have HR := Lib.hid hr
  have HQ := Lib.hid hq'
  clear hr hm hn hq'
  go_enter Tryz.func167, Tryz.ntmps167
  go_wp2
  go_ret
  exact ⟨ret_int (by first | exact HR.out | simpa [hqn] using HR.out), rfl⟩

theorem turn_any (x : Wd) (n : Nat) (w : World) (hn : isTurn n = true) (h30 : n ≤ 30) :
    Calls Tryz.prog 151 #[.int .u32 (nv x), .int .i64 (n : Int)] w fun e w' => e = .returned (.int .u32 (nv (rotr x n))) ∧ w' = w := by
  have hc := rotl_any x n w hn
  have HC := Lib.hid hc
  clear hc
  go_enter Tryz.func151, Tryz.ntmps151
  go_wp2_with fail
  refine HC.out.mono ?_
  rintro e w1 ⟨rfl, rfl⟩
  go_wp2
  go_ret
  exact ⟨rfl, rfl⟩
theorem turnI (x : Wd) (n : Int) (w : World) (h0 : 0 ≤ n) (hn : isTurn n.toNat = true) (h30 : n.toNat ≤ 30) :
    Calls Tryz.prog 151 #[.int .u32 (nv x), .int .i64 n] w fun e w' => e = .returned (.int .u32 (nv (rotr x n.toNat))) ∧ w' = w := by
  have := turn_any x n.toNat w hn h30
  rwa [Int.toNat_of_nonneg h0] at this
theorem turn2 (x : Wd) (w : World) : Calls Tryz.prog 151 #[.int .u32 (nv x), .int .i64 2] w fun e w' => e = .returned (.int .u32 (nv (rotr x 2))) ∧ w' = w := turn_any x 2 w rfl (by decide)
theorem turn7 (x : Wd) (w : World) : Calls Tryz.prog 151 #[.int .u32 (nv x), .int .i64 7] w fun e w' => e = .returned (.int .u32 (nv (rotr x 7))) ∧ w' = w := turn_any x 7 w rfl (by decide)
theorem turn13 (x : Wd) (w : World) : Calls Tryz.prog 151 #[.int .u32 (nv x), .int .i64 13] w fun e w' => e = .returned (.int .u32 (nv (rotr x 13))) ∧ w' = w := turn_any x 13 w rfl (by decide)
theorem turn17 (x : Wd) (w : World) : Calls Tryz.prog 151 #[.int .u32 (nv x), .int .i64 17] w fun e w' => e = .returned (.int .u32 (nv (rotr x 17))) ∧ w' = w := turn_any x 17 w rfl (by decide)
theorem turn18 (x : Wd) (w : World) : Calls Tryz.prog 151 #[.int .u32 (nv x), .int .i64 18] w fun e w' => e = .returned (.int .u32 (nv (rotr x 18))) ∧ w' = w := turn_any x 18 w rfl (by decide)
theorem turn19 (x : Wd) (w : World) : Calls Tryz.prog 151 #[.int .u32 (nv x), .int .i64 19] w fun e w' => e = .returned (.int .u32 (nv (rotr x 19))) ∧ w' = w := turn_any x 19 w rfl (by decide)
theorem turn22 (x : Wd) (w : World) : Calls Tryz.prog 151 #[.int .u32 (nv x), .int .i64 22] w fun e w' => e = .returned (.int .u32 (nv (rotr x 22))) ∧ w' = w := turn_any x 22 w rfl (by decide)
end Go.Proofs.YtgjcblginkdinaaGreatDoor
set_option linter.unusedVariables false
namespace Go.Proofs.YtgjcblginkdinaaGreatDoor
open Go.ChangeShapes Go.WideShapes Go.ChangeAt Go.RowKit

set_option maxHeartbeats 1000000 in
theorem rturn_any (x : Wd) (n : Int) (w : World) (h1 : 1 ≤ n) (h2 : n ≤ 31) :
    Calls Tryz.prog 79 #[.int .u32 (nv x), .int .i64 n] w fun e w' => e = .returned (.int .u32 (nv (rotr x n.toNat))) ∧ ∃ q, w' = w.drewN q := by
  have hq : (32 - n).toNat = 32 - n.toNat := by omega
  have hw : IntKind.i64.wrap (32 - n) = 32 - n := by rw [IntKind.wrap_i64]; omega
  have hr : bits .or .u32 (nv x / (2 : Int) ^ n.toNat) (IntKind.u32.wrap (nv x * (2 : Int) ^ (32 - n.toNat))) = nv (rotr x n.toNat) := by
    rw [wd_shl, wd_shr, wd_or, rotr, BitVec.or_comm]
  have h0 : 0 ≤ n := by omega
  have h3 : n ≤ 32 := by omega
  have h4 : 0 ≤ 32 - n := by omega
  have h5 : 32 - n ≤ 32 := by omega
  have HR := Lib.hid hr
  clear hr
  go_enter Tryz.func79, Tryz.ntmps79
  go_wp2
  go_quiet (fail)
  go_wp2
  go_ret
  refine ⟨?_, nq, rfl⟩
  refine ret_int ?_
  first | exact HR.out | simpa [hq] using HR.out
end Go.Proofs.YtgjcblginkdinaaGreatDoor
