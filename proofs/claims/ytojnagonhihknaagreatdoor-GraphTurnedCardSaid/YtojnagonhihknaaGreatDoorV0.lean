/- Plain mathematics of the digest: numbers of 32 bits and how a block of 64 bytes is mixed in. No program is named here. Plain mathematics of digits of base 16. No program is named here. What is right as a name; a digest's beginning. -/
import Derived.Test.YtojnagonhihknaaGreatDoorRows
import Derived.Laws.BitsAllLaws
import Derived.Lib.Bytealg
import Derived.Lib.IndexBytes
set_option linter.unusedVariables false
namespace Go.Proofs.YtojnagonhihknaaGreatDoor

abbrev Wd := BitVec 32

def rotr (x : Wd) (n : Nat) : Wd := x <<< (32 - n) ||| x >>> n
def ls0 (x : Wd) : Wd := rotr x 7 ^^^ rotr x 18 ^^^ x >>> 3
def ls1 (x : Wd) : Wd := rotr x 17 ^^^ rotr x 19 ^^^ x >>> 10
def bs0 (x : Wd) : Wd := rotr x 2 ^^^ rotr x 13 ^^^ rotr x 22
def bs1 (x : Wd) : Wd := rotr x 6 ^^^ rotr x 11 ^^^ rotr x 25
def chw (e f g : Wd) : Wd := e &&& f ||| g &&& ~~~e
def mjw (a b c : Wd) : Wd := a &&& b ||| a &&& c ||| b &&& c

structure St where
  a : Wd
  b : Wd
  c : Wd
  d : Wd
  e : Wd
  f : Wd
  g : Wd
  h : Wd

def tOne (s : St) (k w : Wd) : Wd := s.h + bs1 s.e + chw s.e s.f s.g + k + w
def tTwo (s : St) : Wd := bs0 s.a + mjw s.a s.b s.c
def rnd (s : St) (k w : Wd) : St := ⟨tOne s k w + tTwo s, s.a, s.b, s.c, s.d + tOne s k w, s.e, s.f, s.g⟩
def runs (K W : List Wd) (s : St) : Nat → St
  | 0 => s
  | t + 1 => rnd (runs K W s t) (K.getD t 0) (W.getD t 0)
def addS (s t : St) : St := ⟨s.a + t.a, s.b + t.b, s.c + t.c, s.d + t.d, s.e + t.e, s.f + t.f, s.g + t.g, s.h + t.h⟩

def wd4 (a b c d : UInt8) : Wd := BitVec.ofNat 32 a.toNat <<< 24 ||| BitVec.ofNat 32 b.toNat <<< 16 ||| BitVec.ofNat 32 c.toNat <<< 8 ||| BitVec.ofNat 32 d.toNat
def wdAt (s : List UInt8) (t : Nat) : Wd := wd4 (s.getD (4 * t) 0) (s.getD (4 * t + 1) 0) (s.getD (4 * t + 2) 0) (s.getD (4 * t + 3) 0)

def nextW (s : List UInt8) (l : List Wd) (t : Nat) : Wd :=
  if t < 16 then wdAt s t else l.getD (t - 16) 0 + ls0 (l.getD (t - 15) 0) + l.getD (t - 7) 0 + ls1 (l.getD (t - 2) 0)
def sch (s : List UInt8) : Nat → List Wd
  | 0 => []
  | t + 1 => sch s t ++ [nextW s (sch s t) t]

theorem sch_len (s : List UInt8) : ∀ t, (sch s t).length = t
  | 0 => rfl
  | t + 1 => by rw [sch, List.length_append, sch_len s t]; rfl

theorem sch_getD (s : List UInt8) (t j : Nat) : (sch s (t + 1)).getD j 0 = if j = t then nextW s (sch s t) t else (sch s t).getD j 0 := by
  rw [sch, List.getD_eq_getElem?_getD, List.getD_eq_getElem?_getD]
  have hl := sch_len s t
  by_cases h : j = t
  · rw [if_pos h, h, List.getElem?_append_right (by omega), hl]; simp
  · rw [if_neg h]
    by_cases h2 : j < t
    · rw [List.getElem?_append_left (by omega)]
    · rw [List.getElem?_eq_none (by simp [hl]; omega), List.getElem?_eq_none (by omega)]

def mixB (K : List Wd) (h : St) (s : List UInt8) : St := addS h (runs K (sch s 64) h 64)
def mixL (K : List Wd) : Nat → St → List UInt8 → St
  | 0, h, _ => h
  | n + 1, h, s => mixL K n (mixB K h (s.take 64)) (s.drop 64)

theorem mixL_add (K : List Wd) : ∀ (m n : Nat) (h : St) (a b : List UInt8), a.length = 64 * m → mixL K (m + n) h (a ++ b) = mixL K n (mixL K m h a) b
  | 0, n, h, a, b, e => by
    have : a = [] := List.length_eq_zero_iff.1 (by omega)
    subst this
    simp [mixL]
  | m + 1, n, h, a, b, e => by
    rw [show m + 1 + n = (m + n) + 1 by omega, mixL, mixL]
    have h1 : (a ++ b).take 64 = a.take 64 := by rw [List.take_append_of_le_length (by omega)]
    have h2 : (a ++ b).drop 64 = a.drop 64 ++ b := by rw [List.drop_append_of_le_length (by omega)]
    rw [h1, h2]
    exact mixL_add K m n _ _ b (by rw [List.length_drop]; omega)

theorem mixL_take (K : List Wd) : ∀ (m : Nat) (h : St) (a : List UInt8), 64 * m ≤ a.length → mixL K m h a = mixL K m h (a.take (64 * m))
  | m, h, a, e => by
    have := mixL_add K m 0 h (a.take (64 * m)) (a.drop (64 * m)) (by rw [List.length_take]; omega)
    rw [List.take_append_drop] at this
    simpa [mixL] using this

def zeros (n : Nat) : Nat := (119 - n % 64) % 64
theorem zeros_mod (n : Nat) : (n + 1 + zeros n) % 64 = 56 := by unfold zeros; omega
theorem zeros_lt (n : Nat) : zeros n < 64 := by unfold zeros; omega
theorem zeros_le {n j : Nat} (h : (n + 1 + j) % 64 = 56) (hj : j ≤ zeros n) : j = zeros n := by unfold zeros at *; omega

def bitsB (n : Nat) (j : Nat) : List UInt8 := (List.range j).map fun i => UInt8.ofNat (n * 8 % 18446744073709551616 / 2 ^ (56 - 8 * i))
theorem bitsB_succ (n j : Nat) : bitsB n (j + 1) = bitsB n j ++ [UInt8.ofNat (n * 8 % 18446744073709551616 / 2 ^ (56 - 8 * j))] := by
  simp [bitsB, List.range_succ]
theorem bitsB_len (n j : Nat) : (bitsB n j).length = j := by simp [bitsB]

def endL (r : List UInt8) (n : Nat) : List UInt8 := r ++ [128] ++ List.replicate (zeros r.length) 0 ++ bitsB n 8
theorem endL_len (r : List UInt8) (n : Nat) : (endL r n).length % 64 = 0 := by
  have := zeros_mod r.length
  simp [endL, bitsB_len]; omega

def lowB (x : Wd) : UInt8 := UInt8.ofNat x.toNat
def wdB (x : Wd) : List UInt8 := [lowB (x >>> 24), lowB (x >>> 16), lowB (x >>> 8), lowB x]
def stW (s : St) : List Wd := [s.a, s.b, s.c, s.d, s.e, s.f, s.g, s.h]
def outW (l : List Wd) : List UInt8 := l.flatMap wdB
theorem outW_len (l : List Wd) : (outW l).length = 4 * l.length := by
  induction l with
  | nil => rfl
  | cons x l ih => rw [outW, List.flatMap_cons, List.length_append, ← outW, ih]; simp [wdB]; omega

def shaR (K : List Wd) (H : St) (s : List UInt8) : List UInt8 :=
  outW (stW (mixL K ((endL s s.length).length / 64) H (endL s s.length)))
def shaP (K : List Wd) (H : St) (s : List UInt8) : List UInt8 :=
  outW (stW (mixL K ((endL (s.drop (s.length - s.length % 64)) s.length).length / 64) (mixL K (s.length / 64) H s) (endL (s.drop (s.length - s.length % 64)) s.length)))

theorem zeros_rest (n : Nat) : zeros (n % 64) = zeros n := by unfold zeros; omega

theorem sha_same (K : List Wd) (H : St) (s : List UInt8) : shaP K H s = shaR K H s := by
  unfold shaP shaR
  have hk : s.length - s.length % 64 = 64 * (s.length / 64) := by omega
  have hl : (s.drop (s.length - s.length % 64)).length = s.length % 64 := by rw [List.length_drop]; omega
  have he : endL s s.length = s.take (64 * (s.length / 64)) ++ endL (s.drop (s.length - s.length % 64)) s.length := by
    unfold endL
    rw [hl, zeros_rest, hk, ← List.append_assoc, ← List.append_assoc, ← List.append_assoc, List.take_append_drop]
  have ht : (s.take (64 * (s.length / 64))).length = 64 * (s.length / 64) := by rw [List.length_take]; omega
  have hn : (endL s s.length).length / 64 = s.length / 64 + (endL (s.drop (s.length - s.length % 64)) s.length).length / 64 := by
    rw [he, List.length_append, ht]; omega
  rw [hn]
  rw [he, mixL_add K _ _ H _ _ ht, ← mixL_take K _ H s (by omega)]

theorem shaR_len (K : List Wd) (H : St) (s : List UInt8) : (shaR K H s).length = 32 := by
  unfold shaR; rw [outW_len]; rfl

def nv (x : Wd) : Int := (x.toNat : Int)
theorem wd_add (x y : Wd) : IntKind.u32.wrap (nv x + nv y) = nv (x + y) := by
  unfold nv
  rw [IntKind.wrap_u32', BitVec.toNat_add]
  have : (2 : Nat) ^ 32 = 4294967296 := rfl
  rw [this]; omega
theorem wd_mod2 (x y : Wd) : (nv x + nv y) % (4294967296 : Int) = nv (x + y) := by rw [← wd_add, IntKind.wrap_u32']
theorem wd_mod3 (x y z : Wd) : (nv x + nv y + nv z) % (4294967296 : Int) = nv (x + y + z) := by rw [← wd_mod2, ← wd_mod2]; omega
theorem wd_add4 (x y z v : Wd) : (nv x + nv y + nv z + nv v) % (4294967296 : Int) = nv (x + y + z + v) := by rw [← wd_mod2, ← wd_mod3]; omega
theorem wd_xor (x y : Wd) : bits .xor .u32 (nv x) (nv y) = nv (x ^^^ y) := by
  unfold nv
  rw [u32_xor_nat _ _ x.isLt y.isLt, BitVec.toNat_xor]
theorem wd_and (x y : Wd) : bits .and .u32 (nv x) (nv y) = nv (x &&& y) := by
  unfold nv
  rw [u32_and_nat _ _ x.isLt y.isLt, BitVec.toNat_and]
theorem wd_or (x y : Wd) : bits .or .u32 (nv x) (nv y) = nv (x ||| y) := by
  unfold nv
  rw [u32_or_nat _ _ x.isLt y.isLt, BitVec.toNat_or]
theorem wd_andNot (x y : Wd) : bits .andNot .u32 (nv x) (nv y) = nv (x &&& ~~~y) := by
  unfold nv
  rw [u32_andNot_nat _ _ x.isLt y.isLt, BitVec.toNat_and, BitVec.toNat_not]
theorem wd_shr (x : Wd) (n : Nat) : nv x / (2 : Int) ^ n = nv (x >>> n) := by
  unfold nv
  rw [BitVec.toNat_ushiftRight, Nat.shiftRight_eq_div_pow]
  simp
theorem wd_shl (x : Wd) (n : Nat) : IntKind.u32.wrap (nv x * (2 : Int) ^ n) = nv (x <<< n) := by
  unfold nv
  rw [BitVec.toNat_shiftLeft, Nat.shiftLeft_eq, IntKind.wrap_u32']
  simp
theorem wd_shr3 (x : Wd) : nv x / (8 : Int) = nv (x >>> 3) := wd_shr x 3
theorem wd_shr10 (x : Wd) : nv x / (1024 : Int) = nv (x >>> 10) := wd_shr x 10
theorem wd_shr24 (x : Wd) : nv x / (16777216 : Int) = nv (x >>> 24) := wd_shr x 24
theorem wd_shr16 (x : Wd) : nv x / (65536 : Int) = nv (x >>> 16) := wd_shr x 16
theorem wd_shr8 (x : Wd) : nv x / (256 : Int) = nv (x >>> 8) := wd_shr x 8
theorem wd_shl24 (x : Wd) : IntKind.u32.wrap (nv x * (16777216 : Int)) = nv (x <<< 24) := wd_shl x 24
theorem wd_shl16 (x : Wd) : IntKind.u32.wrap (nv x * (65536 : Int)) = nv (x <<< 16) := wd_shl x 16
theorem wd_shl8 (x : Wd) : IntKind.u32.wrap (nv x * (256 : Int)) = nv (x <<< 8) := wd_shl x 8
def bv (b : UInt8) : Int := (b.toNat : Int)
theorem wd_byte (x : Wd) : IntKind.u8.wrap (nv x) = bv (lowB x) := by
  unfold nv bv lowB
  rw [IntKind.wrap_u8', UInt8.toNat_ofNat']
  have : (2 : Nat) ^ 8 = 256 := rfl
  rw [this]; omega
theorem wd_ofByte (b : UInt8) : IntKind.u32.wrap (bv b) = nv (BitVec.ofNat 32 b.toNat) := by
  unfold nv bv
  rw [IntKind.wrap_u32', BitVec.toNat_ofNat]
  have : (2 : Nat) ^ 32 = 4294967296 := rfl
  rw [this]; omega
theorem sizeAl (w : World) (o : Obj) : (w.alloc o).heap.size = w.heap.size + 1 := by
  show (w.heap.push o).size = _
  simp
theorem bv_u8 (b : UInt8) : (b.toNat : Int) = bv b := rfl
end Go.Proofs.YtojnagonhihknaaGreatDoor
set_option linter.unusedVariables false
namespace Go.Proofs.YtojnagonhihknaaGreatDoor

def digL : List UInt8 := [48, 49, 50, 51, 52, 53, 54, 55, 56, 57, 97, 98, 99, 100, 101, 102]
def dg (n : Nat) : UInt8 := digL.getD n 0
def dv (c : UInt8) : Int := Lib.indexByte digL c
def hexL (l : List UInt8) : List UInt8 := l.flatMap fun b => [dg (b.toNat / 16), dg (b.toNat % 16)]
def pairB (a b : UInt8) : UInt8 := UInt8.ofNat (dv a * 16 + dv b).toNat
def rawL : List UInt8 → Option (List UInt8)
  | [] => some []
  | [_] => none
  | a :: b :: r => if dv a < 0 ∨ dv b < 0 then none else (rawL r).map (pairB a b :: ·)

theorem dv_dg : ∀ n, n < 16 → dv (dg n) = n := by decide
theorem dv_ge (c : UInt8) : -1 ≤ dv c := Lib.indexByte_ge _ _
set_option maxRecDepth 100000 in
theorem dv_all : ∀ n, n < 256 → dv (UInt8.ofNat n) < 16 ∧ dv (UInt8.ofNat n) = if 48 ≤ n ∧ n ≤ 57 then (n : Int) - 48 else if 97 ≤ n ∧ n ≤ 102 then (n : Int) - 87 else -1 := by decide
theorem dv_lt (c : UInt8) : dv c < 16 := by
  have := (dv_all c.toNat (UInt8.toNat_lt c)).1
  rwa [UInt8.ofNat_toNat] at this
theorem dv_eq (c : UInt8) : dv c = if 48 ≤ c.toNat ∧ c.toNat ≤ 57 then (c.toNat : Int) - 48 else if 97 ≤ c.toNat ∧ c.toNat ≤ 102 then (c.toNat : Int) - 87 else -1 := by
  have := (dv_all c.toNat (UInt8.toNat_lt c)).2
  rwa [UInt8.ofNat_toNat] at this

theorem hexL_len (l : List UInt8) : (hexL l).length = 2 * l.length := by
  induction l with
  | nil => rfl
  | cons b l ih => rw [hexL, List.flatMap_cons, List.length_append, ← hexL, ih]; simp; omega

theorem pair_dg (b : UInt8) : pairB (dg (b.toNat / 16)) (dg (b.toNat % 16)) = b := by
  have hb := UInt8.toNat_lt b
  rw [pairB, dv_dg _ (by omega), dv_dg _ (by omega)]
  have : ((b.toNat / 16 : Nat) : Int) * 16 + ((b.toNat % 16 : Nat) : Int) = (b.toNat : Int) := by omega
  rw [this, Int.toNat_natCast, UInt8.ofNat_toNat]

theorem raw_hex (l : List UInt8) : rawL (hexL l) = some l := by
  induction l with
  | nil => rfl
  | cons b l ih =>
    have hb := UInt8.toNat_lt b
    rw [hexL, List.flatMap_cons, ← hexL]
    show rawL (dg (b.toNat / 16) :: dg (b.toNat % 16) :: hexL l) = _
    rw [rawL, if_neg (by rw [dv_dg _ (by omega), dv_dg _ (by omega)]; omega), ih, pair_dg]; rfl

theorem raw_odd : ∀ (n : Nat) (l : List UInt8), l.length = 2 * n + 1 → rawL l = none
  | 0, [a], _ => rfl
  | n + 1, a :: b :: r, h => by
    rw [rawL, raw_odd n r (by simp at h; omega)]
    split <;> rfl
  | 0, [], h => by simp at h
  | 0, _ :: _ :: _, h => by simp at h
  | _ + 1, [], h => by simp at h
  | _ + 1, [_], h => by simp at h

theorem raw_step {l : List UInt8} {i : Nat} {a b : UInt8} (h1 : l[i]? = some a) (h2 : l[i + 1]? = some b) : l.drop i = a :: b :: l.drop (i + 2) := by
  have hi : i < l.length := (List.getElem?_eq_some_iff.1 h1).1
  have hi2 : i + 1 < l.length := (List.getElem?_eq_some_iff.1 h2).1
  rw [List.drop_eq_getElem_cons hi, List.drop_eq_getElem_cons hi2]
  rw [List.getElem?_eq_getElem hi] at h1
  rw [List.getElem?_eq_getElem hi2] at h2
  rw [Option.some.inj h1, Option.some.inj h2]

theorem raw_len : ∀ (l m : List UInt8), rawL l = some m → l.length = 2 * m.length
  | [], m, h => by simp [rawL] at h; subst h; rfl
  | [_], m, h => by simp [rawL] at h
  | a :: b :: r, m, h => by
    rw [rawL] at h
    split at h
    · cases h
    · obtain ⟨m', h1, rfl⟩ := Option.map_eq_some_iff.1 h
      have := raw_len r m' h1
      simp; omega
end Go.Proofs.YtojnagonhihknaaGreatDoor
set_option linter.unusedVariables false
namespace Go.Proofs.YtojnagonhihknaaGreatDoor
open Go.Lib

def rightL (l : List UInt8) : Bool := decide (l.length = 64) && (rawL l).isSome
def KK : List Wd := [0x428a2f98#32, 0x71374491#32, 0xb5c0fbcf#32, 0xe9b5dba5#32, 0x3956c25b#32, 0x59f111f1#32, 0x923f82a4#32, 0xab1c5ed5#32,
  0xd807aa98#32, 0x12835b01#32, 0x243185be#32, 0x550c7dc3#32, 0x72be5d74#32, 0x80deb1fe#32, 0x9bdc06a7#32, 0xc19bf174#32,
  0xe49b69c1#32, 0xefbe4786#32, 0x0fc19dc6#32, 0x240ca1cc#32, 0x2de92c6f#32, 0x4a7484aa#32, 0x5cb0a9dc#32, 0x76f988da#32,
  0x983e5152#32, 0xa831c66d#32, 0xb00327c8#32, 0xbf597fc7#32, 0xc6e00bf3#32, 0xd5a79147#32, 0x06ca6351#32, 0x14292967#32,
  0x27b70a85#32, 0x2e1b2138#32, 0x4d2c6dfc#32, 0x53380d13#32, 0x650a7354#32, 0x766a0abb#32, 0x81c2c92e#32, 0x92722c85#32,
  0xa2bfe8a1#32, 0xa81a664b#32, 0xc24b8b70#32, 0xc76c51a3#32, 0xd192e819#32, 0xd6990624#32, 0xf40e3585#32, 0x106aa070#32,
  0x19a4c116#32, 0x1e376c08#32, 0x2748774c#32, 0x34b0bcb5#32, 0x391c0cb3#32, 0x4ed8aa4a#32, 0x5b9cca4f#32, 0x682e6ff3#32,
  0x748f82ee#32, 0x78a5636f#32, 0x84c87814#32, 0x8cc70208#32, 0x90befffa#32, 0xa4506ceb#32, 0xbef9a3f7#32, 0xc67178f2#32]
theorem KK_len : KK.length = 64 := rfl
def H0 : St := ⟨0x6a09e667#32, 0xbb67ae85#32, 0x3c6ef372#32, 0xa54ff53a#32, 0x510e527f#32, 0x9b05688c#32, 0x1f83d9ab#32, 0x5be0cd19#32⟩
def sumL (s : List UInt8) : List UInt8 := shaP KK H0 s
end Go.Proofs.YtojnagonhihknaaGreatDoor
