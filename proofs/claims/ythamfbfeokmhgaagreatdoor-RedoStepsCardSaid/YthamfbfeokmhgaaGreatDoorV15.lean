/- Plain mathematics of digits of base 16. No program is named here. What is right as a name; a digest's beginning. The head of a commit: its bytes. Mathematics alone. -/
import Derived.Lib.Bytealg
import Derived.Lib.IndexBytes
import Derived.Test.YthamfbfeokmhgaaGreatDoorSha
import Derived.Test.YthamfbfeokmhgaaGreatDoorV12
import Derived.Test.YthamfbfeokmhgaaGreatDoorV3
import Derived.Test.YthamfbfeokmhgaaGreatDoorV7
import Derived.Test.YthamfbfeokmhgaaGreatDoorV9
set_option linter.unusedVariables false
namespace Go.Proofs.YthamfbfeokmhgaaGreatDoor

def digL : List UInt8 := [48, 49, 50, 51, 52, 53, 54, 55, 56, 57, 97, 98, 99, 100, 101, 102]
def dg (n : Nat) : UInt8 := digL.getD n 0
def dv (c : UInt8) : Int := Lib.indexByte digL c
def hexL (l : List UInt8) : List UInt8 := l.flatMap fun b => [dg (b.toNat / 16), dg (b.toNat % 16)]
def pairB (a b : UInt8) : UInt8 := UInt8.ofNat (dv a * 16 + dv b).toNat
def rawL : List UInt8 → Option (List UInt8)
  | [] => some []
  | [_] => none
  | a :: b :: r => if dv a < 0 ∨ dv b < 0 then none else (rawL r).map (pairB a b :: ·)

theorem dv_dg : ∀ n, n < 16 → dv (dg n) = n := by decide
theorem dv_ge (c : UInt8) : -1 ≤ dv c := Lib.indexByte_ge _ _
set_option maxRecDepth 100000 in
theorem dv_all : ∀ n, n < 256 → dv (UInt8.ofNat n) < 16 ∧ dv (UInt8.ofNat n) = if 48 ≤ n ∧ n ≤ 57 then (n : Int) - 48 else if 97 ≤ n ∧ n ≤ 102 then (n : Int) - 87 else -1 := by decide
theorem dv_lt (c : UInt8) : dv c < 16 := by
  have := (dv_all c.toNat (UInt8.toNat_lt c)).1
  rwa [UInt8.ofNat_toNat] at this
theorem dv_eq (c : UInt8) : dv c = if 48 ≤ c.toNat ∧ c.toNat ≤ 57 then (c.toNat : Int) - 48 else if 97 ≤ c.toNat ∧ c.toNat ≤ 102 then (c.toNat : Int) - 87 else -1 := by
  have := (dv_all c.toNat (UInt8.toNat_lt c)).2
  rwa [UInt8.ofNat_toNat] at this

theorem hexL_len (l : List UInt8) : (hexL l).length = 2 * l.length := by
  induction l with
  | nil => rfl
  | cons b l ih => rw [hexL, List.flatMap_cons, List.length_append, ← hexL, ih]; simp; omega

theorem pair_dg (b : UInt8) : pairB (dg (b.toNat / 16)) (dg (b.toNat % 16)) = b := by
  have hb := UInt8.toNat_lt b
  rw [pairB, dv_dg _ (by omega), dv_dg _ (by omega)]
  have : ((b.toNat / 16 : Nat) : Int) * 16 + ((b.toNat % 16 : Nat) : Int) = (b.toNat : Int) := by omega
  rw [this, Int.toNat_natCast, UInt8.ofNat_toNat]

theorem raw_hex (l : List UInt8) : rawL (hexL l) = some l := by
  induction l with
  | nil => rfl
  | cons b l ih =>
    have hb := UInt8.toNat_lt b
    rw [hexL, List.flatMap_cons, ← hexL]
    show rawL (dg (b.toNat / 16) :: dg (b.toNat % 16) :: hexL l) = _
    rw [rawL, if_neg (by rw [dv_dg _ (by omega), dv_dg _ (by omega)]; omega), ih, pair_dg]; rfl

theorem raw_odd : ∀ (n : Nat) (l : List UInt8), l.length = 2 * n + 1 → rawL l = none
  | 0, [a], _ => rfl
  | n + 1, a :: b :: r, h => by
    rw [rawL, raw_odd n r (by simp at h; omega)]
    split <;> rfl
  | 0, [], h => by simp at h
  | 0, _ :: _ :: _, h => by simp at h
  | _ + 1, [], h => by simp at h
  | _ + 1, [_], h => by simp at h

theorem raw_step {l : List UInt8} {i : Nat} {a b : UInt8} (h1 : l[i]? = some a) (h2 : l[i + 1]? = some b) : l.drop i = a :: b :: l.drop (i + 2) := by
  have hi : i < l.length := (List.getElem?_eq_some_iff.1 h1).1
  have hi2 : i + 1 < l.length := (List.getElem?_eq_some_iff.1 h2).1
  rw [List.drop_eq_getElem_cons hi, List.drop_eq_getElem_cons hi2]
  rw [List.getElem?_eq_getElem hi] at h1
  rw [List.getElem?_eq_getElem hi2] at h2
  rw [Option.some.inj h1, Option.some.inj h2]

theorem raw_len : ∀ (l m : List UInt8), rawL l = some m → l.length = 2 * m.length
  | [], m, h => by simp [rawL] at h; subst h; rfl
  | [_], m, h => by simp [rawL] at h
  | a :: b :: r, m, h => by
    rw [rawL] at h
    split at h
    · cases h
    · obtain ⟨m', h1, rfl⟩ := Option.map_eq_some_iff.1 h
      have := raw_len r m' h1
      simp; omega
end Go.Proofs.YthamfbfeokmhgaaGreatDoor
set_option linter.unusedVariables false
namespace Go.Proofs.YthamfbfeokmhgaaGreatDoor
open Go.Lib

def rightL (l : List UInt8) : Bool := decide (l.length = 64) && (rawL l).isSome
def KK : List Wd := [0x428a2f98#32, 0x71374491#32, 0xb5c0fbcf#32, 0xe9b5dba5#32, 0x3956c25b#32, 0x59f111f1#32, 0x923f82a4#32, 0xab1c5ed5#32,
  0xd807aa98#32, 0x12835b01#32, 0x243185be#32, 0x550c7dc3#32, 0x72be5d74#32, 0x80deb1fe#32, 0x9bdc06a7#32, 0xc19bf174#32,
  0xe49b69c1#32, 0xefbe4786#32, 0x0fc19dc6#32, 0x240ca1cc#32, 0x2de92c6f#32, 0x4a7484aa#32, 0x5cb0a9dc#32, 0x76f988da#32,
  0x983e5152#32, 0xa831c66d#32, 0xb00327c8#32, 0xbf597fc7#32, 0xc6e00bf3#32, 0xd5a79147#32, 0x06ca6351#32, 0x14292967#32,
  0x27b70a85#32, 0x2e1b2138#32, 0x4d2c6dfc#32, 0x53380d13#32, 0x650a7354#32, 0x766a0abb#32, 0x81c2c92e#32, 0x92722c85#32,
  0xa2bfe8a1#32, 0xa81a664b#32, 0xc24b8b70#32, 0xc76c51a3#32, 0xd192e819#32, 0xd6990624#32, 0xf40e3585#32, 0x106aa070#32,
  0x19a4c116#32, 0x1e376c08#32, 0x2748774c#32, 0x34b0bcb5#32, 0x391c0cb3#32, 0x4ed8aa4a#32, 0x5b9cca4f#32, 0x682e6ff3#32,
  0x748f82ee#32, 0x78a5636f#32, 0x84c87814#32, 0x8cc70208#32, 0x90befffa#32, 0xa4506ceb#32, 0xbef9a3f7#32, 0xc67178f2#32]
theorem KK_len : KK.length = 64 := rfl
def H0 : St := ⟨0x6a09e667#32, 0xbb67ae85#32, 0x3c6ef372#32, 0xa54ff53a#32, 0x510e527f#32, 0x9b05688c#32, 0x1f83d9ab#32, 0x5be0cd19#32⟩
def sumL (s : List UInt8) : List UInt8 := shaP KK H0 s
end Go.Proofs.YthamfbfeokmhgaaGreatDoor
set_option linter.unusedVariables false
namespace Go.Proofs.YthamfbfeokmhgaaGreatDoor
open Go.Lib (decDigits itoa)

abbrev Pgs := Pnd
def rnT (n : Nat) : Tm := .mk false (tx (itoa n)) []
def numL (l : Pgs) : List Tm := l.map fun p => rnT p.1
def numsT (l : Pgs) : Tm := .mk true noText (numL l)
def dataL (l : Pgs) : List UInt8 := l.flatMap fun p => (fullB p.2).data.toList
abbrev redoB : ByteArray := ⟨#[114, 101, 100, 111]⟩
def digL3 (l : Pgs) : List UInt8 := sumL ((numsT l).bytes ++ dataL l)
def headT (l : Pgs) : Tm := .mk true noText [.mk false redoB [], numsT l, .mk false (tx (digL3 l)) []]
def headB (l : Pgs) : ByteArray := tx (headT l).bytes
theorem digL3_len (l : Pgs) : (digL3 l).length = 32 := by rw [digL3, sumL, sha_same, shaR_len]
theorem tx_lenR (l : List UInt8) : (tx l).size = l.length := by show l.toArray.size = _; simp
theorem dig_len {n : Nat} (h : n < 10000) : (itoa (n : Int)).length ≤ 4 := by
  rw [itoa_nat]
  exact dec_len 3 n (by omega)
theorem rnT_len {n : Nat} (h : n < 10000) : (rnT n).bytes.length ≤ 6 := by
  rw [rnT, Tm.bytes, if_neg (by decide), List.length_append, List.length_cons, tx_lenR, tx_toList]
  have h1 := dig_len h
  have h2 := dec_len 0 (itoa (n : Int)).length (by omega)
  omega
theorem rnT_ok (n : Nat) : (rnT n).ok = true := rfl
theorem rnT_depth (n : Nat) : (rnT n).depth = 0 := rfl
theorem nums_len : ∀ {l : Pgs}, (∀ p ∈ l, p.1 < 10000) → (Tm.bytess (numL l)).length ≤ 6 * l.length
  | [], h => by simp [numL, Tm.bytess]
  | p :: r, h => by
    have ih := nums_len (l := r) fun q hq => h q (by simp [hq])
    have h1 := rnT_len (h p (by simp))
    have e : numL (p :: r) = rnT p.1 :: numL r := rfl
    rw [e, Tm.bytess, List.length_append, List.length_cons]
    omega
theorem nums_ok : ∀ (l : Pgs), Tm.oks (numL l) = true
  | [] => rfl
  | p :: r => by
    have e : numL (p :: r) = rnT p.1 :: numL r := rfl
    rw [e, Tm.oks, rnT_ok, nums_ok r]; rfl
theorem nums_depth : ∀ (l : Pgs), Tm.depths (numL l) = 0
  | [] => rfl
  | p :: r => by
    have e : numL (p :: r) = rnT p.1 :: numL r := rfl
    rw [e, Tm.depths, rnT_depth, nums_depth r]; rfl
theorem numsT_bytes (l : Pgs) : (numsT l).bytes = 40 :: (Tm.bytess (numL l) ++ [41]) := by rw [numsT, Tm.bytes, if_pos rfl]
theorem numsT_ok (l : Pgs) : (numsT l).ok = true := by
  rw [numsT, Tm.ok, if_pos rfl, nums_ok]; rfl
theorem numsT_depth (l : Pgs) : (numsT l).depth = 1 := by rw [numsT, Tm.depth, if_pos rfl, nums_depth]
theorem headT_ok (l : Pgs) : (headT l).ok = true := by
  rw [headT, Tm.ok, if_pos rfl]
  simp [Tm.oks, Tm.ok, numsT_ok, noText]
  rfl
theorem headT_depth (l : Pgs) : (headT l).depth = 2 := by
  rw [headT, Tm.depth, if_pos rfl]
  simp [Tm.depths, Tm.depth, numsT_depth]
theorem headT_bytes (l : Pgs) : (headT l).bytes = [40, 52, 58, 114, 101, 100, 111] ++ (numsT l).bytes ++ ([51, 50, 58] ++ digL3 l) ++ [41] := by
  rw [headT, Tm.bytes, if_pos rfl]
  simp only [Tm.bytess, Tm.bytes, if_neg (show ¬ (false = true) by decide), tx_lenR, digL3_len]
  have e0 : [(114 : UInt8), 101, 100, 111].length = 4 := rfl
  have e1 : decDigits 4 = [52] := by rw [decDigits, dif_pos (by decide)]; rfl
  have e2 : decDigits 32 = [51, 50] := by rw [decDigits, dif_neg (by decide), show 32 / 10 = 3 from rfl, decDigits, dif_pos (by decide)]; rfl
  rw [e0, e1, e2]
  simp
theorem headT_len {l : Pgs} (h : ∀ p ∈ l, p.1 < 10000) (hl : l.length ≤ 63) : (headT l).bytes.length ≤ 512 := by
  have := nums_len h
  rw [headT_bytes, numsT_bytes]
  simp only [List.length_append, List.length_cons, List.length_nil, digL3_len]
  omega
theorem headB_size {l : Pgs} (h : ∀ p ∈ l, p.1 < 10000) (hl : l.length ≤ 63) : (headB l).size ≤ 512 := by rw [headB, tx_lenR]; exact headT_len h hl
theorem headB_ne (l : Pgs) : headB l ≠ ByteArray.empty := fun e => by
  have h1 : (headB l).data.toList = (ByteArray.empty).data.toList := by rw [e]
  rw [headB, tx_toList, headT_bytes] at h1
  simp at h1
theorem head_same {l m : Pgs} (h : l.map (fun p => (p.1, fullB p.2)) = m.map (fun p => (p.1, fullB p.2))) : headT l = headT m := by
  have h1 : numL l = numL m := by
    have := congrArg (List.map fun q : Nat × ByteArray => rnT q.1) h
    simpa [numL, List.map_map, Function.comp_def] using this
  have h2 : dataL l = dataL m := by
    have := congrArg (List.flatMap fun q : Nat × ByteArray => q.2.data.toList) h
    simpa [dataL, List.flatMap_map] using this
  simp only [headT, digL3, numsT, h1, h2]
def trimZ (l : List UInt8) : List UInt8 := (l.reverse.dropWhile (· == 0)).reverse
theorem trimZ_zero (l : List UInt8) : trimZ (l ++ [0]) = trimZ l := by simp [trimZ]
theorem trimZ_end {l : List UInt8} {c : UInt8} (h : c ≠ 0) : trimZ (l ++ [c]) = l ++ [c] := by
  have : (c == 0) = false := by simpa using h
  simp [trimZ, this]
theorem trimZ_zeros (l : List UInt8) : ∀ k, trimZ (l ++ List.replicate k 0) = trimZ l
  | 0 => by simp
  | k + 1 => by
    rw [List.replicate_succ', ← List.append_assoc, trimZ_zero]
    exact trimZ_zeros l k
theorem trim_full (s : ByteArray) : trimZ (fullB s).data.toList = trimZ s.data.toList := by
  unfold fullB
  simp only
  exact trimZ_zeros _ _
theorem trim_head (l : Pgs) : trimZ (fullB (headB l)).data.toList = (headT l).bytes := by
  rw [trim_full, headB, tx_toList, headT_bytes]
  exact trimZ_end (by decide)
theorem trim_empty : trimZ (fullB ByteArray.empty).data.toList = [] := by
  rw [trim_full]; rfl
theorem dataL_len {l : Pgs} (h : ∀ p ∈ l, p.2.size ≤ 512) : (dataL l).length = 512 * l.length := by
  induction l with
  | nil => rfl
  | cons p r ih =>
    have e : dataL (p :: r) = (fullB p.2).data.toList ++ dataL r := rfl
    have h1 := fullB_size (h p (by simp))
    have h2 : (fullB p.2).data.toList.length = (fullB p.2).size := Array.length_toList
    rw [e, List.length_append, ih fun q hq => h q (by simp [hq]), h2, h1, List.length_cons]
    omega
end Go.Proofs.YthamfbfeokmhgaaGreatDoor
