/- Plain mathematics of digits of base 16. No program is named here. -/
import Derived.Test.YtnlmklbehldfcaaDoorSha
import Derived.Lib.Bytealg
import Derived.Lib.IndexBytes
set_option linter.unusedVariables false
namespace Go.Proofs.YtnlmklbehldfcaaDoor

def digL : List UInt8 := [48, 49, 50, 51, 52, 53, 54, 55, 56, 57, 97, 98, 99, 100, 101, 102]
def dg (n : Nat) : UInt8 := digL.getD n 0
/-- A digit's number, or -1. -/
def dv (c : UInt8) : Int := Lib.indexByte digL c
def hexL (l : List UInt8) : List UInt8 := l.flatMap fun b => [dg (b.toNat / 16), dg (b.toNat % 16)]
def pairB (a b : UInt8) : UInt8 := UInt8.ofNat (dv a * 16 + dv b).toNat
def rawL : List UInt8 → Option (List UInt8)
  | [] => some []
  | [_] => none
  | a :: b :: r => if dv a < 0 ∨ dv b < 0 then none else (rawL r).map (pairB a b :: ·)

theorem dv_dg : ∀ n, n < 16 → dv (dg n) = n := by decide
theorem dv_ge (c : UInt8) : -1 ≤ dv c := Lib.indexByte_ge _ _
set_option maxRecDepth 100000 in
theorem dv_all : ∀ n, n < 256 → dv (UInt8.ofNat n) < 16 ∧ dv (UInt8.ofNat n) = if 48 ≤ n ∧ n ≤ 57 then (n : Int) - 48 else if 97 ≤ n ∧ n ≤ 102 then (n : Int) - 87 else -1 := by decide
theorem dv_lt (c : UInt8) : dv c < 16 := by
  have := (dv_all c.toNat (UInt8.toNat_lt c)).1
  rwa [UInt8.ofNat_toNat] at this
theorem dv_eq (c : UInt8) : dv c = if 48 ≤ c.toNat ∧ c.toNat ≤ 57 then (c.toNat : Int) - 48 else if 97 ≤ c.toNat ∧ c.toNat ≤ 102 then (c.toNat : Int) - 87 else -1 := by
  have := (dv_all c.toNat (UInt8.toNat_lt c)).2
  rwa [UInt8.ofNat_toNat] at this

theorem hexL_len (l : List UInt8) : (hexL l).length = 2 * l.length := by
  induction l with
  | nil => rfl
  | cons b l ih => rw [hexL, List.flatMap_cons, List.length_append, ← hexL, ih]; simp; omega

theorem pair_dg (b : UInt8) : pairB (dg (b.toNat / 16)) (dg (b.toNat % 16)) = b := by
  have hb := UInt8.toNat_lt b
  rw [pairB, dv_dg _ (by omega), dv_dg _ (by omega)]
  have : ((b.toNat / 16 : Nat) : Int) * 16 + ((b.toNat % 16 : Nat) : Int) = (b.toNat : Int) := by omega
  rw [this, Int.toNat_natCast, UInt8.ofNat_toNat]

theorem raw_hex (l : List UInt8) : rawL (hexL l) = some l := by
  induction l with
  | nil => rfl
  | cons b l ih =>
    have hb := UInt8.toNat_lt b
    rw [hexL, List.flatMap_cons, ← hexL]
    show rawL (dg (b.toNat / 16) :: dg (b.toNat % 16) :: hexL l) = _
    rw [rawL, if_neg (by rw [dv_dg _ (by omega), dv_dg _ (by omega)]; omega), ih, pair_dg]; rfl

theorem raw_odd : ∀ (n : Nat) (l : List UInt8), l.length = 2 * n + 1 → rawL l = none
  | 0, [a], _ => rfl
  | n + 1, a :: b :: r, h => by
    rw [rawL, raw_odd n r (by simp at h; omega)]
    split <;> rfl
  | 0, [], h => by simp at h
  | 0, _ :: _ :: _, h => by simp at h
  | _ + 1, [], h => by simp at h
  | _ + 1, [_], h => by simp at h

theorem raw_step {l : List UInt8} {i : Nat} {a b : UInt8} (h1 : l[i]? = some a) (h2 : l[i + 1]? = some b) : l.drop i = a :: b :: l.drop (i + 2) := by
  have hi : i < l.length := (List.getElem?_eq_some_iff.1 h1).1
  have hi2 : i + 1 < l.length := (List.getElem?_eq_some_iff.1 h2).1
  rw [List.drop_eq_getElem_cons hi, List.drop_eq_getElem_cons hi2]
  rw [List.getElem?_eq_getElem hi] at h1
  rw [List.getElem?_eq_getElem hi2] at h2
  rw [Option.some.inj h1, Option.some.inj h2]

theorem raw_len : ∀ (l m : List UInt8), rawL l = some m → l.length = 2 * m.length
  | [], m, h => by simp [rawL] at h; subst h; rfl
  | [_], m, h => by simp [rawL] at h
  | a :: b :: r, m, h => by
    rw [rawL] at h
    split at h
    · cases h
    · obtain ⟨m', h1, rfl⟩ := Option.map_eq_some_iff.1 h
      have := raw_len r m' h1
      simp; omega
end Go.Proofs.YtnlmklbehldfcaaDoor
