/- What endings and others share. What hex digits' functions share. -/
import Derived.Test.YthamfbfeokmhgaaGreatDoorV1
import Derived.Test.YthamfbfeokmhgaaGreatDoorV15
import Derived.Test.YthamfbfeokmhgaaGreatDoorV8
set_option linter.unusedVariables false
namespace Go.Proofs.YthamfbfeokmhgaaGreatDoor
open Go.ChangeShapes Go.WideShapes Go.ChangeAt Go.RowKit

theorem rep_succ (r : List UInt8) (j : Nat) : r ++ [128] ++ List.replicate j 0 ++ [0] = r ++ [128] ++ List.replicate (j + 1) 0 := by
  rw [List.replicate_succ', ← List.append_assoc]
def lenOf (v : Value) : Nat := match v with | .slice _ n _ => n | _ => 0
end Go.Proofs.YthamfbfeokmhgaaGreatDoor
set_option linter.unusedVariables false
namespace Go.Proofs.YthamfbfeokmhgaaGreatDoor
open Go.ChangeShapes Go.WideShapes Go.ChangeAt Go.RowKit

theorem arr_make {P : Program} (w : World) (t e : TypeId) (z : Value) (bytes : Nat) (ht : P.underlying t = some (.slice e)) (hinfo : (P.info? e).map (fun i => (i.zero, i.size, i.bytes)) = some (some z, 1, bytes)) (hz1 : z.cells = #[z]) (kl kc : IntKind) (n : Nat) (hb : bytes ≤ 16) (hn : n ≤ 1099511627776) :
    (Instr.makeSlice t (.int kl 0) (.int kc (n : Int))).run P w = .ok (.slice (some ⟨w.heap.size, 0, none⟩) 0 n) (w.alloc (.cells (madeCells #[z] n) e)) := by
  obtain ⟨i, hi, hzz⟩ := Option.map_eq_some_iff.1 hinfo
  simp only [Prod.mk.injEq] at hzz
  obtain ⟨hz, hs, hby⟩ := hzz
  have hm : ((bytes * n : Nat) : Int) ≤ 281474976710656 := by
    have := Nat.mul_le_mul hb hn
    omega
  rw [Int.natCast_mul] at hm
  have hr := run_make (P := P) w t e i z ht hi hz kl kc 0 n (by omega) (by omega) (by rw [hby]; exact hm) (by omega)
  simp only [Int.toNat_natCast, hs, Nat.mul_one, hz1, Int.toNat_zero] at hr
  exact hr
theorem arr_made {B : Nat} (w : World) (z : Value) (n : Nat) (e : TypeId) (hB : B ≤ w.heap.size) (hn : n ≤ 1099511627776) : Arr B (w.alloc (.cells (madeCells #[z] n) e)) (.slice (some ⟨w.heap.size, 0, none⟩) 0 n) [] :=
  arr_new (cs := []) (cap := n) hB (Nat.zero_le _) (by unfold maxLen; omega) (size_madeCells _ _) (.inl rfl) (fun j u hu => by simp at hu)
theorem byteAt (s : ByteArray) (i : Nat) (h : i < s.size) : s.data.toList.getD i 0 = s[i] := by
  have h' : i < s.data.toList.length := by rw [Array.length_toList]; exact h
  rw [List.getD_eq_getElem?_getD, List.getElem?_eq_getElem h']; rfl
theorem cell_drew (w : World) (a : Addr) : w.drew.cell? a = w.cell? a := rfl
theorem one2 {k : IntKind} {x y : Int} : ∀ u ∈ [Value.int k x, Value.int k y], u.oneCell' = true := by
  intro u hu
  simp only [List.mem_cons, List.not_mem_nil, or_false] at hu
  rcases hu with rfl | rfl <;> rfl
def digB : ByteArray := ⟨#[48, 49, 50, 51, 52, 53, 54, 55, 56, 57, 97, 98, 99, 100, 101, 102]⟩
theorem digB_at (n : Nat) (h : n < 16) : digB[n]'h = dg n := (byteAt digB n h).symm
theorem and15 (b : UInt8) : bits .and .u8 (bv b) 15 = bv b % 16 := u8_and15 (bv b) (by unfold bv; omega) (by have := UInt8.toNat_lt b; unfold bv; omega)
theorem bv_range (b : UInt8) : 0 ≤ bv b ∧ bv b < 256 := by have := UInt8.toNat_lt b; unfold bv; omega
theorem hexL_snoc (l : List UInt8) (b : UInt8) : hexL (l ++ [b]) = hexL l ++ [dg (b.toNat / 16), dg (b.toNat % 16)] := by simp [hexL]
end Go.Proofs.YthamfbfeokmhgaaGreatDoor
