/- Plain mathematics of digits of base 16. No program is named here. The contracts of the functions that write digits: the program's and the document's. -/
import Derived.Lib.Bytealg
import Derived.Lib.IndexBytes
import Derived.BigRegion
import Derived.Test.YtgjcblginkdinaaGreatDoorU0
import Derived.Test.YtgjcblginkdinaaGreatDoorU7
import Derived.Test.YtgjcblginkdinaaGreatDoorU8
set_option linter.unusedVariables false
namespace Go.Proofs.YtgjcblginkdinaaGreatDoor

def digL : List UInt8 := [48, 49, 50, 51, 52, 53, 54, 55, 56, 57, 97, 98, 99, 100, 101, 102]
def dg (n : Nat) : UInt8 := digL.getD n 0
def dv (c : UInt8) : Int := Lib.indexByte digL c
def hexL (l : List UInt8) : List UInt8 := l.flatMap fun b => [dg (b.toNat / 16), dg (b.toNat % 16)]
def pairB (a b : UInt8) : UInt8 := UInt8.ofNat (dv a * 16 + dv b).toNat
def rawL : List UInt8 → Option (List UInt8)
  | [] => some []
  | [_] => none
  | a :: b :: r => if dv a < 0 ∨ dv b < 0 then none else (rawL r).map (pairB a b :: ·)

theorem dv_dg : ∀ n, n < 16 → dv (dg n) = n := by decide
theorem dv_ge (c : UInt8) : -1 ≤ dv c := Lib.indexByte_ge _ _
set_option maxRecDepth 100000 in
theorem dv_all : ∀ n, n < 256 → dv (UInt8.ofNat n) < 16 ∧ dv (UInt8.ofNat n) = if 48 ≤ n ∧ n ≤ 57 then (n : Int) - 48 else if 97 ≤ n ∧ n ≤ 102 then (n : Int) - 87 else -1 := by decide
theorem dv_lt (c : UInt8) : dv c < 16 := by
  have := (dv_all c.toNat (UInt8.toNat_lt c)).1
  rwa [UInt8.ofNat_toNat] at this
theorem hexL_len (l : List UInt8) : (hexL l).length = 2 * l.length := by
  induction l with
  | nil => rfl
  | cons b l ih => rw [hexL, List.flatMap_cons, List.length_append, ← hexL, ih]; simp; omega

theorem pair_dg (b : UInt8) : pairB (dg (b.toNat / 16)) (dg (b.toNat % 16)) = b := by
  have hb := UInt8.toNat_lt b
  rw [pairB, dv_dg _ (by omega), dv_dg _ (by omega)]
  have : ((b.toNat / 16 : Nat) : Int) * 16 + ((b.toNat % 16 : Nat) : Int) = (b.toNat : Int) := by omega
  rw [this, Int.toNat_natCast, UInt8.ofNat_toNat]

theorem raw_hex (l : List UInt8) : rawL (hexL l) = some l := by
  induction l with
  | nil => rfl
  | cons b l ih =>
    have hb := UInt8.toNat_lt b
    rw [hexL, List.flatMap_cons, ← hexL]
    show rawL (dg (b.toNat / 16) :: dg (b.toNat % 16) :: hexL l) = _
    rw [rawL, if_neg (by rw [dv_dg _ (by omega), dv_dg _ (by omega)]; omega), ih, pair_dg]; rfl

theorem raw_odd : ∀ (n : Nat) (l : List UInt8), l.length = 2 * n + 1 → rawL l = none
  | 0, [a], _ => rfl
  | n + 1, a :: b :: r, h => by
    rw [rawL, raw_odd n r (by simp at h; omega)]
    split <;> rfl
  | 0, [], h => by simp at h
  | 0, _ :: _ :: _, h => by simp at h
  | _ + 1, [], h => by simp at h
  | _ + 1, [_], h => by simp at h

theorem raw_step {l : List UInt8} {i : Nat} {a b : UInt8} (h1 : l[i]? = some a) (h2 : l[i + 1]? = some b) : l.drop i = a :: b :: l.drop (i + 2) := by
  have hi : i < l.length := (List.getElem?_eq_some_iff.1 h1).1
  have hi2 : i + 1 < l.length := (List.getElem?_eq_some_iff.1 h2).1
  rw [List.drop_eq_getElem_cons hi, List.drop_eq_getElem_cons hi2]
  rw [List.getElem?_eq_getElem hi] at h1
  rw [List.getElem?_eq_getElem hi2] at h2
  rw [Option.some.inj h1, Option.some.inj h2]

end Go.Proofs.YtgjcblginkdinaaGreatDoor
set_option linter.unusedVariables false
namespace Go.Proofs.YtgjcblginkdinaaGreatDoor
open Go.ChangeShapes Go.WideShapes Go.ChangeAt Go.RowKit

attribute [local go_sem] bv_u8

theorem arr_make {P : Program} (w : World) (t e : TypeId) (z : Value) (bytes : Nat) (ht : P.underlying t = some (.slice e)) (hinfo : (P.info? e).map (fun i => (i.zero, i.size, i.bytes)) = some (some z, 1, bytes)) (hz1 : z.cells = #[z]) (kl kc : IntKind) (n : Nat) (hb : bytes ≤ 16) (hn : n ≤ 1099511627776) :
    (Instr.makeSlice t (.int kl 0) (.int kc (n : Int))).run P w = .ok (.slice (some ⟨w.heap.size, 0, none⟩) 0 n) (w.alloc (.cells (madeCells #[z] n) e)) := by
  obtain ⟨i, hi, hzz⟩ := Option.map_eq_some_iff.1 hinfo
  simp only [Prod.mk.injEq] at hzz
  obtain ⟨hz, hs, hby⟩ := hzz
  have hm : ((bytes * n : Nat) : Int) ≤ 281474976710656 := by
    have := Nat.mul_le_mul hb hn
    omega
  rw [Int.natCast_mul] at hm
  have hr := run_make (P := P) w t e i z ht hi hz kl kc 0 n (by omega) (by omega) (by rw [hby]; exact hm) (by omega)
  simp only [Int.toNat_natCast, hs, Nat.mul_one, hz1, Int.toNat_zero] at hr
  exact hr
theorem arr_made {B : Nat} (w : World) (z : Value) (n : Nat) (e : TypeId) (hB : B ≤ w.heap.size) (hn : n ≤ 1099511627776) : Arr B (w.alloc (.cells (madeCells #[z] n) e)) (.slice (some ⟨w.heap.size, 0, none⟩) 0 n) [] :=
  arr_new (cs := []) (cap := n) hB (Nat.zero_le _) (by unfold maxLen; omega) (size_madeCells _ _) (.inl rfl) (fun j u hu => by simp at hu)

theorem byteAt (s : ByteArray) (i : Nat) (h : i < s.size) : s.data.toList.getD i 0 = s[i] := by
  have h' : i < s.data.toList.length := by rw [Array.length_toList]; exact h
  rw [List.getD_eq_getElem?_getD, List.getElem?_eq_getElem h']; rfl
theorem cell_drew (w : World) (a : Addr) : w.drew.cell? a = w.cell? a := rfl
theorem one2 {k : IntKind} {x y : Int} : ∀ u ∈ [Value.int k x, Value.int k y], u.oneCell' = true := by
  intro u hu
  simp only [List.mem_cons, List.not_mem_nil, or_false] at hu
  rcases hu with rfl | rfl <;> rfl
def digB : ByteArray := ⟨#[48, 49, 50, 51, 52, 53, 54, 55, 56, 57, 97, 98, 99, 100, 101, 102]⟩
theorem digB_at (n : Nat) (h : n < 16) : digB[n]'h = dg n := (byteAt digB n h).symm
theorem and15 (b : UInt8) : bits .and .u8 (bv b) 15 = bv b % 16 := u8_and15 (bv b) (by unfold bv; omega) (by have := UInt8.toNat_lt b; unfold bv; omega)
theorem bv_range (b : UInt8) : 0 ≤ bv b ∧ bv b < 256 := by have := UInt8.toNat_lt b; unfold bv; omega
theorem hexL_snoc (l : List UInt8) (b : UInt8) : hexL (l ++ [b]) = hexL l ++ [dg (b.toNat / 16), dg (b.toNat % 16)] := by simp [hexL]

set_option maxHeartbeats 2000000 in
set_option maxRecDepth 100000 in
theorem hex_any (s : ByteArray) (w : World) (hs : s.size ≤ 1000000) :
    Calls Tryz.prog 76 #[.string s] w fun e w' => e = .returned (.string ⟨(hexL s.data.toList).toArray⟩) ∧ Below w.heap.size w w' := by
  have hl : s.data.toList.length = s.size := Array.length_toList
  have hmk := arr_make (P := Tryz.prog) w 101 5 (.int .u8 0) 1 Tryz.underlying101 Tryz.infoByte rfl .i64 .i64 (2 * s.size) (by omega) (by omega)
  rw [show ((2 * s.size : Nat) : Int) = 2 * (s.size : Int) by omega] at hmk
  go_enter Tryz.func76, Tryz.ntmps76
  go_wp2
  go_loopw [3, 11] (fun v iv wr => ∃ k : Nat, k ≤ s.size ∧ iv = .int .i64 k ∧ Arr w.heap.size wr v (bys (hexL (s.data.toList.take k))) ∧ Below w.heap.size w wr) (fun _ iv _ => s.size - (intOf iv).toNat)
  case atStart => exact ⟨0, Nat.zero_le _, rfl, arr_made w _ _ _ (Nat.le_refl _) (by omega), (Below.refl _ _).alloc (Nat.le_refl _) _⟩
  case round =>
    obtain ⟨k, hk, rfl, harr, hbel⟩ := hrel
    have hsz := hbel.size
    by_cases hlt : k < s.size
    · have h01 : (0 : Int) ≤ k := by omega
      have h02 : (k : Int) < s.size := by omega
      obtain ⟨b, hb⟩ : ∃ b, s[k] = b := ⟨_, rfl⟩
      have hget : s.data.toList[k]? = some b := by rw [← hb]; exact Lib.data_getElem? s k hlt
      have hr := bv_range b
      have q0 : 0 ≤ bv b / 16 := by omega
      have q1 : bv b / 16 < 16 := by omega
      have q2 : 0 ≤ bv b % 16 := by omega
      have q3 : bv b % 16 < 16 := by omega
      have h15 := and15 b
      have n1 : (bv b / 16).toNat < 16 := by omega
      have n2 : (bv b % 16).toNat < 16 := by omega
      have m1 : (bv b / 16).toNat = b.toNat / 16 := by unfold bv; omega
      have m2 : (bv b % 16).toNat = b.toNat % 16 := by unfold bv; omega
      obtain ⟨x1, hx1⟩ : ∃ x, digB[(bv b / 16).toNat]'n1 = x := ⟨_, rfl⟩
      obtain ⟨x2, hx2⟩ : ∃ x, digB[(bv b % 16).toNat]'n2 = x := ⟨_, rfl⟩
      have hy1 : x1 = dg (b.toNat / 16) := by rw [← hx1, digB_at _ n1, m1]
      have hy2 : x2 = dg (b.toNat % 16) := by rw [← hx2, digB_at _ n2, m2]
      have HY1 := Lib.hid hy1
      have HY2 := Lib.hid hy2
      clear hy1 hy2 m1 m2
      unfold digB at hx1 hx2
      obtain ⟨a0, c0, hv⟩ := harr.form
      obtain ⟨N, hN⟩ : ∃ N, N = (bys (hexL (s.data.toList.take k))).length := ⟨_, rfl⟩
      rw [← hN] at hv
      subst hv
      have HA := Lib.hid harr
      have HB := Lib.hid hbel
      have HG := Lib.hid hget
      have hlen : (bys (hexL (s.data.toList.take k))).length ≤ 2000000 := by rw [bys_len, hexL_len, List.length_take]; omega
      have HLEN := Lib.hid hlen
      have HN := Lib.hid hN
      clear harr hbel hget hlen hN
      obtain ⟨w0, rfl⟩ : ∃ w0, w0 = wr := ⟨wr, rfl⟩
      go_wp2
      go_region_law (refine step_append_arr rfl (.tmp 14) (.tmp 25) 101 rfl 5 (.int .u8 0) 1 Tryz.underlying101 Tryz.infoByte rfl w.heap.size (.slice a0 N c0) _ [.int .u8 (bv x1), .int .u8 (bv x2)] (by simp [Act.eval]) (by exact (HA.out.alloc _).drew) w0.heap.size 2 2 (by simp [Act.eval]) rfl (by intro j u' hj; rw [cell_drew]; exact news_new j u' hj) one2 (Nat.zero_lt_succ _) (by show _ ≤ (w0.alloc _).heap.size; rw [sizeAl]; omega) (by have := HLEN.out; show _ + 2 ≤ _; omega) (by decide) ?_; intro v4 w4 harr4 hb4; obtain ⟨a4, c4, h4⟩ := harr4.form; have HA4 := Lib.hid harr4; have HB4 := Lib.hid hb4; have H4 := Lib.hid h4; clear harr4 hb4 h4)
      all_goals go_wp2
      all_goals refine ⟨⟨k + 1, hlt, by go_num, ?_, (HB.out.alloc hsz _).drew.trans (by exact HB4.out)⟩, by simp [intOf]; omega⟩
      all_goals rw [take_snoc HG.out, hexL_snoc, bys_app, ← HY1.out, ← HY2.out]
      all_goals exact HA4.out
    · have hke : k = s.size := by omega
      have hst := arr_string (P := Tryz.prog) harr 101 9 5 Tryz.underlying101 Tryz.underlying5 Tryz.underlying9
      have HST := Lib.hid hst
      have hcl : (hexL (s.data.toList.take k)) = hexL s.data.toList := by rw [List.take_of_length_le (by omega)]
      rw [hcl] at hst
      have HB := Lib.hid hbel
      clear harr hbel HST hcl
      obtain ⟨X, hX⟩ : ∃ X, X = hexL s.data.toList := ⟨_, rfl⟩
      rw [← hX] at hst
      have HX := Lib.hid hX
      clear hX
      go_wp2
      go_ret
      refine ⟨?_, HB.out⟩
      rw [← HX.out]; rfl
end Go.Proofs.YtgjcblginkdinaaGreatDoor
