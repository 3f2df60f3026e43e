/- Plain mathematics of digits of base 16. No program is named here. The contracts of the functions that write digits: the program's and the document's. The contracts of the program's Sum and Name. The contract of digest.Name. -/
import Derived.Lib.Bytealg
import Derived.Lib.IndexBytes
import Derived.BigRegion
import Derived.Test.YtgjcblginkdinaaGreatDoorV1
import Derived.Test.YtgjcblginkdinaaGreatDoorV12
import Derived.Test.YtgjcblginkdinaaGreatDoorV4
set_option linter.unusedVariables false
namespace Go.Proofs.YtgjcblginkdinaaGreatDoor

def digL : List UInt8 := [48, 49, 50, 51, 52, 53, 54, 55, 56, 57, 97, 98, 99, 100, 101, 102]
def dg (n : Nat) : UInt8 := digL.getD n 0
def dv (c : UInt8) : Int := Lib.indexByte digL c
def hexL (l : List UInt8) : List UInt8 := l.flatMap fun b => [dg (b.toNat / 16), dg (b.toNat % 16)]
def pairB (a b : UInt8) : UInt8 := UInt8.ofNat (dv a * 16 + dv b).toNat
def rawL : List UInt8 → Option (List UInt8)
  | [] => some []
  | [_] => none
  | a :: b :: r => if dv a < 0 ∨ dv b < 0 then none else (rawL r).map (pairB a b :: ·)

theorem dv_dg : ∀ n, n < 16 → dv (dg n) = n := by decide
theorem dv_ge (c : UInt8) : -1 ≤ dv c := Lib.indexByte_ge _ _
set_option maxRecDepth 100000 in
theorem dv_all : ∀ n, n < 256 → dv (UInt8.ofNat n) < 16 ∧ dv (UInt8.ofNat n) = if 48 ≤ n ∧ n ≤ 57 then (n : Int) - 48 else if 97 ≤ n ∧ n ≤ 102 then (n : Int) - 87 else -1 := by decide
theorem dv_lt (c : UInt8) : dv c < 16 := by
  have := (dv_all c.toNat (UInt8.toNat_lt c)).1
  rwa [UInt8.ofNat_toNat] at this
theorem dv_eq (c : UInt8) : dv c = if 48 ≤ c.toNat ∧ c.toNat ≤ 57 then (c.toNat : Int) - 48 else if 97 ≤ c.toNat ∧ c.toNat ≤ 102 then (c.toNat : Int) - 87 else -1 := by
  have := (dv_all c.toNat (UInt8.toNat_lt c)).2
  rwa [UInt8.ofNat_toNat] at this

theorem hexL_len (l : List UInt8) : (hexL l).length = 2 * l.length := by
  induction l with
  | nil => rfl
  | cons b l ih => rw [hexL, List.flatMap_cons, List.length_append, ← hexL, ih]; simp; omega

theorem pair_dg (b : UInt8) : pairB (dg (b.toNat / 16)) (dg (b.toNat % 16)) = b := by
  have hb := UInt8.toNat_lt b
  rw [pairB, dv_dg _ (by omega), dv_dg _ (by omega)]
  have : ((b.toNat / 16 : Nat) : Int) * 16 + ((b.toNat % 16 : Nat) : Int) = (b.toNat : Int) := by omega
  rw [this, Int.toNat_natCast, UInt8.ofNat_toNat]

theorem raw_hex (l : List UInt8) : rawL (hexL l) = some l := by
  induction l with
  | nil => rfl
  | cons b l ih =>
    have hb := UInt8.toNat_lt b
    rw [hexL, List.flatMap_cons, ← hexL]
    show rawL (dg (b.toNat / 16) :: dg (b.toNat % 16) :: hexL l) = _
    rw [rawL, if_neg (by rw [dv_dg _ (by omega), dv_dg _ (by omega)]; omega), ih, pair_dg]; rfl

theorem raw_odd : ∀ (n : Nat) (l : List UInt8), l.length = 2 * n + 1 → rawL l = none
  | 0, [a], _ => rfl
  | n + 1, a :: b :: r, h => by
    rw [rawL, raw_odd n r (by simp at h; omega)]
    split <;> rfl
  | 0, [], h => by simp at h
  | 0, _ :: _ :: _, h => by simp at h
  | _ + 1, [], h => by simp at h
  | _ + 1, [_], h => by simp at h

theorem raw_step {l : List UInt8} {i : Nat} {a b : UInt8} (h1 : l[i]? = some a) (h2 : l[i + 1]? = some b) : l.drop i = a :: b :: l.drop (i + 2) := by
  have hi : i < l.length := (List.getElem?_eq_some_iff.1 h1).1
  have hi2 : i + 1 < l.length := (List.getElem?_eq_some_iff.1 h2).1
  rw [List.drop_eq_getElem_cons hi, List.drop_eq_getElem_cons hi2]
  rw [List.getElem?_eq_getElem hi] at h1
  rw [List.getElem?_eq_getElem hi2] at h2
  rw [Option.some.inj h1, Option.some.inj h2]

end Go.Proofs.YtgjcblginkdinaaGreatDoor
set_option linter.unusedVariables false
namespace Go.Proofs.YtgjcblginkdinaaGreatDoor
open Go.ChangeShapes Go.WideShapes Go.ChangeAt Go.RowKit

attribute [local go_sem] bv_u8

theorem arr_make {P : Program} (w : World) (t e : TypeId) (z : Value) (bytes : Nat) (ht : P.underlying t = some (.slice e)) (hinfo : (P.info? e).map (fun i => (i.zero, i.size, i.bytes)) = some (some z, 1, bytes)) (hz1 : z.cells = #[z]) (kl kc : IntKind) (n : Nat) (hb : bytes ≤ 16) (hn : n ≤ 1099511627776) :
    (Instr.makeSlice t (.int kl 0) (.int kc (n : Int))).run P w = .ok (.slice (some ⟨w.heap.size, 0, none⟩) 0 n) (w.alloc (.cells (madeCells #[z] n) e)) := by
  obtain ⟨i, hi, hzz⟩ := Option.map_eq_some_iff.1 hinfo
  simp only [Prod.mk.injEq] at hzz
  obtain ⟨hz, hs, hby⟩ := hzz
  have hm : ((bytes * n : Nat) : Int) ≤ 281474976710656 := by
    have := Nat.mul_le_mul hb hn
    omega
  rw [Int.natCast_mul] at hm
  have hr := run_make (P := P) w t e i z ht hi hz kl kc 0 n (by omega) (by omega) (by rw [hby]; exact hm) (by omega)
  simp only [Int.toNat_natCast, hs, Nat.mul_one, hz1, Int.toNat_zero] at hr
  exact hr
theorem arr_made {B : Nat} (w : World) (z : Value) (n : Nat) (e : TypeId) (hB : B ≤ w.heap.size) (hn : n ≤ 1099511627776) : Arr B (w.alloc (.cells (madeCells #[z] n) e)) (.slice (some ⟨w.heap.size, 0, none⟩) 0 n) [] :=
  arr_new (cs := []) (cap := n) hB (Nat.zero_le _) (by unfold maxLen; omega) (size_madeCells _ _) (.inl rfl) (fun j u hu => by simp at hu)

theorem byteAt (s : ByteArray) (i : Nat) (h : i < s.size) : s.data.toList.getD i 0 = s[i] := by
  have h' : i < s.data.toList.length := by rw [Array.length_toList]; exact h
  rw [List.getD_eq_getElem?_getD, List.getElem?_eq_getElem h']; rfl
theorem cell_drew (w : World) (a : Addr) : w.drew.cell? a = w.cell? a := rfl
theorem one2 {k : IntKind} {x y : Int} : ∀ u ∈ [Value.int k x, Value.int k y], u.oneCell' = true := by
  intro u hu
  simp only [List.mem_cons, List.not_mem_nil, or_false] at hu
  rcases hu with rfl | rfl <;> rfl
def digB : ByteArray := ⟨#[48, 49, 50, 51, 52, 53, 54, 55, 56, 57, 97, 98, 99, 100, 101, 102]⟩
theorem digB_at (n : Nat) (h : n < 16) : digB[n]'h = dg n := (byteAt digB n h).symm
theorem and15 (b : UInt8) : bits .and .u8 (bv b) 15 = bv b % 16 := u8_and15 (bv b) (by unfold bv; omega) (by have := UInt8.toNat_lt b; unfold bv; omega)
theorem bv_range (b : UInt8) : 0 ≤ bv b ∧ bv b < 256 := by have := UInt8.toNat_lt b; unfold bv; omega
theorem hexL_snoc (l : List UInt8) (b : UInt8) : hexL (l ++ [b]) = hexL l ++ [dg (b.toNat / 16), dg (b.toNat % 16)] := by simp [hexL]

set_option maxHeartbeats 2000000 in
set_option maxRecDepth 100000 in
theorem hex_any (s : ByteArray) (w : World) (hs : s.size ≤ 1000000) :
    Calls Tryz.prog 76 #[.string s] w fun e w' => e = .returned (.string ⟨(hexL s.data.toList).toArray⟩) ∧ Below w.heap.size w w' := by
  have hl : s.data.toList.length = s.size := Array.length_toList
  have hmk := arr_make (P := Tryz.prog) w 101 5 (.int .u8 0) 1 Tryz.underlying101 Tryz.infoByte rfl .i64 .i64 (2 * s.size) (by omega) (by omega)
  rw [show ((2 * s.size : Nat) : Int) = 2 * (s.size : Int) by omega] at hmk
  go_enter Tryz.func76, Tryz.ntmps76
  go_wp2
  go_loopw [3, 11] (fun v iv wr => ∃ k : Nat, k ≤ s.size ∧ iv = .int .i64 k ∧ Arr w.heap.size wr v (bys (hexL (s.data.toList.take k))) ∧ Below w.heap.size w wr) (fun _ iv _ => s.size - (intOf iv).toNat)
  case atStart => exact ⟨0, Nat.zero_le _, rfl, arr_made w _ _ _ (Nat.le_refl _) (by omega), (Below.refl _ _).alloc (Nat.le_refl _) _⟩
  case round =>
    obtain ⟨k, hk, rfl, harr, hbel⟩ := hrel
    have hsz := hbel.size
    by_cases hlt : k < s.size
    · have h01 : (0 : Int) ≤ k := by omega
      have h02 : (k : Int) < s.size := by omega
      obtain ⟨b, hb⟩ : ∃ b, s[k] = b := ⟨_, rfl⟩
      have hget : s.data.toList[k]? = some b := by rw [← hb]; exact Lib.data_getElem? s k hlt
      have hr := bv_range b
      have q0 : 0 ≤ bv b / 16 := by omega
      have q1 : bv b / 16 < 16 := by omega
      have q2 : 0 ≤ bv b % 16 := by omega
      have q3 : bv b % 16 < 16 := by omega
      have h15 := and15 b
      have n1 : (bv b / 16).toNat < 16 := by omega
      have n2 : (bv b % 16).toNat < 16 := by omega
      have m1 : (bv b / 16).toNat = b.toNat / 16 := by unfold bv; omega
      have m2 : (bv b % 16).toNat = b.toNat % 16 := by unfold bv; omega
      obtain ⟨x1, hx1⟩ : ∃ x, digB[(bv b / 16).toNat]'n1 = x := ⟨_, rfl⟩
      obtain ⟨x2, hx2⟩ : ∃ x, digB[(bv b % 16).toNat]'n2 = x := ⟨_, rfl⟩
      have hy1 : x1 = dg (b.toNat / 16) := by rw [← hx1, digB_at _ n1, m1]
      have hy2 : x2 = dg (b.toNat % 16) := by rw [← hx2, digB_at _ n2, m2]
      have HY1 := Lib.hid hy1
      have HY2 := Lib.hid hy2
      clear hy1 hy2 m1 m2
      unfold digB at hx1 hx2
      obtain ⟨a0, c0, hv⟩ := harr.form
      obtain ⟨N, hN⟩ : ∃ N, N = (bys (hexL (s.data.toList.take k))).length := ⟨_, rfl⟩
      rw [← hN] at hv
      subst hv
      have HA := Lib.hid harr
      have HB := Lib.hid hbel
      have HG := Lib.hid hget
      have hlen : (bys (hexL (s.data.toList.take k))).length ≤ 2000000 := by rw [bys_len, hexL_len, List.length_take]; omega
      have HLEN := Lib.hid hlen
      have HN := Lib.hid hN
      clear harr hbel hget hlen hN
      obtain ⟨w0, rfl⟩ : ∃ w0, w0 = wr := ⟨wr, rfl⟩
      go_wp2
      go_region_law (refine step_append_arr rfl (.tmp 14) (.tmp 25) 101 rfl 5 (.int .u8 0) 1 Tryz.underlying101 Tryz.infoByte rfl w.heap.size (.slice a0 N c0) _ [.int .u8 (bv x1), .int .u8 (bv x2)] (by simp [Act.eval]) (by exact (HA.out.alloc _).drew) w0.heap.size 2 2 (by simp [Act.eval]) rfl (by intro j u' hj; rw [cell_drew]; exact news_new j u' hj) one2 (Nat.zero_lt_succ _) (by show _ ≤ (w0.alloc _).heap.size; rw [sizeAl]; omega) (by have := HLEN.out; show _ + 2 ≤ _; omega) (by decide) ?_; intro v4 w4 harr4 hb4; obtain ⟨a4, c4, h4⟩ := harr4.form; have HA4 := Lib.hid harr4; have HB4 := Lib.hid hb4; have H4 := Lib.hid h4; clear harr4 hb4 h4)
      all_goals go_wp2
      all_goals refine ⟨⟨k + 1, hlt, by go_num, ?_, (HB.out.alloc hsz _).drew.trans (by exact HB4.out)⟩, by simp [intOf]; omega⟩
      all_goals rw [take_snoc HG.out, hexL_snoc, bys_app, ← HY1.out, ← HY2.out]
      all_goals exact HA4.out
    · have hke : k = s.size := by omega
      have hst := arr_string (P := Tryz.prog) harr 101 9 5 Tryz.underlying101 Tryz.underlying5 Tryz.underlying9
      have HST := Lib.hid hst
      have hcl : (hexL (s.data.toList.take k)) = hexL s.data.toList := by rw [List.take_of_length_le (by omega)]
      rw [hcl] at hst
      have HB := Lib.hid hbel
      clear harr hbel HST hcl
      obtain ⟨X, hX⟩ : ∃ X, X = hexL s.data.toList := ⟨_, rfl⟩
      rw [← hX] at hst
      have HX := Lib.hid hX
      clear hX
      go_wp2
      go_ret
      refine ⟨?_, HB.out⟩
      rw [← HX.out]; rfl
end Go.Proofs.YtgjcblginkdinaaGreatDoor
set_option linter.unusedVariables false
namespace Go.Proofs.YtgjcblginkdinaaGreatDoor
open Go.ChangeShapes Go.WideShapes Go.ChangeAt Go.RowKit

attribute [local go_sem] wd_byte wd_shr24 wd_shr16 wd_shr8

def H0 : St := ⟨0x6a09e667#32, 0xbb67ae85#32, 0x3c6ef372#32, 0xa54ff53a#32, 0x510e527f#32, 0x9b05688c#32, 0x1f83d9ab#32, 0x5be0cd19#32⟩
def sumL (s : List UInt8) : List UInt8 := shaP KK H0 s

theorem stW_len (S : St) : (stW S).length = 8 := rfl
theorem outW_snoc (l : List Wd) (x : Wd) : outW (l ++ [x]) = outW l ++ wdB x := by simp [outW]

theorem has8_new (w0 : World) (S : St) : Has8 (w0.alloc (.cells (uS S) 174)) w0.heap.size S := World.rowIs_alloc w0 (uS S) _ _ (fun i hi => by
  have hi8 : i < 8 := hi
  rw [Array.getElem?_eq_getElem hi, Array.getD_eq_getD_getElem?, Array.getElem?_eq_getElem hi]; rfl)

theorem Tryz.sz34o : (Tryz.prog.types[122]?).map (·.size) = some 1 := by kernel_rfl
theorem Tryz.sz34 (h : 122 < Tryz.prog.types.size) : (Tryz.prog.types[122]'h).size = 1 := by
  have := Tryz.sz34o
  rw [Array.getElem?_eq_getElem h] at this
  simpa using this
theorem Tryz.lt34 : 122 < Tryz.prog.types.size := by
  have := Tryz.sz34o
  rcases Nat.lt_or_ge 122 Tryz.prog.types.size with h | h
  · exact h
  · rw [Array.getElem?_eq_none h] at this
    cases this
theorem wpList_index_agg {P : Program} {w : World} {ops : Array Oper} {rest : List Oper} {o : Oper} {a : Act} {Q : Exit → Act → World → Prop} (hgd : o.guard = none) (t : TypeId) (x i : Operand) (ho : o.op = .index t x i) (v : Value)
    (hrun : (Instr.index t (a.eval x) (a.eval i)).run P w = .ok v w) (h : wpList P ops Q rest (a.put o.dst v) w) : wpList P ops Q (o :: rest) a w :=
  wpList_plain hgd fun K hK => by
    unfold Oper.wp execOp
    simp only [ho, Sem.run_bind, Sem.run_pure, hrun, Result.andThen_ok]
    exact hK _ _ h
theorem end_size (r : ByteArray) (n : Nat) (h : r.size ≤ 900000) : (⟨(endL r.data.toList n).toArray⟩ : ByteArray).size ≤ 1000000 := by
  show (endL r.data.toList n).toArray.size ≤ _
  have hl : r.data.toList.length = r.size := Array.length_toList
  have hz := zeros_lt r.data.toList.length
  rw [List.size_toArray]
  simp only [endL, List.length_append, List.length_replicate, bitsB_len, List.length_cons, List.length_nil]
  omega

set_option maxHeartbeats 4000000 in
set_option maxRecDepth 100000 in
theorem sum_any (s : ByteArray) (w : World) (hk : HasK w) (hs : s.size ≤ 100000) :
    Calls Tryz.prog 77 #[.string s] w fun e w' => e = .returned (.string ⟨(sumL s.data.toList).toArray⟩) ∧ Below w.heap.size w w' := by
  have hl : s.data.toList.length = s.size := Array.length_toList
  have HK := Lib.hid hk
  have HL := Lib.hid hl
  obtain ⟨m, hm⟩ : ∃ m : Nat, (s.size : Int) - (s.size : Int) % 64 = (m : Int) := ⟨s.size - s.size % 64, by omega⟩
  have hmN : m = s.size - s.size % 64 := by omega
  have hms : (m : Int) ≤ s.size := by omega
  have hm0 : (0 : Int) ≤ m := by omega
  have hmt : (s.size : Int).tmod 64 = (s.size : Int) % 64 := Int.tmod_eq_emod_of_nonneg (by omega)
  have hmw : IntKind.i64.wrap (m : Int) = (m : Int) := by rw [IntKind.wrap_i64]; omega
  have HMN := Lib.hid hmN
  clear hk hl hmN
  go_enter Tryz.func77, Tryz.ntmps77
  go_wp2_with fail
  refine (mixAll_any H0 s (w.alloc (.cells (uS H0) 174)) (HK.out.below ((Below.refl _ _).alloc (Nat.le_refl _) _)) (by omega)).mono ?_
  rintro e w1 ⟨rfl, hb1⟩
  have h81 : Has8 w1 w.heap.size H0 := Has8.below (has8_new w H0) hb1
  have hb1' : Below w.heap.size w w1 := ((Below.refl _ _).alloc (Nat.le_refl _) _).trans (hb1.mono (by rw [sizeAl]; omega))
  obtain ⟨⟨c0, c1, c2, c3, c4, c5, c6, c7⟩, z0, z1, z2, z3, z4, z5, z6, z7⟩ := h81.cells
  obtain ⟨S1, hS1⟩ : ∃ S, S = mixL KK (s.size / 64) H0 s.data.toList := ⟨_, rfl⟩
  rw [← hS1]
  have HS1 := Lib.hid hS1
  have H81 := Lib.hid h81
  have HB1 := Lib.hid hb1'
  clear hS1 h81 hb1 hb1'
  go_wp2
  obtain ⟨wz, hwz⟩ : ∃ wz, ((((((((w1.setCell ⟨w.heap.size, 0, none⟩ (.int .u32 (nv S1.a))).setCell ⟨w.heap.size, 1, none⟩ (.int .u32 (nv S1.b))).setCell ⟨w.heap.size, 2, none⟩ (.int .u32 (nv S1.c))).setCell ⟨w.heap.size, 3, none⟩ (.int .u32 (nv S1.d))).setCell ⟨w.heap.size, 4, none⟩ (.int .u32 (nv S1.e))).setCell ⟨w.heap.size, 5, none⟩ (.int .u32 (nv S1.f))).setCell ⟨w.heap.size, 6, none⟩ (.int .u32 (nv S1.g))).setCell ⟨w.heap.size, 7, none⟩ (.int .u32 (nv S1.h))) = wz := ⟨_, rfl⟩
  have h8z : Has8 wz w.heap.size S1 := by rw [← hwz]; exact Has8.set H81.out S1
  have hbz : Below w.heap.size w wz := by rw [← hwz]; exact below8 HB1.out (Nat.le_refl _)
  rw [hwz]
  obtain ⟨⟨a0, a1, a2, a3, a4, a5, a6, a7⟩, y0, y1, y2, y3, y4, y5, y6, y7⟩ := h8z.cells
  have H8 := Lib.hid h8z
  have HB := Lib.hid hbz
  have HKr := Lib.hid (HK.out.below hbz)
  clear hwz h8z hbz c0 c1 c2 c3 c4 c5 c6 c7 z0 z1 z2 z3 z4 z5 z6 z7
  go_region_with (first
    | (go_at_call 112
       refine (ending_any _ s.size _ (by rw [ByteArray.size_extract]; omega) (by omega)).mono ?_
       rintro e w4 ⟨rfl, hb4⟩
       obtain ⟨X, hX⟩ : ∃ X : ByteArray, X = ⟨(endL (s.extract m s.size).data.toList s.size).toArray⟩ := ⟨_, rfl⟩
       rw [← hX]
       have HX := Lib.hid hX
       clear hX
       have hr4 := Has8.below (S := S1) (b := w.heap.size) (by exact H8.out) hb4
       have hk4 := HasK.below (by exact HKr.out) hb4
       obtain ⟨⟨d0, d1, d2, d3, d4, d5, d6, d7⟩, x0, x1, x2, x3, x4, x5, x6, x7⟩ := hr4.cells
       have HR4 := Lib.hid hr4
       have HK4 := Lib.hid hk4
       have HB4 := Lib.hid hb4
       clear hr4 hk4 hb4)
    | (go_at_call 111
       refine (mixAll_any S1 X _ (by exact HK4.out) (by rw [HX.out]; exact end_size _ _ (by rw [ByteArray.size_extract]; omega))).mono ?_
       rintro e w5 ⟨rfl, hb5⟩
       obtain ⟨S2, hS2⟩ : ∃ S, S = mixL KK (X.size / 64) S1 X.data.toList := ⟨_, rfl⟩
       rw [← hS2]
       have HS2 := Lib.hid hS2
       clear hS2
       have hr5 := Has8.below (S := S1) (b := w.heap.size) (by exact HR4.out) hb5
       obtain ⟨⟨b0, b1, b2, b3, b4, b5, b6, b7⟩, v0, v1, v2, v3, v4, v5, v6, v7⟩ := hr5.cells
       have HR5 := Lib.hid hr5
       have HB5 := Lib.hid hb5
       clear hr5 hb5))
  all_goals
    obtain ⟨wq, hwq⟩ : ∃ wq, ((((((((w5.setCell ⟨w.heap.size, 0, none⟩ (.int .u32 (nv S2.a))).setCell ⟨w.heap.size, 1, none⟩ (.int .u32 (nv S2.b))).setCell ⟨w.heap.size, 2, none⟩ (.int .u32 (nv S2.c))).setCell ⟨w.heap.size, 3, none⟩ (.int .u32 (nv S2.d))).setCell ⟨w.heap.size, 4, none⟩ (.int .u32 (nv S2.e))).setCell ⟨w.heap.size, 5, none⟩ (.int .u32 (nv S2.f))).setCell ⟨w.heap.size, 6, none⟩ (.int .u32 (nv S2.g))).setCell ⟨w.heap.size, 7, none⟩ (.int .u32 (nv S2.h))) = wq := ⟨_, rfl⟩
    have h8q : Has8 wq w.heap.size S2 := by rw [← hwq]; exact Has8.set HR5.out S2
    have hbq : Below w.heap.size w wq := by
      rw [← hwq]
      exact below8 (Below.trans (Below.trans (by first | exact HB.out | exact HB.out.drew) (HB4.out.mono HB.out.size)) (HB5.out.mono (Nat.le_trans HB.out.size HB4.out.size))) (Nat.le_refl _)
    rw [hwq]
    obtain ⟨⟨g0, g1, g2, g3, g4, g5, g6, g7⟩, -⟩ := h8q.cells
    have hS : stW S2 = stW (mixL KK (X.size / 64) S1 X.data.toList) := by rw [HS2.out]
    have hsum : outW (stW S2) = sumL s.data.toList := by
      rw [hS, HX.out, HS1.out, sumL, shaP, HL.out]
      have e1 : (s.extract m s.size).data.toList = s.data.toList.drop m := by
        rw [Lib.extract_to_end]
      rw [← HMN.out, e1]
      rfl
    have h8q' := h8q
    have HSUM := Lib.hid hsum
    have HBQ := Lib.hid hbq
    clear hwq h8q hbq hsum hS
    clear hmt hmw hm
    have hltq : w.heap.size < wq.heap.size := World.rowIs.lt h8q'
    have hmk : (Instr.makeSlice 101 (.int .i64 0) (.int .i64 32)).run Tryz.prog wq = .ok (.slice (some ⟨wq.heap.size, 0, none⟩) 0 32) (wq.alloc (.cells (madeCells #[.int .u8 0] 32) 5)) :=
      arr_make (P := Tryz.prog) wq 101 5 (.int .u8 0) 1 Tryz.underlying101 Tryz.infoByte rfl .i64 .i64 32 (by omega) (by omega)
    go_wp2
    go_loopw [4, 26] (fun v iv wr => ∃ i : Nat, i ≤ 8 ∧ iv = .int .i64 i ∧ Arr w.heap.size wr v (bys (outW ((stW S2).take i))) ∧ Below w.heap.size w wr) (fun _ iv _ => 8 - (intOf iv).toNat)
    case atStart => exact ⟨0, by omega, rfl, arr_made wq _ 32 _ HBQ.out.size (by omega), HBQ.out.alloc HBQ.out.size _⟩
    case round =>
      obtain ⟨i, hi, rfl, harr, hbel⟩ := hrel
      have HBr := Lib.hid hbel
      have hszr := hbel.size
      by_cases hlt : i < 8
      · have hi8 : i = 0 ∨ i = 1 ∨ i = 2 ∨ i = 3 ∨ i = 4 ∨ i = 5 ∨ i = 6 ∨ i = 7 := by omega
        obtain ⟨p0, q0, hv⟩ := harr.form
        obtain ⟨N, hN⟩ : ∃ N, N = (bys (outW ((stW S2).take i))).length := ⟨_, rfl⟩
        rw [← hN] at hv
        subst hv
        have hNb : N ≤ 100 := by rw [hN, bys_len, outW_len, List.length_take, stW_len]; omega
        have HA := Lib.hid harr
        have HN := Lib.hid hN
        clear harr hbel hN hi
        have hts := Tryz.sz34 Tryz.lt34
        obtain ⟨xi, hxi⟩ : ∃ x, (stW S2)[i]? = some x := ⟨(stW S2)[i]'(by rw [stW_len]; exact hlt), List.getElem?_eq_getElem _⟩
        have hix : (Instr.index 174 (.agg #[.int .u32 (nv S2.a), .int .u32 (nv S2.b), .int .u32 (nv S2.c), .int .u32 (nv S2.d), .int .u32 (nv S2.e), .int .u32 (nv S2.f), .int .u32 (nv S2.g), .int .u32 (nv S2.h)]) (.int .i64 (i : Int))).run Tryz.prog wr = .ok (.int .u32 (nv xi)) wr := by
          have hu := Tryz.underlying174
          rcases hi8 with rfl | rfl | rfl | rfl | rfl | rfl | rfl | rfl <;> (obtain rfl := Option.some.inj hxi; simp [go_sem, Instr.index])
        have HIX := Lib.hid hix
        have HXI := Lib.hid hxi
        have h01 : (0 : Int) ≤ i := by omega
        have h02 : (i : Int) < 8 := by omega
        clear hix hxi hi8 hts
        go_wp2_with (first
          | (refine wpList_index_agg rfl 174 (.tmp 25) (.tmp 26) rfl (.int .u32 (nv xi)) HIX.out ?_)
          | (at_builtin; refine wpList_append_arr rfl _ _ 101 rfl 5 (.int .u8 0) 1 Tryz.underlying101 Tryz.infoByte rfl w.heap.size (.slice p0 N q0) _ (bys (wdB xi)) rfl (HA.out.alloc _) _ _ _ rfl rfl news_new one_map (Nat.zero_lt_succ _) (by rw [sizeAl]; omega) (by have := HN.out; rw [← this]; show _ + 4 ≤ _; omega) (by decide) ?_; rintro v8 w8 harr8 hb8))
        refine ⟨⟨i + 1, hlt, by go_num, ?_, (HBr.out.alloc hszr _).trans hb8⟩, by simp [intOf]; omega⟩
        rw [take_snoc HXI.out, outW_snoc, bys_app]
        exact harr8
      · have hie : i = 8 := by omega
        have hst := arr_string (P := Tryz.prog) harr 101 9 5 Tryz.underlying101 Tryz.underlying5 Tryz.underlying9
        have hcl : outW ((stW S2).take i) = sumL s.data.toList := by rw [hie, ← HSUM.out]; rfl
        rw [hcl] at hst
        clear harr hbel hcl hie
        obtain ⟨Y, hY⟩ : ∃ Y, Y = sumL s.data.toList := ⟨_, rfl⟩
        rw [← hY] at hst
        have HY := Lib.hid hY
        clear hY
        go_wp2
        go_ret
        refine ⟨?_, HBr.out⟩
        rw [← HY.out]; rfl
end Go.Proofs.YtgjcblginkdinaaGreatDoor
set_option linter.unusedVariables false
namespace Go.Proofs.YtgjcblginkdinaaGreatDoor
open Go.ChangeShapes Go.WideShapes Go.ChangeAt Go.RowKit

theorem sumL_len (s : List UInt8) : (sumL s).length = 32 := by rw [sumL, sha_same, shaR_len]

theorem name_any (s : ByteArray) (w : World) (hk : HasK w) (hs : s.size ≤ 100000) :
    Calls Tryz.prog 35 #[.string s] w fun e w' => e = .returned (.string ⟨(hexL (sumL s.data.toList)).toArray⟩) ∧ Below w.heap.size w w' := by
  have hc := sum_any s w hk hs
  have HC := Lib.hid hc
  have hl := sumL_len s.data.toList
  obtain ⟨X, hX⟩ : ∃ X, X = sumL s.data.toList := ⟨_, rfl⟩
  have HX := Lib.hid hX
  have hXl : X.length = 32 := by rw [hX]; exact hl
  clear hc hl hX
  go_enter Tryz.func35, Tryz.ntmps35
  go_wp2_with fail
  refine HC.out.mono ?_
  rintro e w1 ⟨rfl, hb1⟩
  rw [← HX.out]
  have HB1 := Lib.hid hb1
  clear hb1
  go_wp2_with fail
  refine (hex_any ⟨X.toArray⟩ w1 (by show X.toArray.size ≤ _; rw [List.size_toArray, hXl]; omega)).mono ?_
  rintro e w2 ⟨rfl, hb2⟩
  go_wp2
  go_ret
  refine ⟨?_, HB1.out.trans (hb2.mono HB1.out.size)⟩
  rw [← HX.out]; rfl
end Go.Proofs.YtgjcblginkdinaaGreatDoor
