/- The contract of the function that makes a text's ending. The contracts of the program's Sum and Name. -/
import Derived.Test.YthamfbfeokmhgaaGreatDoorU0
import Derived.Test.YthamfbfeokmhgaaGreatDoorU22
import Derived.Test.YthamfbfeokmhgaaGreatDoorU28
import Derived.Test.YthamfbfeokmhgaaGreatDoorU3
set_option linter.unusedVariables false
namespace Go.Proofs.YthamfbfeokmhgaaGreatDoor
open Go.ChangeShapes Go.WideShapes Go.ChangeAt Go.RowKit

attribute [local go_sem] bv_u8
set_option maxHeartbeats 2000000 in
set_option maxRecDepth 100000 in
theorem ending_any (r : ByteArray) (n : Nat) (w : World) (hr : r.size ≤ 1000000) (hn : n ≤ 1000000) :
    Calls Tryz.prog 74 #[.string r, .int .i64 (n : Int)] w fun e w' => e = .returned (.string ⟨(endL r.data.toList n).toArray⟩) ∧ Below w.heap.size w w' := by
  have hl : r.data.toList.length = r.size := Array.length_toList
  obtain ⟨v0, w1, hrun, harr, hb1⟩ := arr_bytes (B := w.heap.size) (P := Tryz.prog) w 9 79 5 r Tryz.underlying9 Tryz.underlying79 Tryz.underlying5 (Nat.le_refl _) (by omega)
  obtain ⟨L, hL⟩ : ∃ L, L = r.data.toList := ⟨_, rfl⟩
  rw [← hL] at hl harr ⊢
  have HA := Lib.hid harr
  have HB := Lib.hid hb1
  have HL := Lib.hid hL
  have HLL := Lib.hid hl
  have hsz1 := hb1.size
  clear harr hb1 hL hl
  go_enter Tryz.func74, Tryz.ntmps74
  go_wp2_with (at_builtin; refine wpList_append_arr rfl _ _ 79 rfl 5 (.int .u8 0) 1 Tryz.underlying79 Tryz.infoByte rfl w.heap.size v0 (bys L) [.int .u8 128] rfl (HA.out.alloc _) _ _ _ rfl rfl news_new (by decide) (by decide) (by rw [sizeAl]; omega) (by rw [bys_len, HLL.out]; show _ + 1 ≤ _; omega) (by decide) ?_; rintro v2 w2 harr2 hb2)
  have HA2 : Hid (Arr w.heap.size w2 v2 (bys (L ++ [128] ++ List.replicate 0 0))) := Lib.hid (by rw [List.replicate_zero, List.append_nil, bys_app]; exact harr2)
  have HB2 : Hid (Below w.heap.size w w2) := Lib.hid ((HB.out.alloc hsz1 _).trans hb2)
  clear harr2 hb2
  go_loopw [5] (fun v wr => ∃ j : Nat, j ≤ zeros L.length ∧ Arr w.heap.size wr v (bys (L ++ [128] ++ List.replicate j 0)) ∧ Below w.heap.size w wr) (fun v _ => 2000000 - lenOf v)
  case atStart => exact ⟨0, Nat.zero_le _, HA2.out, HB2.out⟩
  case round =>
    obtain ⟨j, hj, harr, hbel⟩ := hrel
    have hz := zeros_lt L.length
    have hll := HLL.out
    obtain ⟨a, c, rfl⟩ := harr.form
    have hN : (bys (L ++ [128] ++ List.replicate j 0)).length = L.length + 1 + j := by simp [bys_len]; omega
    obtain ⟨N, hNe⟩ : ∃ N, N = (bys (L ++ [128] ++ List.replicate j 0)).length := ⟨_, rfl⟩
    rw [← hNe] at hN
    have HA3 := Lib.hid harr
    rw [← hNe] at HA3
    rw [← hNe]
    have HB3 := Lib.hid hbel
    have hsz3 := hbel.size
    have HNe := Lib.hid hNe
    have HJ := Lib.hid hj
    have HN := Lib.hid hN
    clear harr hbel hNe
    by_cases h56 : N % 64 = 56
    · have t1 : (((N : Int) % 64) == 56) = true := by rw [beq_iff_eq]; omega
      have t2 : (N : Int) % 64 = 56 := by omega
      have hje : j = zeros L.length := zeros_le (by rw [← hN]; exact h56) hj
      have HJE := Lib.hid hje
      have HH := Lib.hid h56
      clear hje h56 hj hN hz
      go_wp2
      have HA6 : Hid (Arr w.heap.size wr (.slice a N c) (bys (L ++ [128] ++ List.replicate (zeros L.length) 0 ++ bitsB n 0))) := Lib.hid (by
        rw [← HJE.out]
        show Arr _ _ _ (bys (_ ++ []))
        rw [List.append_nil]
        exact HA3.out)
      clear t1 t2
      go_loopw [5, 7] (fun v sv wr => ∃ i : Nat, i ≤ 8 ∧ sv = .int .i64 (56 - 8 * (i : Int)) ∧ Arr w.heap.size wr v (bys (L ++ [128] ++ List.replicate (zeros L.length) 0 ++ bitsB n i)) ∧ Below w.heap.size w wr) (fun _ sv _ => (intOf sv + 8).toNat)
      case atStart => exact ⟨0, by omega, rfl, HA6.out, HB3.out⟩
      case round =>
        obtain ⟨i, hi, rfl, harr, hbel⟩ := hrel
        obtain ⟨a6, c6, h6⟩ := harr.form
        obtain ⟨N6, hN6⟩ : ∃ N, N = (bys (L ++ [128] ++ List.replicate (zeros L.length) 0 ++ bitsB n i)).length := ⟨_, rfl⟩
        rw [← hN6] at h6
        subst h6
        have hN6' : N6 ≤ 1000200 := by
          rw [hN6, bys_len]
          have e1 := zeros_lt L.length
          have e2 := HLL.out
          simp [bitsB_len]; omega
        have HA7 := Lib.hid harr
        have HB7 := Lib.hid hbel
        have hsz7 := hbel.size
        have HN6 := Lib.hid hN6
        have HI := Lib.hid hi
        clear harr hbel hN6
        by_cases hlt : i < 8
        · obtain ⟨sh, hsh⟩ : ∃ sh : Nat, sh = 56 - 8 * i := ⟨_, rfl⟩
          have hsh' : (56 : Int) - 8 * (i : Int) = (sh : Int) := by omega
          have hs56 : (sh : Int) ≤ 56 := by omega
          obtain ⟨b, hb⟩ : ∃ b, b = UInt8.ofNat (n * 8 % 18446744073709551616 / 2 ^ (56 - 8 * i)) := ⟨_, rfl⟩
          have hval : IntKind.u8.wrap ((n : Int) * 8 / 2 ^ sh) = bv b := by
            rw [hb, ← hsh, IntKind.wrap_u8', bv, UInt8.toNat_ofNat', Nat.mod_eq_of_lt (by omega : n * 8 < 18446744073709551616)]
            rw [Int.natCast_emod, Int.natCast_ediv, Int.natCast_mul, Int.natCast_pow]
            rfl
          have HS := Lib.hid hsh
          have HBb := Lib.hid hb
          rw [hsh']
          have HSH := Lib.hid hsh'
          clear hsh hb hi hsh'
          go_wp2_with (at_builtin; refine wpList_append_arr rfl _ _ 79 rfl 5 (.int .u8 0) 1 Tryz.underlying79 Tryz.infoByte rfl w.heap.size _ _ [.int .u8 (bv b)] rfl (HA7.out.alloc _) _ _ _ rfl rfl news_new one1 (Nat.zero_lt_succ _) (by rw [sizeAl]; omega) (by rw [← HN6.out]; show _ + 1 ≤ _; omega) (by decide) ?_; rintro v8 w8 harr8 hb8)
          have harr9 : Arr w.heap.size w8 v8 (bys (L ++ [128] ++ List.replicate (zeros L.length) 0 ++ bitsB n (i + 1))) := by
            rw [bitsB_succ, ← List.append_assoc, bys_app, ← HBb.out]
            exact harr8
          refine ⟨⟨i + 1, by omega, by have := HSH.out; go_num, harr9, (HB7.out.alloc hsz7 _).trans hb8⟩, ?_⟩
          simp [intOf]; omega
        · have hie : i = 8 := by omega
          subst hie
          have hst := arr_string (P := Tryz.prog) HA7.out 79 9 5 Tryz.underlying79 Tryz.underlying5 Tryz.underlying9
          go_wp2
          go_ret
          refine ⟨?_, HB7.out⟩
          rw [endL, HLL.out]
          show Ending.returned (Value.string _) = Ending.returned (Value.string _)
          simp
    · have t1 : (((N : Int) % 64) == 56) = false := by rw [beq_eq_false_iff_ne]; omega
      have t2 : ¬ (N : Int) % 64 = 56 := by omega
      have hjl : j < zeros L.length := by
        rcases Nat.lt_or_ge j (zeros L.length) with h | h
        · exact h
        · exfalso
          have e : j = zeros L.length := by omega
          have := zeros_mod L.length
          rw [hN, e] at h56
          exact h56 this
      have HJL := Lib.hid hjl
      have HH := Lib.hid h56
      clear h56 hjl hj hN hz
      go_wp2_with (at_builtin; refine wpList_append_arr rfl _ _ 79 rfl 5 (.int .u8 0) 1 Tryz.underlying79 Tryz.infoByte rfl w.heap.size _ _ [.int .u8 0] rfl (HA3.out.alloc _) _ _ _ rfl rfl news_new (by decide) (by decide) (by rw [sizeAl]; omega) (by have e1 := HNe.out; have e2 := HN.out; have e3 := zeros_lt L.length; have e4 := HJL.out; rw [← e1]; show _ + 1 ≤ _; omega) (by decide) ?_; rintro v4 w4 harr4 hb4)
      have harr5 : Arr w.heap.size w4 v4 (bys (L ++ [128] ++ List.replicate (j + 1) 0)) := by
        rw [← rep_succ, bys_app]
        exact harr4
      obtain ⟨a5, c5, h5⟩ := harr5.form
      refine ⟨⟨j + 1, HJL.out, harr5, (HB3.out.alloc hsz3 _).trans hb4⟩, ?_⟩
      rw [h5]
      show 2000000 - (bys (L ++ [128] ++ List.replicate (j + 1) 0)).length < 2000000 - N
      have e3 := zeros_lt L.length
      have e4 := HJL.out
      have e5 := HN.out
      have e6 : (bys (L ++ [128] ++ List.replicate (j + 1) 0)).length = L.length + 1 + (j + 1) := by simp [bys_len]; omega
      omega
end Go.Proofs.YthamfbfeokmhgaaGreatDoor
set_option linter.unusedVariables false
namespace Go.Proofs.YthamfbfeokmhgaaGreatDoor
open Go.ChangeShapes Go.WideShapes Go.ChangeAt Go.RowKit

attribute [local go_sem] wd_byte wd_shr24 wd_shr16 wd_shr8
theorem stW_len (S : St) : (stW S).length = 8 := rfl
theorem outW_snoc (l : List Wd) (x : Wd) : outW (l ++ [x]) = outW l ++ wdB x := by simp [outW]
theorem has8_new (w0 : World) (S : St) : Has8 (w0.alloc (.cells (uS S) 151)) w0.heap.size S := World.rowIs_alloc w0 (uS S) _ _ (fun i hi => by
  have hi8 : i < 8 := hi
  rw [Array.getElem?_eq_getElem hi, Array.getD_eq_getD_getElem?, Array.getElem?_eq_getElem hi]; rfl)
theorem Tryz.sz34o : (Tryz.prog.types[150]?).map (·.size) = some 1 := by kernel_rfl
theorem Tryz.sz34 (h : 150 < Tryz.prog.types.size) : (Tryz.prog.types[150]'h).size = 1 := by
  have := Tryz.sz34o
  rw [Array.getElem?_eq_getElem h] at this
  simpa using this
theorem Tryz.lt34 : 150 < Tryz.prog.types.size := by
  have := Tryz.sz34o
  rcases Nat.lt_or_ge 150 Tryz.prog.types.size with h | h
  · exact h
  · rw [Array.getElem?_eq_none h] at this
    cases this
theorem one4 {k : IntKind} {a b c d : Int} : ∀ u ∈ [Value.int k a, Value.int k b, Value.int k c, Value.int k d], u.oneCell' = true := by
  intro u hu
  simp only [List.mem_cons, List.not_mem_nil, or_false] at hu
  rcases hu with rfl | rfl | rfl | rfl <;> rfl
theorem wpList_index_agg {P : Program} {w : World} {ops : Array Oper} {rest : List Oper} {o : Oper} {a : Act} {Q : Exit → Act → World → Prop} (hgd : o.guard = none) (t : TypeId) (x i : Operand) (ho : o.op = .index t x i) (v : Value)
    (hrun : (Instr.index t (a.eval x) (a.eval i)).run P w = .ok v w) (h : wpList P ops Q rest (a.put o.dst v) w) : wpList P ops Q (o :: rest) a w :=
  wpList_plain hgd fun K hK => by
    unfold Oper.wp execOp
    simp only [ho, Sem.run_bind, Sem.run_pure, hrun, Result.andThen_ok]
    exact hK _ _ h
theorem end_size (r : ByteArray) (n : Nat) (h : r.size ≤ 900000) : (⟨(endL r.data.toList n).toArray⟩ : ByteArray).size ≤ 1000000 := by
  show (endL r.data.toList n).toArray.size ≤ _
  have hl : r.data.toList.length = r.size := Array.length_toList
  have hz := zeros_lt r.data.toList.length
  rw [List.size_toArray]
  simp only [endL, List.length_append, List.length_replicate, bitsB_len, List.length_cons, List.length_nil]
  omega
set_option maxHeartbeats 4000000 in
set_option maxRecDepth 100000 in
theorem sum_any (s : ByteArray) (w : World) (hk : HasK w) (hs : s.size ≤ 100000) :
    Calls Tryz.prog 52 #[.string s] w fun e w' => e = .returned (.string ⟨(sumL s.data.toList).toArray⟩) ∧ Below w.heap.size w w' := by
  have hl : s.data.toList.length = s.size := Array.length_toList
  have HK := Lib.hid hk
  have HL := Lib.hid hl
  obtain ⟨m, hm⟩ : ∃ m : Nat, (s.size : Int) - (s.size : Int) % 64 = (m : Int) := ⟨s.size - s.size % 64, by omega⟩
  have hmN : m = s.size - s.size % 64 := by omega
  have hms : (m : Int) ≤ s.size := by omega
  have hm0 : (0 : Int) ≤ m := by omega
  have hmt : (s.size : Int).tmod 64 = (s.size : Int) % 64 := Int.tmod_eq_emod_of_nonneg (by omega)
  have hmw : IntKind.i64.wrap (m : Int) = (m : Int) := by rw [IntKind.wrap_i64]; omega
  have HMN := Lib.hid hmN
  clear hk hl hmN
  go_enter Tryz.func52, Tryz.ntmps52
  go_wp2_with fail
  refine (mixAll_any H0 s (w.alloc (.cells (uS H0) 151)) (HK.out.below ((Below.refl _ _).alloc (Nat.le_refl _) _)) (by omega)).mono ?_
  rintro e w1 ⟨rfl, hb1⟩
  have h81 : Has8 w1 w.heap.size H0 := Has8.below (has8_new w H0) hb1
  have hb1' : Below w.heap.size w w1 := ((Below.refl _ _).alloc (Nat.le_refl _) _).trans (hb1.mono (by rw [sizeAl]; omega))
  obtain ⟨⟨c0, c1, c2, c3, c4, c5, c6, c7⟩, z0, z1, z2, z3, z4, z5, z6, z7⟩ := h81.cells
  obtain ⟨S1, hS1⟩ : ∃ S, S = mixL KK (s.size / 64) H0 s.data.toList := ⟨_, rfl⟩
  rw [← hS1]
  have HS1 := Lib.hid hS1
  have H81 := Lib.hid h81
  have HB1 := Lib.hid hb1'
  clear hS1 h81 hb1 hb1'
  go_wp2
  obtain ⟨wz, hwz⟩ : ∃ wz, ((((((((w1.setCell ⟨w.heap.size, 0, none⟩ (.int .u32 (nv S1.a))).setCell ⟨w.heap.size, 1, none⟩ (.int .u32 (nv S1.b))).setCell ⟨w.heap.size, 2, none⟩ (.int .u32 (nv S1.c))).setCell ⟨w.heap.size, 3, none⟩ (.int .u32 (nv S1.d))).setCell ⟨w.heap.size, 4, none⟩ (.int .u32 (nv S1.e))).setCell ⟨w.heap.size, 5, none⟩ (.int .u32 (nv S1.f))).setCell ⟨w.heap.size, 6, none⟩ (.int .u32 (nv S1.g))).setCell ⟨w.heap.size, 7, none⟩ (.int .u32 (nv S1.h))) = wz := ⟨_, rfl⟩
  have h8z : Has8 wz w.heap.size S1 := by rw [← hwz]; exact Has8.set H81.out S1
  have hbz : Below w.heap.size w wz := by rw [← hwz]; exact below8 HB1.out (Nat.le_refl _)
  rw [hwz]
  obtain ⟨⟨a0, a1, a2, a3, a4, a5, a6, a7⟩, y0, y1, y2, y3, y4, y5, y6, y7⟩ := h8z.cells
  have H8 := Lib.hid h8z
  have HB := Lib.hid hbz
  have HKr := Lib.hid (HK.out.below hbz)
  clear hwz h8z hbz c0 c1 c2 c3 c4 c5 c6 c7 z0 z1 z2 z3 z4 z5 z6 z7
  go_region_with (first
    | (go_at_call 74
       refine (ending_any _ s.size _ (by rw [ByteArray.size_extract]; omega) (by omega)).mono ?_
       rintro e w4 ⟨rfl, hb4⟩
       obtain ⟨X, hX⟩ : ∃ X : ByteArray, X = ⟨(endL (s.extract m s.size).data.toList s.size).toArray⟩ := ⟨_, rfl⟩
       rw [← hX]
       have HX := Lib.hid hX
       clear hX
       have hr4 := Has8.below (S := S1) (b := w.heap.size) (by exact H8.out) hb4
       have hk4 := HasK.below (by exact HKr.out) hb4
       obtain ⟨⟨d0, d1, d2, d3, d4, d5, d6, d7⟩, x0, x1, x2, x3, x4, x5, x6, x7⟩ := hr4.cells
       have HR4 := Lib.hid hr4
       have HK4 := Lib.hid hk4
       have HB4 := Lib.hid hb4
       clear hr4 hk4 hb4)
    | (go_at_call 73
       refine (mixAll_any S1 X _ (by exact HK4.out) (by rw [HX.out]; exact end_size _ _ (by rw [ByteArray.size_extract]; omega))).mono ?_
       rintro e w5 ⟨rfl, hb5⟩
       obtain ⟨S2, hS2⟩ : ∃ S, S = mixL KK (X.size / 64) S1 X.data.toList := ⟨_, rfl⟩
       rw [← hS2]
       have HS2 := Lib.hid hS2
       clear hS2
       have hr5 := Has8.below (S := S1) (b := w.heap.size) (by exact HR4.out) hb5
       obtain ⟨⟨b0, b1, b2, b3, b4, b5, b6, b7⟩, v0, v1, v2, v3, v4, v5, v6, v7⟩ := hr5.cells
       have HR5 := Lib.hid hr5
       have HB5 := Lib.hid hb5
       clear hr5 hb5))
  all_goals
    obtain ⟨wq, hwq⟩ : ∃ wq, ((((((((w5.setCell ⟨w.heap.size, 0, none⟩ (.int .u32 (nv S2.a))).setCell ⟨w.heap.size, 1, none⟩ (.int .u32 (nv S2.b))).setCell ⟨w.heap.size, 2, none⟩ (.int .u32 (nv S2.c))).setCell ⟨w.heap.size, 3, none⟩ (.int .u32 (nv S2.d))).setCell ⟨w.heap.size, 4, none⟩ (.int .u32 (nv S2.e))).setCell ⟨w.heap.size, 5, none⟩ (.int .u32 (nv S2.f))).setCell ⟨w.heap.size, 6, none⟩ (.int .u32 (nv S2.g))).setCell ⟨w.heap.size, 7, none⟩ (.int .u32 (nv S2.h))) = wq := ⟨_, rfl⟩
    have h8q : Has8 wq w.heap.size S2 := by rw [← hwq]; exact Has8.set HR5.out S2
    have hbq : Below w.heap.size w wq := by
      rw [← hwq]
      exact below8 (Below.trans (Below.trans (by first | exact HB.out | exact HB.out.drew) (HB4.out.mono HB.out.size)) (HB5.out.mono (Nat.le_trans HB.out.size HB4.out.size))) (Nat.le_refl _)
    rw [hwq]
    obtain ⟨⟨g0, g1, g2, g3, g4, g5, g6, g7⟩, -⟩ := h8q.cells
    have hS : stW S2 = stW (mixL KK (X.size / 64) S1 X.data.toList) := by rw [HS2.out]
    have hsum : outW (stW S2) = sumL s.data.toList := by
      rw [hS, HX.out, HS1.out, sumL, shaP, HL.out]
      have e1 : (s.extract m s.size).data.toList = s.data.toList.drop m := by
        rw [Lib.extract_to_end]
      rw [← HMN.out, e1]
      rfl
    have h8q' := h8q
    have HSUM := Lib.hid hsum
    have HBQ := Lib.hid hbq
    clear hwq h8q hbq hsum hS
    clear hmt hmw hm
    have hltq : w.heap.size < wq.heap.size := World.rowIs.lt h8q'
    have hmk : (Instr.makeSlice 79 (.int .i64 0) (.int .i64 32)).run Tryz.prog wq = .ok (.slice (some ⟨wq.heap.size, 0, none⟩) 0 32) (wq.alloc (.cells (madeCells #[.int .u8 0] 32) 5)) :=
      arr_make (P := Tryz.prog) wq 79 5 (.int .u8 0) 1 Tryz.underlying79 Tryz.infoByte rfl .i64 .i64 32 (by omega) (by omega)
    go_wp2
    go_loopw [4, 26] (fun v iv wr => ∃ i : Nat, i ≤ 8 ∧ iv = .int .i64 i ∧ Arr w.heap.size wr v (bys (outW ((stW S2).take i))) ∧ Below w.heap.size w wr) (fun _ iv _ => 8 - (intOf iv).toNat)
    case atStart => exact ⟨0, by omega, rfl, arr_made wq _ 32 _ HBQ.out.size (by omega), HBQ.out.alloc HBQ.out.size _⟩
    case round =>
      obtain ⟨i, hi, rfl, harr, hbel⟩ := hrel
      have HBr := Lib.hid hbel
      have hszr := hbel.size
      by_cases hlt : i < 8
      · have hi8 : i = 0 ∨ i = 1 ∨ i = 2 ∨ i = 3 ∨ i = 4 ∨ i = 5 ∨ i = 6 ∨ i = 7 := by omega
        obtain ⟨p0, q0, hv⟩ := harr.form
        obtain ⟨N, hN⟩ : ∃ N, N = (bys (outW ((stW S2).take i))).length := ⟨_, rfl⟩
        rw [← hN] at hv
        subst hv
        have hNb : N ≤ 100 := by rw [hN, bys_len, outW_len, List.length_take, stW_len]; omega
        have HA := Lib.hid harr
        have HN := Lib.hid hN
        clear harr hbel hN hi
        have hts := Tryz.sz34 Tryz.lt34
        obtain ⟨xi, hxi⟩ : ∃ x, (stW S2)[i]? = some x := ⟨(stW S2)[i]'(by rw [stW_len]; exact hlt), List.getElem?_eq_getElem _⟩
        have hix : (Instr.index 151 (.agg #[.int .u32 (nv S2.a), .int .u32 (nv S2.b), .int .u32 (nv S2.c), .int .u32 (nv S2.d), .int .u32 (nv S2.e), .int .u32 (nv S2.f), .int .u32 (nv S2.g), .int .u32 (nv S2.h)]) (.int .i64 (i : Int))).run Tryz.prog wr = .ok (.int .u32 (nv xi)) wr := by
          have hu := Tryz.underlying151
          rcases hi8 with rfl | rfl | rfl | rfl | rfl | rfl | rfl | rfl <;> (obtain rfl := Option.some.inj hxi; simp [go_sem, Instr.index])
        have HIX := Lib.hid hix
        have HXI := Lib.hid hxi
        have h01 : (0 : Int) ≤ i := by omega
        have h02 : (i : Int) < 8 := by omega
        clear hix hxi hi8 hts
        go_wp2_with (first
          | (refine wpList_index_agg rfl 151 (.tmp 25) (.tmp 26) rfl (.int .u32 (nv xi)) HIX.out ?_)
          | (at_builtin; refine wpList_append_arr rfl _ _ 79 rfl 5 (.int .u8 0) 1 Tryz.underlying79 Tryz.infoByte rfl w.heap.size (.slice p0 N q0) _ (bys (wdB xi)) rfl (HA.out.alloc _) _ _ _ rfl rfl news_new one_map (Nat.zero_lt_succ _) (by rw [sizeAl]; omega) (by have := HN.out; rw [← this]; show _ + 4 ≤ _; omega) (by decide) ?_; rintro v8 w8 harr8 hb8))
        refine ⟨⟨i + 1, hlt, by go_num, ?_, (HBr.out.alloc hszr _).trans hb8⟩, by simp [intOf]; omega⟩
        rw [take_snoc HXI.out, outW_snoc, bys_app]
        exact harr8
      · have hie : i = 8 := by omega
        have hst := arr_string (P := Tryz.prog) harr 79 9 5 Tryz.underlying79 Tryz.underlying5 Tryz.underlying9
        have hcl : outW ((stW S2).take i) = sumL s.data.toList := by rw [hie, ← HSUM.out]; rfl
        rw [hcl] at hst
        clear harr hbel hcl hie
        obtain ⟨Y, hY⟩ : ∃ Y, Y = sumL s.data.toList := ⟨_, rfl⟩
        rw [← hY] at hst
        have HY := Lib.hid hY
        clear hY
        go_wp2
        go_ret
        refine ⟨?_, HBr.out⟩
        rw [← HY.out]; rfl
end Go.Proofs.YthamfbfeokmhgaaGreatDoor
