/- The contract of the function that makes a text's ending. -/
import Derived.Test.YtnlmklbehldfcaaDoorArr
set_option linter.unusedVariables false
namespace Go.Proofs.YtnlmklbehldfcaaDoor
open Go.ChangeShapes Go.WideShapes Go.ChangeAt Go.RowKit

theorem Tryd.infoByte : (Tryd.prog.info? 5).map (fun i => (i.zero, i.size, i.bytes)) = some (some (.int .u8 0), 1, 1) := by kernel_rfl
attribute [local go_sem] bv_u8

theorem rep_succ (r : List UInt8) (j : Nat) : r ++ [128] ++ List.replicate j 0 ++ [0] = r ++ [128] ++ List.replicate (j + 1) 0 := by
  rw [List.replicate_succ', ← List.append_assoc]

def lenOf (v : Value) : Nat := match v with | .slice _ n _ => n | _ => 0

set_option maxHeartbeats 2000000 in
set_option maxRecDepth 100000 in
theorem ending_any (r : ByteArray) (n : Nat) (w : World) (hr : r.size ≤ 1000000) (hn : n ≤ 1000000) :
    Calls Tryd.prog 18 #[.string r, .int .i64 (n : Int)] w fun e w' => e = .returned (.string ⟨(endL r.data.toList n).toArray⟩) ∧ Below w.heap.size w w' := by
  have hl : r.data.toList.length = r.size := Array.length_toList
  obtain ⟨v0, w1, hrun, harr, hb1⟩ := arr_bytes (B := w.heap.size) (P := Tryd.prog) w 9 32 5 r Tryd.underlying9 Tryd.underlying32 Tryd.underlying5 (Nat.le_refl _) (by omega)
  obtain ⟨L, hL⟩ : ∃ L, L = r.data.toList := ⟨_, rfl⟩
  rw [← hL] at hl harr ⊢
  have HA := Lib.hid harr
  have HB := Lib.hid hb1
  have HL := Lib.hid hL
  have HLL := Lib.hid hl
  have hsz1 := hb1.size
  clear harr hb1 hL hl
  go_enter Tryd.func18, Tryd.ntmps18
  go_wp2_with (at_builtin; refine wpList_append_arr rfl _ _ 32 rfl 5 (.int .u8 0) 1 Tryd.underlying32 Tryd.infoByte rfl w.heap.size v0 (bys L) [.int .u8 128] rfl (HA.out.alloc _) _ _ _ rfl rfl news_new (by decide) (by decide) (by rw [sizeAl]; omega) (by rw [bys_len, HLL.out]; show _ + 1 ≤ _; omega) (by decide) ?_; rintro v2 w2 harr2 hb2)
  have HA2 : Hid (Arr w.heap.size w2 v2 (bys (L ++ [128] ++ List.replicate 0 0))) := Lib.hid (by rw [List.replicate_zero, List.append_nil, bys_app]; exact harr2)
  have HB2 : Hid (Below w.heap.size w w2) := Lib.hid ((HB.out.alloc hsz1 _).trans hb2)
  clear harr2 hb2
  go_loopw [5] (fun v wr => ∃ j : Nat, j ≤ zeros L.length ∧ Arr w.heap.size wr v (bys (L ++ [128] ++ List.replicate j 0)) ∧ Below w.heap.size w wr) (fun v _ => 2000000 - lenOf v)
  case atStart => exact ⟨0, Nat.zero_le _, HA2.out, HB2.out⟩
  case round =>
    obtain ⟨j, hj, harr, hbel⟩ := hrel
    have hz := zeros_lt L.length
    have hll := HLL.out
    obtain ⟨a, c, rfl⟩ := harr.form
    have hN : (bys (L ++ [128] ++ List.replicate j 0)).length = L.length + 1 + j := by simp [bys_len]; omega
    obtain ⟨N, hNe⟩ : ∃ N, N = (bys (L ++ [128] ++ List.replicate j 0)).length := ⟨_, rfl⟩
    rw [← hNe] at hN
    have HA3 := Lib.hid harr
    rw [← hNe] at HA3
    rw [← hNe]
    have HB3 := Lib.hid hbel
    have hsz3 := hbel.size
    have HNe := Lib.hid hNe
    have HJ := Lib.hid hj
    have HN := Lib.hid hN
    clear harr hbel hNe
    by_cases h56 : N % 64 = 56
    · have t1 : (((N : Int) % 64) == 56) = true := by rw [beq_iff_eq]; omega
      have t2 : (N : Int) % 64 = 56 := by omega
      have hje : j = zeros L.length := zeros_le (by rw [← hN]; exact h56) hj
      have HJE := Lib.hid hje
      have HH := Lib.hid h56
      clear hje h56 hj hN hz
      go_wp2
      have HA6 : Hid (Arr w.heap.size wr (.slice a N c) (bys (L ++ [128] ++ List.replicate (zeros L.length) 0 ++ bitsB n 0))) := Lib.hid (by
        rw [← HJE.out]
        show Arr _ _ _ (bys (_ ++ []))
        rw [List.append_nil]
        exact HA3.out)
      clear t1 t2
      go_loopw [5, 7] (fun v sv wr => ∃ i : Nat, i ≤ 8 ∧ sv = .int .i64 (56 - 8 * (i : Int)) ∧ Arr w.heap.size wr v (bys (L ++ [128] ++ List.replicate (zeros L.length) 0 ++ bitsB n i)) ∧ Below w.heap.size w wr) (fun _ sv _ => (intOf sv + 8).toNat)
      case atStart => exact ⟨0, by omega, rfl, HA6.out, HB3.out⟩
      case round =>
        obtain ⟨i, hi, rfl, harr, hbel⟩ := hrel
        obtain ⟨a6, c6, h6⟩ := harr.form
        obtain ⟨N6, hN6⟩ : ∃ N, N = (bys (L ++ [128] ++ List.replicate (zeros L.length) 0 ++ bitsB n i)).length := ⟨_, rfl⟩
        rw [← hN6] at h6
        subst h6
        have hN6' : N6 ≤ 1000200 := by
          rw [hN6, bys_len]
          have e1 := zeros_lt L.length
          have e2 := HLL.out
          simp [bitsB_len]; omega
        have HA7 := Lib.hid harr
        have HB7 := Lib.hid hbel
        have hsz7 := hbel.size
        have HN6 := Lib.hid hN6
        have HI := Lib.hid hi
        clear harr hbel hN6
        by_cases hlt : i < 8
        · obtain ⟨sh, hsh⟩ : ∃ sh : Nat, sh = 56 - 8 * i := ⟨_, rfl⟩
          have hsh' : (56 : Int) - 8 * (i : Int) = (sh : Int) := by omega
          have hs56 : (sh : Int) ≤ 56 := by omega
          obtain ⟨b, hb⟩ : ∃ b, b = UInt8.ofNat (n * 8 % 18446744073709551616 / 2 ^ (56 - 8 * i)) := ⟨_, rfl⟩
          have hval : IntKind.u8.wrap ((n : Int) * 8 / 2 ^ sh) = bv b := by
            rw [hb, ← hsh, IntKind.wrap_u8', bv, UInt8.toNat_ofNat', Nat.mod_eq_of_lt (by omega : n * 8 < 18446744073709551616)]
            rw [Int.natCast_emod, Int.natCast_ediv, Int.natCast_mul, Int.natCast_pow]
            rfl
          have HS := Lib.hid hsh
          have HBb := Lib.hid hb
          rw [hsh']
          have HSH := Lib.hid hsh'
          clear hsh hb hi hsh'
          go_wp2_with (at_builtin; refine wpList_append_arr rfl _ _ 32 rfl 5 (.int .u8 0) 1 Tryd.underlying32 Tryd.infoByte rfl w.heap.size _ _ [.int .u8 (bv b)] rfl (HA7.out.alloc _) _ _ _ rfl rfl news_new one1 (Nat.zero_lt_succ _) (by rw [sizeAl]; omega) (by rw [← HN6.out]; show _ + 1 ≤ _; omega) (by decide) ?_; rintro v8 w8 harr8 hb8)
          have harr9 : Arr w.heap.size w8 v8 (bys (L ++ [128] ++ List.replicate (zeros L.length) 0 ++ bitsB n (i + 1))) := by
            rw [bitsB_succ, ← List.append_assoc, bys_app, ← HBb.out]
            exact harr8
          refine ⟨⟨i + 1, by omega, by have := HSH.out; go_num, harr9, (HB7.out.alloc hsz7 _).trans hb8⟩, ?_⟩
          simp [intOf]; omega
        · have hie : i = 8 := by omega
          subst hie
          have hst := arr_string (P := Tryd.prog) HA7.out 32 9 5 Tryd.underlying32 Tryd.underlying5 Tryd.underlying9
          go_wp2
          go_ret
          refine ⟨?_, HB7.out⟩
          rw [endL, HLL.out]
          show Ending.returned (Value.string _) = Ending.returned (Value.string _)
          simp
    · have t1 : (((N : Int) % 64) == 56) = false := by rw [beq_eq_false_iff_ne]; omega
      have t2 : ¬ (N : Int) % 64 = 56 := by omega
      have hjl : j < zeros L.length := by
        rcases Nat.lt_or_ge j (zeros L.length) with h | h
        · exact h
        · exfalso
          have e : j = zeros L.length := by omega
          have := zeros_mod L.length
          rw [hN, e] at h56
          exact h56 this
      have HJL := Lib.hid hjl
      have HH := Lib.hid h56
      clear h56 hjl hj hN hz
      go_wp2_with (at_builtin; refine wpList_append_arr rfl _ _ 32 rfl 5 (.int .u8 0) 1 Tryd.underlying32 Tryd.infoByte rfl w.heap.size _ _ [.int .u8 0] rfl (HA3.out.alloc _) _ _ _ rfl rfl news_new (by decide) (by decide) (by rw [sizeAl]; omega) (by have e1 := HNe.out; have e2 := HN.out; have e3 := zeros_lt L.length; have e4 := HJL.out; rw [← e1]; show _ + 1 ≤ _; omega) (by decide) ?_; rintro v4 w4 harr4 hb4)
      have harr5 : Arr w.heap.size w4 v4 (bys (L ++ [128] ++ List.replicate (j + 1) 0)) := by
        rw [← rep_succ, bys_app]
        exact harr4
      obtain ⟨a5, c5, h5⟩ := harr5.form
      refine ⟨⟨j + 1, HJL.out, harr5, (HB3.out.alloc hsz3 _).trans hb4⟩, ?_⟩
      rw [h5]
      show 2000000 - (bys (L ++ [128] ++ List.replicate (j + 1) 0)).length < 2000000 - N
      have e3 := zeros_lt L.length
      have e4 := HJL.out
      have e5 := HN.out
      have e6 : (bys (L ++ [128] ++ List.replicate (j + 1) 0)).length = L.length + 1 + (j + 1) := by simp [bys_len]; omega
      omega
end Go.Proofs.YtnlmklbehldfcaaDoor
