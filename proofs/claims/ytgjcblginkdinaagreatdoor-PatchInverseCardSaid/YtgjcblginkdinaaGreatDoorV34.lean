/- The contracts of the document's ref, line and op. -/
import Derived.Test.YtgjcblginkdinaaGreatDoorV21
import Derived.Test.YtgjcblginkdinaaGreatDoorV33
set_option linter.unusedVariables false
set_option linter.unusedSimpArgs false
namespace Go.Proofs.YtgjcblginkdinaaGreatDoor
open Go.ChangeShapes Go.WideShapes Go.ChangeAt Go.RowKit

set_option maxHeartbeats 1000000 in
theorem rref_any (deps made : Nat) (r : Rf) (w : World) (hm : made ≤ 4611686018427387904) (hd : deps ≤ 4611686018427387904) :
    Calls Tryz.prog 106 #[rfV r, .int .i64 (made : Nat), .int .i64 (deps : Nat)] w fun e w' => e = .returned (.bool (refB deps made r)) ∧ Below w.heap.size w w' := by
  obtain ⟨x, y⟩ := r
  have hb1 : ∀ o1, Below w.heap.size w (w.alloc o1) := fun o1 => ((Below.refl _ _).alloc (Nat.le_refl _) _)
  have HB := Lib.hid hb1
  clear hb1
  by_cases h1 : x = -1
  · have hr : refB deps made ⟨x, y⟩ = (decide (y = 0) || decide (y = 1)) := by simp [refB, h1]
    rw [hr]
    subst h1
    clear hr
    go_enter Tryz.func106, Tryz.ntmps106
    go_wp2
    all_goals go_ret
    all_goals refine ⟨ret_bool ?_, HB.out _⟩
    all_goals (apply Bool.eq_iff_iff.2; simp; try omega)
  · have e1 := neI h1
    by_cases h2 : x = -2
    · have hr : refB deps made ⟨x, y⟩ = (decide (0 ≤ y) && decide (y < made)) := by simp [refB, h2]
      rw [hr]
      subst h2
      clear hr
      go_enter Tryz.func106, Tryz.ntmps106
      go_wp2
      all_goals go_ret
      all_goals refine ⟨ret_bool ?_, HB.out _⟩
      all_goals (apply Bool.eq_iff_iff.2; simp; try omega)
    · have e2 := neI h2
      have hr : refB deps made ⟨x, y⟩ = (decide (0 ≤ x) && decide (x < deps) && decide (0 ≤ y) && decide (y < 300)) := by simp [refB, h1, h2]
      rw [hr]
      clear hr
      go_enter Tryz.func106, Tryz.ntmps106
      go_wp2
      all_goals go_ret
      all_goals refine ⟨ret_bool ?_, HB.out _⟩
      all_goals (apply Bool.eq_iff_iff.2; simp; try omega)

theorem u8_ten_t {b : UInt8} (h : b = 10) : ((b.toNat : Int) == 10) = true := by subst h; rfl
theorem u8_ten_f {b : UInt8} (h : b ≠ 10) : ((b.toNat : Int) == 10) = false := by
  rw [beq_eq_false_iff_ne]
  intro e
  apply h
  apply UInt8.toNat_inj.1
  show b.toNat = 10
  omega
theorem lineB_ten {s : ByteArray} {k : Nat} (hk : k < s.size) (h : s[k] = 10) : lineB s = false := by
  have : s.data.toList.contains 10 = true := List.contains_iff_mem.2 (List.mem_iff_getElem?.2 ⟨k, by rw [byte_at hk, h]⟩)
  unfold lineB
  rw [this]; simp
theorem lineB_no {s : ByteArray} (h : ∀ j, j < s.size → s.data.toList[j]? ≠ some 10) : lineB s = (decide (s.size ≤ 500) && !mk s.data.toList) := by
  have : s.data.toList.contains 10 = false := by
    rw [Bool.eq_false_iff]
    intro hm
    obtain ⟨j, hj⟩ := List.mem_iff_getElem?.1 (List.contains_iff_mem.1 hm)
    have hl : s.data.toList.length = s.size := Array.length_toList
    exact h j (by have := (List.getElem?_eq_some_iff.1 hj).1; omega) hj
  unfold lineB
  rw [this]; simp

set_option maxHeartbeats 1000000 in
set_option maxRecDepth 100000 in
theorem rline_any (s : ByteArray) (w : World) (hs : s.size ≤ 140737488355328) :
    Calls Tryz.prog 109 #[.string s] w fun e w' => e = .returned (.bool (lineB s)) ∧ Below w.heap.size w w' := by
  have hc : ∀ wz, Calls Tryz.prog 131 #[.string s] wz fun e w' => e = .returned (.bool (mk s.data.toList)) ∧ Below wz.heap.size wz w' := fun wz => rmarker_any s wz (by omega)
  have HC := Lib.hid hc
  clear hc
  go_enter Tryz.func109, Tryz.ntmps109
  go_wp2_with fail
  go_loopw [3] (fun i wr => ∃ k : Nat, k ≤ s.size ∧ i = .int .i64 k ∧ Below w.heap.size w wr ∧ Hid (∀ j, j < k → s.data.toList[j]? ≠ some 10)) (fun i _ => s.size - (intOf i).toNat)
  case atStart => exact ⟨0, Nat.zero_le _, rfl, Below.refl _ _, Lib.hid fun j hj => absurd hj (Nat.not_lt_zero _)⟩
  case round =>
    obtain ⟨k, hk, rfl, hb, HA⟩ := hrel
    by_cases hlt : k < s.size
    · by_cases h10 : s[k] = 10
      · have e1 := u8_ten_t h10
        have HT := Lib.hid (lineB_ten hlt h10)
        clear h10
        go_wp2_with fail
        go_ret
        exact ⟨by rw [HT.out]; rfl, hb⟩
      · have e1 := u8_ten_f h10
        have HT := Lib.hid h10
        clear h10
        go_wp2_with fail
        refine ⟨⟨k + 1, by omega, by go_num, hb, Lib.hid fun j hj => ?_⟩, by simp [intOf]; omega⟩
        by_cases ej : j = k
        · rw [ej, byte_at hlt]
          exact fun e => HT.out (Option.some.inj e)
        · exact HA.out j (by omega)
    · have HL := Lib.hid (lineB_no (s := s) (fun j hj => HA.out j (by omega)))
      by_cases h5 : s.size ≤ 500
      · have g1 : ((s.size : Int) ≤ 500) := by omega
        obtain ⟨B, hB⟩ : ∃ B, B = mk s.data.toList := ⟨_, rfl⟩
        rw [← hB] at HC HL
        clear hB
        go_wp2_with fail
        refine (HC.out _).mono ?_
        rintro e w2 ⟨rfl, hb2⟩
        have HB2 := Lib.hid (hb.trans (hb2.mono hb.size))
        clear hb2
        go_wp2_with fail
        go_ret
        exact ⟨by rw [HL.out, decide_eq_true h5]; simp, HB2.out⟩
      · have g1 : ¬ ((s.size : Int) ≤ 500) := by omega
        go_wp2_with fail
        go_ret
        exact ⟨by rw [HL.out, decide_eq_false h5]; simp, hb⟩

theorem rtop_any (w : World) : Calls Tryz.prog 108 #[] w fun e w' => e = .returned (.agg #[.int .i64 (-1), .int .i64 0]) ∧ Below w.heap.size w w' := by
  go_enter Tryz.func108, Tryz.ntmps108
  go_wp2_with fail
  refine bodyPost_ret (v := .agg #[.int .i64 (-1), .int .i64 0]) ?_ rfl ⟨rfl, ?_⟩
  · simp [results, Tryz.results108, go_sem]
  · exact (Below.refl _ _).alloc (Nat.le_refl _) _
theorem rbottom_any (w : World) : Calls Tryz.prog 107 #[] w fun e w' => e = .returned (.agg #[.int .i64 (-1), .int .i64 1]) ∧ Below w.heap.size w w' := by
  go_enter Tryz.func107, Tryz.ntmps107
  go_wp2_with fail
  refine bodyPost_ret (v := .agg #[.int .i64 (-1), .int .i64 1]) ?_ rfl ⟨rfl, ?_⟩
  · simp [results, Tryz.results107, go_sem]
  · exact (Below.refl _ _).alloc (Nat.le_refl _) _

abbrev OpBox (w : World) (K x1 y1 x2 y2 : Int) (lv : Value) (W : World) : Prop := (W.cell? ⟨w.heap.size, 0, none⟩ = some (.int .i64 K) ∧ W.cell? ⟨w.heap.size, 1, none⟩ = some (.int .i64 x1) ∧ W.cell? ⟨w.heap.size, 2, none⟩ = some (.int .i64 y1) ∧ W.cell? ⟨w.heap.size, 3, none⟩ = some (.int .i64 x2) ∧ W.cell? ⟨w.heap.size, 4, none⟩ = some (.int .i64 y2) ∧ W.cell? ⟨w.heap.size, 5, none⟩ = some lv) ∧ Below w.heap.size w W
theorem opBox_call {w W W2 : World} {K x1 y1 x2 y2 : Int} {lv : Value} (hb : Below W.heap.size W W2) (h : OpBox w K x1 y1 x2 y2 lv W) : OpBox w K x1 y1 x2 y2 lv W2 := by
  obtain ⟨⟨c0, c1, c2, c3, c4, c5⟩, hB⟩ := h
  have c : ∀ q j u, W.cell? ⟨q, j, none⟩ = some u → W2.cell? ⟨q, j, none⟩ = some u := fun q j u hu => (hb.cell (p := ⟨q, j, none⟩) (cell_lt hu)).trans hu
  exact ⟨⟨c _ _ _ c0, c _ _ _ c1, c _ _ _ c2, c _ _ _ c3, c _ _ _ c4, c _ _ _ c5⟩, hB.trans (hb.mono hB.size)⟩
theorem opBox_start (w : World) (K x1 y1 x2 y2 : Int) (lv : Value) (t : TypeId) : OpBox w K x1 y1 x2 y2 lv (w.alloc (.cells #[.int .i64 K, .int .i64 x1, .int .i64 y1, .int .i64 x2, .int .i64 y2, lv] t)).drew := by
  have c : ∀ j, (w.alloc (.cells #[.int .i64 K, .int .i64 x1, .int .i64 y1, .int .i64 x2, .int .i64 y2, lv] t)).cell? ⟨w.heap.size, j, none⟩ = #[Value.int .i64 K, .int .i64 x1, .int .i64 y1, .int .i64 x2, .int .i64 y2, lv][j]? := fun j => World.cell?_alloc_at _ _ _ _ rfl
  exact ⟨⟨c 0, c 1, c 2, c 3, c 4, c 5⟩, ((Below.refl _ _).alloc (Nat.le_refl _) _).drew⟩

set_option maxHeartbeats 4000000 in
set_option maxRecDepth 100000 in
theorem rop_any (deps made : Nat) (o : Opp) (lv : Value) (w : World) (hr : Reads w lv o.lines) (hs : ∀ x ∈ o.lines, x.size ≤ 140737488355328) (hm : made ≤ 4611686018427387904) (hd : deps ≤ 4611686018427387904) :
    Calls Tryz.prog 67 #[opV o lv, .int .i64 (made : Nat), .int .i64 (deps : Nat)] w fun e w' => e = .returned (.bool (opR deps made o)) ∧ Below w.heap.size w w' := by
  obtain ⟨a, c, rfl, hn⟩ := hr.form
  obtain ⟨n, hnn⟩ : ∃ n, n = o.lines.length := ⟨_, rfl⟩
  rw [← hnn] at hr hn ⊢
  obtain ⟨K, r, s, ls⟩ := o
  simp only at hnn hr hs ⊢
  have ca := fun wz => rref_any deps made r wz hm hd
  have cb := fun wz => rref_any deps made s wz hm hd
  obtain ⟨ra, hra⟩ : ∃ b, b = refB deps made r := ⟨_, rfl⟩
  obtain ⟨rb, hrb⟩ : ∃ b, b = refB deps made s := ⟨_, rfl⟩
  have ht : ∀ wz, _ := rtop_any
  have hbo : ∀ wz, _ := rbottom_any
  rw [← hra] at ca
  rw [← hrb] at cb
  obtain ⟨x1, y1⟩ := r
  obtain ⟨x2, y2⟩ := s
  have CA := Lib.hid ca
  have CB := Lib.hid cb
  have HT := Lib.hid ht
  have HBO := Lib.hid hbo
  have HRA := Lib.hid hra
  have HRB := Lib.hid hrb
  have HR := Lib.hid hr
  have HS := Lib.hid hs
  have HNN := Lib.hid hnn
  clear ca cb ht hbo hra hrb hr hs hnn
  obtain ⟨TW, hTW⟩ : ∃ b, b = betwB deps made ⟨x1, y1⟩ ⟨x2, y2⟩ := ⟨_, rfl⟩
  have htw : TW = (ra && rb && decide (¬ (x1 = x2 ∧ y1 = y2)) && decide (¬ (x1 = -1 ∧ y1 = 1)) && decide (¬ (x2 = -1 ∧ y2 = 0))) := by
    rw [hTW, HRA.out, HRB.out]; unfold betwB
    simp only [ne_eq, Rf.mk.injEq]
  have HTW := Lib.hid hTW
  clear hTW
  go_enter Tryz.func67, Tryz.ntmps67
  go_wp2_with fail
  go_cut [7] from 9 (fun v W => v = .bool TW ∧ OpBox w K x1 y1 x2 y2 (.slice a n c) W)
  case first =>
    cases ra with
    | false =>
      refine wp_region_held_drew (S := (fun W => OpBox w K x1 y1 x2 y2 (.slice a n c) W)) (by kernel_rfl) ?_ (fun hHeld => ?_)
      · exact opBox_start _ _ _ _ _ _ _ _
      refine tkH 0 ⟨some 9, .fieldAddr 56 (.tmp 3) 1, 0, "ref.go:50", #[], none⟩ ?_
      try simp only [Act.put, List.setIfInBounds_toArray, List.set_cons_zero, List.set_cons_succ]
      refine tkH 1 ⟨some 10, .load 54 (.tmp 9), 54, "ref.go:50", #[⟨0, .data⟩], none⟩ ?_
      try simp only [Act.put, List.setIfInBounds_toArray, List.set_cons_zero, List.set_cons_succ]
      refine tkH 2 ⟨some 11, .move (.tmp 1), 3, "ref.go:50", #[], none⟩ ?_
      try simp only [Act.put, List.setIfInBounds_toArray, List.set_cons_zero, List.set_cons_succ]
      refine tkH 3 ⟨some 12, .move (.tmp 2), 3, "ref.go:50", #[], none⟩ ?_
      try simp only [Act.put, List.setIfInBounds_toArray, List.set_cons_zero, List.set_cons_succ]
      refine wpAnyH_ready (rs := [4]) (by kernel_rfl) (by simp) ?_
      refine AllReadyH.cons rfl (fun K hK => ?_) AllReadyH.nil
      go_simp
      go_at_call 106; (with_reducible refine (CA.out _).mono ?_); rintro e w2 ⟨rfl, hb2⟩
      refine hK.out _ _ ?_ (fun hHeld => ?_)
      · exact opBox_call hb2 (by assumption)
      clear hK K
      try simp only [Act.put, List.setIfInBounds_toArray, List.set_cons_zero, List.set_cons_succ]
      refine tkH 5 ⟨some 14, .move (.tmp 13), 4, "ref.go:50", #[⟨4, .data⟩, ⟨4, .chain⟩], none⟩ ?_
      try simp only [Act.put, List.setIfInBounds_toArray, List.set_cons_zero, List.set_cons_succ]
      refine tkS 6 ⟨some 15, .fieldAddr 56 (.tmp 3) 2, 0, "ref.go:50", #[⟨5, .guard⟩], some (5, true)⟩ ?_
      try simp only [Act.put, List.setIfInBounds_toArray, List.set_cons_zero, List.set_cons_succ]
      refine tkS 7 ⟨some 16, .load 54 (.tmp 15), 54, "ref.go:50", #[⟨6, .data⟩, ⟨5, .guard⟩], some (5, true)⟩ ?_
      try simp only [Act.put, List.setIfInBounds_toArray, List.set_cons_zero, List.set_cons_succ]
      refine tkS 8 ⟨some 17, .move (.tmp 1), 3, "ref.go:50", #[⟨5, .guard⟩], some (5, true)⟩ ?_
      try simp only [Act.put, List.setIfInBounds_toArray, List.set_cons_zero, List.set_cons_succ]
      refine tkS 9 ⟨some 18, .move (.tmp 2), 3, "ref.go:50", #[⟨5, .guard⟩], some (5, true)⟩ ?_
      try simp only [Act.put, List.setIfInBounds_toArray, List.set_cons_zero, List.set_cons_succ]
      refine tkS 10 ⟨some 19, .call { callee := Callee.value (Operand.func 106), args := #[.tmp 16, .tmp 17, .tmp 18], argTypes := #[54, 3, 3] }, 4, "ref.go:50", #[⟨7, .data⟩, ⟨8, .data⟩, ⟨9, .data⟩, ⟨5, .chain⟩, ⟨5, .guard⟩], some (5, true)⟩ ?_
      try simp only [Act.put, List.setIfInBounds_toArray, List.set_cons_zero, List.set_cons_succ]
      refine tkH 11 ⟨some 20, .pick (.tmp 14) (.tmp 19) (.const (Value.bool false)), 4, "ref.go:50", #[⟨5, .data⟩, ⟨10, .data⟩], none⟩ ?_
      try simp only [Act.put, List.setIfInBounds_toArray, List.set_cons_zero, List.set_cons_succ]
      refine tkH 12 ⟨some 21, .move (.tmp 20), 4, "ref.go:50", #[⟨11, .data⟩, ⟨10, .chain⟩], none⟩ ?_
      try simp only [Act.put, List.setIfInBounds_toArray, List.set_cons_zero, List.set_cons_succ]
      refine tkS 13 ⟨some 22, .fieldAddr 56 (.tmp 3) 1, 0, "ref.go:50", #[⟨12, .guard⟩], some (12, true)⟩ ?_
      try simp only [Act.put, List.setIfInBounds_toArray, List.set_cons_zero, List.set_cons_succ]
      refine tkS 14 ⟨some 23, .load 54 (.tmp 22), 54, "ref.go:50", #[⟨13, .data⟩, ⟨12, .guard⟩], some (12, true)⟩ ?_
      try simp only [Act.put, List.setIfInBounds_toArray, List.set_cons_zero, List.set_cons_succ]
      refine tkS 15 ⟨some 24, .fieldAddr 56 (.tmp 3) 2, 0, "ref.go:50", #[⟨12, .guard⟩], some (12, true)⟩ ?_
      try simp only [Act.put, List.setIfInBounds_toArray, List.set_cons_zero, List.set_cons_succ]
      refine tkS 16 ⟨some 25, .load 54 (.tmp 24), 54, "ref.go:50", #[⟨15, .data⟩, ⟨12, .guard⟩], some (12, true)⟩ ?_
      try simp only [Act.put, List.setIfInBounds_toArray, List.set_cons_zero, List.set_cons_succ]
      refine tkS 17 ⟨some 26, .binOp BinOp.neq 54 (.tmp 23) (.tmp 25) 54, 4, "ref.go:50", #[⟨14, .data⟩, ⟨16, .data⟩, ⟨12, .guard⟩], some (12, true)⟩ ?_
      try simp only [Act.put, List.setIfInBounds_toArray, List.set_cons_zero, List.set_cons_succ]
      refine tkH 18 ⟨some 27, .pick (.tmp 21) (.tmp 26) (.const (Value.bool false)), 4, "ref.go:50", #[⟨12, .data⟩, ⟨17, .data⟩], none⟩ ?_
      try simp only [Act.put, List.setIfInBounds_toArray, List.set_cons_zero, List.set_cons_succ]
      refine tkH 19 ⟨some 28, .move (.tmp 27), 4, "ref.go:50", #[⟨18, .data⟩, ⟨12, .chain⟩], none⟩ ?_
      try simp only [Act.put, List.setIfInBounds_toArray, List.set_cons_zero, List.set_cons_succ]
      refine tkS 20 ⟨some 29, .fieldAddr 56 (.tmp 3) 1, 0, "ref.go:50", #[⟨19, .guard⟩], some (19, true)⟩ ?_
      try simp only [Act.put, List.setIfInBounds_toArray, List.set_cons_zero, List.set_cons_succ]
      refine tkS 21 ⟨some 30, .load 54 (.tmp 29), 54, "ref.go:50", #[⟨20, .data⟩, ⟨19, .guard⟩], some (19, true)⟩ ?_
      try simp only [Act.put, List.setIfInBounds_toArray, List.set_cons_zero, List.set_cons_succ]
      refine tkS 22 ⟨some 31, .call { callee := Callee.value (Operand.func 107), args := #[], argTypes := #[] }, 54, "ref.go:50", #[⟨19, .chain⟩, ⟨19, .guard⟩], some (19, true)⟩ ?_
      try simp only [Act.put, List.setIfInBounds_toArray, List.set_cons_zero, List.set_cons_succ]
      refine tkS 23 ⟨some 32, .binOp BinOp.neq 54 (.tmp 30) (.tmp 31) 54, 4, "ref.go:50", #[⟨21, .data⟩, ⟨22, .data⟩, ⟨19, .guard⟩], some (19, true)⟩ ?_
      try simp only [Act.put, List.setIfInBounds_toArray, List.set_cons_zero, List.set_cons_succ]
      refine tkH 24 ⟨some 33, .pick (.tmp 28) (.tmp 32) (.const (Value.bool false)), 4, "ref.go:50", #[⟨19, .data⟩, ⟨23, .data⟩], none⟩ ?_
      try simp only [Act.put, List.setIfInBounds_toArray, List.set_cons_zero, List.set_cons_succ]
      refine tkH 25 ⟨some 34, .move (.tmp 33), 4, "ref.go:50", #[⟨24, .data⟩, ⟨22, .chain⟩], none⟩ ?_
      try simp only [Act.put, List.setIfInBounds_toArray, List.set_cons_zero, List.set_cons_succ]
      refine tkS 26 ⟨some 35, .fieldAddr 56 (.tmp 3) 2, 0, "ref.go:50", #[⟨25, .guard⟩], some (25, true)⟩ ?_
      try simp only [Act.put, List.setIfInBounds_toArray, List.set_cons_zero, List.set_cons_succ]
      refine tkS 27 ⟨some 36, .load 54 (.tmp 35), 54, "ref.go:50", #[⟨26, .data⟩, ⟨25, .guard⟩], some (25, true)⟩ ?_
      try simp only [Act.put, List.setIfInBounds_toArray, List.set_cons_zero, List.set_cons_succ]
      refine tkS 28 ⟨some 37, .call { callee := Callee.value (Operand.func 108), args := #[], argTypes := #[] }, 54, "ref.go:50", #[⟨25, .chain⟩, ⟨25, .guard⟩], some (25, true)⟩ ?_
      try simp only [Act.put, List.setIfInBounds_toArray, List.set_cons_zero, List.set_cons_succ]
      refine tkS 29 ⟨some 38, .binOp BinOp.neq 54 (.tmp 36) (.tmp 37) 54, 4, "ref.go:50", #[⟨27, .data⟩, ⟨28, .data⟩, ⟨25, .guard⟩], some (25, true)⟩ ?_
      try simp only [Act.put, List.setIfInBounds_toArray, List.set_cons_zero, List.set_cons_succ]
      refine tkH 30 ⟨some 39, .pick (.tmp 34) (.tmp 38) (.const (Value.bool false)), 4, "ref.go:50", #[⟨25, .data⟩, ⟨29, .data⟩], none⟩ ?_
      try simp only [Act.put, List.setIfInBounds_toArray, List.set_cons_zero, List.set_cons_succ]
      refine tkH 31 ⟨some 7, .assign (.tmp 39), 4, "ref.go:50", #[⟨30, .data⟩, ⟨28, .chain⟩, ⟨0, .phase⟩, ⟨1, .phase⟩, ⟨2, .phase⟩, ⟨3, .phase⟩, ⟨4, .phase⟩, ⟨5, .phase⟩, ⟨6, .phase⟩, ⟨7, .phase⟩, ⟨8, .phase⟩, ⟨9, .phase⟩, ⟨10, .phase⟩, ⟨11, .phase⟩, ⟨12, .phase⟩, ⟨13, .phase⟩, ⟨14, .phase⟩, ⟨15, .phase⟩, ⟨16, .phase⟩, ⟨17, .phase⟩, ⟨18, .phase⟩, ⟨19, .phase⟩, ⟨20, .phase⟩, ⟨21, .phase⟩, ⟨22, .phase⟩, ⟨23, .phase⟩, ⟨24, .phase⟩, ⟨25, .phase⟩, ⟨26, .phase⟩, ⟨27, .phase⟩, ⟨28, .phase⟩, ⟨29, .phase⟩, ⟨30, .phase⟩], none⟩ ?_
      try simp only [Act.put, List.setIfInBounds_toArray, List.set_cons_zero, List.set_cons_succ]
      refine wpAnyH_done (by kernel_rfl) ?_ _
      go_wp2_with fail
      go_meet
      case rel => exact ⟨by simp [*], by assumption⟩
    | true =>
      cases rb with
      | false =>
        refine wp_region_held_drew (S := (fun W => OpBox w K x1 y1 x2 y2 (.slice a n c) W)) (by kernel_rfl) ?_ (fun hHeld => ?_)
        · exact opBox_start _ _ _ _ _ _ _ _
        refine tkH 0 ⟨some 9, .fieldAddr 56 (.tmp 3) 1, 0, "ref.go:50", #[], none⟩ ?_
        try simp only [Act.put, List.setIfInBounds_toArray, List.set_cons_zero, List.set_cons_succ]
        refine tkH 1 ⟨some 10, .load 54 (.tmp 9), 54, "ref.go:50", #[⟨0, .data⟩], none⟩ ?_
        try simp only [Act.put, List.setIfInBounds_toArray, List.set_cons_zero, List.set_cons_succ]
        refine tkH 2 ⟨some 11, .move (.tmp 1), 3, "ref.go:50", #[], none⟩ ?_
        try simp only [Act.put, List.setIfInBounds_toArray, List.set_cons_zero, List.set_cons_succ]
        refine tkH 3 ⟨some 12, .move (.tmp 2), 3, "ref.go:50", #[], none⟩ ?_
        try simp only [Act.put, List.setIfInBounds_toArray, List.set_cons_zero, List.set_cons_succ]
        refine wpAnyH_ready (rs := [4]) (by kernel_rfl) (by simp) ?_
        refine AllReadyH.cons rfl (fun K hK => ?_) AllReadyH.nil
        go_simp
        go_at_call 106; (with_reducible refine (CA.out _).mono ?_); rintro e w2 ⟨rfl, hb2⟩
        refine hK.out _ _ ?_ (fun hHeld => ?_)
        · exact opBox_call hb2 (by assumption)
        clear hK K
        try simp only [Act.put, List.setIfInBounds_toArray, List.set_cons_zero, List.set_cons_succ]
        refine tkH 5 ⟨some 14, .move (.tmp 13), 4, "ref.go:50", #[⟨4, .data⟩, ⟨4, .chain⟩], none⟩ ?_
        try simp only [Act.put, List.setIfInBounds_toArray, List.set_cons_zero, List.set_cons_succ]
        refine tkH 6 ⟨some 15, .fieldAddr 56 (.tmp 3) 2, 0, "ref.go:50", #[⟨5, .guard⟩], some (5, true)⟩ ?_
        try simp only [Act.put, List.setIfInBounds_toArray, List.set_cons_zero, List.set_cons_succ]
        refine tkH 7 ⟨some 16, .load 54 (.tmp 15), 54, "ref.go:50", #[⟨6, .data⟩, ⟨5, .guard⟩], some (5, true)⟩ ?_
        try simp only [Act.put, List.setIfInBounds_toArray, List.set_cons_zero, List.set_cons_succ]
        refine tkH 8 ⟨some 17, .move (.tmp 1), 3, "ref.go:50", #[⟨5, .guard⟩], some (5, true)⟩ ?_
        try simp only [Act.put, List.setIfInBounds_toArray, List.set_cons_zero, List.set_cons_succ]
        refine tkH 9 ⟨some 18, .move (.tmp 2), 3, "ref.go:50", #[⟨5, .guard⟩], some (5, true)⟩ ?_
        try simp only [Act.put, List.setIfInBounds_toArray, List.set_cons_zero, List.set_cons_succ]
        refine wpAnyH_ready (rs := [10]) (by kernel_rfl) (by simp) ?_
        refine AllReadyH.cons rfl (fun K hK => ?_) AllReadyH.nil
        go_simp
        go_at_call 106; (with_reducible refine (CB.out _).mono ?_); rintro e w2 ⟨rfl, hb2⟩
        refine hK.out _ _ ?_ (fun hHeld => ?_)
        · exact opBox_call hb2 (by assumption)
        clear hK K
        try simp only [Act.put, List.setIfInBounds_toArray, List.set_cons_zero, List.set_cons_succ]
        refine tkH 11 ⟨some 20, .pick (.tmp 14) (.tmp 19) (.const (Value.bool false)), 4, "ref.go:50", #[⟨5, .data⟩, ⟨10, .data⟩], none⟩ ?_
        try simp only [Act.put, List.setIfInBounds_toArray, List.set_cons_zero, List.set_cons_succ]
        refine tkH 12 ⟨some 21, .move (.tmp 20), 4, "ref.go:50", #[⟨11, .data⟩, ⟨10, .chain⟩], none⟩ ?_
        try simp only [Act.put, List.setIfInBounds_toArray, List.set_cons_zero, List.set_cons_succ]
        refine tkS 13 ⟨some 22, .fieldAddr 56 (.tmp 3) 1, 0, "ref.go:50", #[⟨12, .guard⟩], some (12, true)⟩ ?_
        try simp only [Act.put, List.setIfInBounds_toArray, List.set_cons_zero, List.set_cons_succ]
        refine tkS 14 ⟨some 23, .load 54 (.tmp 22), 54, "ref.go:50", #[⟨13, .data⟩, ⟨12, .guard⟩], some (12, true)⟩ ?_
        try simp only [Act.put, List.setIfInBounds_toArray, List.set_cons_zero, List.set_cons_succ]
        refine tkS 15 ⟨some 24, .fieldAddr 56 (.tmp 3) 2, 0, "ref.go:50", #[⟨12, .guard⟩], some (12, true)⟩ ?_
        try simp only [Act.put, List.setIfInBounds_toArray, List.set_cons_zero, List.set_cons_succ]
        refine tkS 16 ⟨some 25, .load 54 (.tmp 24), 54, "ref.go:50", #[⟨15, .data⟩, ⟨12, .guard⟩], some (12, true)⟩ ?_
        try simp only [Act.put, List.setIfInBounds_toArray, List.set_cons_zero, List.set_cons_succ]
        refine tkS 17 ⟨some 26, .binOp BinOp.neq 54 (.tmp 23) (.tmp 25) 54, 4, "ref.go:50", #[⟨14, .data⟩, ⟨16, .data⟩, ⟨12, .guard⟩], some (12, true)⟩ ?_
        try simp only [Act.put, List.setIfInBounds_toArray, List.set_cons_zero, List.set_cons_succ]
        refine tkH 18 ⟨some 27, .pick (.tmp 21) (.tmp 26) (.const (Value.bool false)), 4, "ref.go:50", #[⟨12, .data⟩, ⟨17, .data⟩], none⟩ ?_
        try simp only [Act.put, List.setIfInBounds_toArray, List.set_cons_zero, List.set_cons_succ]
        refine tkH 19 ⟨some 28, .move (.tmp 27), 4, "ref.go:50", #[⟨18, .data⟩, ⟨12, .chain⟩], none⟩ ?_
        try simp only [Act.put, List.setIfInBounds_toArray, List.set_cons_zero, List.set_cons_succ]
        refine tkS 20 ⟨some 29, .fieldAddr 56 (.tmp 3) 1, 0, "ref.go:50", #[⟨19, .guard⟩], some (19, true)⟩ ?_
        try simp only [Act.put, List.setIfInBounds_toArray, List.set_cons_zero, List.set_cons_succ]
        refine tkS 21 ⟨some 30, .load 54 (.tmp 29), 54, "ref.go:50", #[⟨20, .data⟩, ⟨19, .guard⟩], some (19, true)⟩ ?_
        try simp only [Act.put, List.setIfInBounds_toArray, List.set_cons_zero, List.set_cons_succ]
        refine tkS 22 ⟨some 31, .call { callee := Callee.value (Operand.func 107), args := #[], argTypes := #[] }, 54, "ref.go:50", #[⟨19, .chain⟩, ⟨19, .guard⟩], some (19, true)⟩ ?_
        try simp only [Act.put, List.setIfInBounds_toArray, List.set_cons_zero, List.set_cons_succ]
        refine tkS 23 ⟨some 32, .binOp BinOp.neq 54 (.tmp 30) (.tmp 31) 54, 4, "ref.go:50", #[⟨21, .data⟩, ⟨22, .data⟩, ⟨19, .guard⟩], some (19, true)⟩ ?_
        try simp only [Act.put, List.setIfInBounds_toArray, List.set_cons_zero, List.set_cons_succ]
        refine tkH 24 ⟨some 33, .pick (.tmp 28) (.tmp 32) (.const (Value.bool false)), 4, "ref.go:50", #[⟨19, .data⟩, ⟨23, .data⟩], none⟩ ?_
        try simp only [Act.put, List.setIfInBounds_toArray, List.set_cons_zero, List.set_cons_succ]
        refine tkH 25 ⟨some 34, .move (.tmp 33), 4, "ref.go:50", #[⟨24, .data⟩, ⟨22, .chain⟩], none⟩ ?_
        try simp only [Act.put, List.setIfInBounds_toArray, List.set_cons_zero, List.set_cons_succ]
        refine tkS 26 ⟨some 35, .fieldAddr 56 (.tmp 3) 2, 0, "ref.go:50", #[⟨25, .guard⟩], some (25, true)⟩ ?_
        try simp only [Act.put, List.setIfInBounds_toArray, List.set_cons_zero, List.set_cons_succ]
        refine tkS 27 ⟨some 36, .load 54 (.tmp 35), 54, "ref.go:50", #[⟨26, .data⟩, ⟨25, .guard⟩], some (25, true)⟩ ?_
        try simp only [Act.put, List.setIfInBounds_toArray, List.set_cons_zero, List.set_cons_succ]
        refine tkS 28 ⟨some 37, .call { callee := Callee.value (Operand.func 108), args := #[], argTypes := #[] }, 54, "ref.go:50", #[⟨25, .chain⟩, ⟨25, .guard⟩], some (25, true)⟩ ?_
        try simp only [Act.put, List.setIfInBounds_toArray, List.set_cons_zero, List.set_cons_succ]
        refine tkS 29 ⟨some 38, .binOp BinOp.neq 54 (.tmp 36) (.tmp 37) 54, 4, "ref.go:50", #[⟨27, .data⟩, ⟨28, .data⟩, ⟨25, .guard⟩], some (25, true)⟩ ?_
        try simp only [Act.put, List.setIfInBounds_toArray, List.set_cons_zero, List.set_cons_succ]
        refine tkH 30 ⟨some 39, .pick (.tmp 34) (.tmp 38) (.const (Value.bool false)), 4, "ref.go:50", #[⟨25, .data⟩, ⟨29, .data⟩], none⟩ ?_
        try simp only [Act.put, List.setIfInBounds_toArray, List.set_cons_zero, List.set_cons_succ]
        refine tkH 31 ⟨some 7, .assign (.tmp 39), 4, "ref.go:50", #[⟨30, .data⟩, ⟨28, .chain⟩, ⟨0, .phase⟩, ⟨1, .phase⟩, ⟨2, .phase⟩, ⟨3, .phase⟩, ⟨4, .phase⟩, ⟨5, .phase⟩, ⟨6, .phase⟩, ⟨7, .phase⟩, ⟨8, .phase⟩, ⟨9, .phase⟩, ⟨10, .phase⟩, ⟨11, .phase⟩, ⟨12, .phase⟩, ⟨13, .phase⟩, ⟨14, .phase⟩, ⟨15, .phase⟩, ⟨16, .phase⟩, ⟨17, .phase⟩, ⟨18, .phase⟩, ⟨19, .phase⟩, ⟨20, .phase⟩, ⟨21, .phase⟩, ⟨22, .phase⟩, ⟨23, .phase⟩, ⟨24, .phase⟩, ⟨25, .phase⟩, ⟨26, .phase⟩, ⟨27, .phase⟩, ⟨28, .phase⟩, ⟨29, .phase⟩, ⟨30, .phase⟩], none⟩ ?_
        try simp only [Act.put, List.setIfInBounds_toArray, List.set_cons_zero, List.set_cons_succ]
        refine wpAnyH_done (by kernel_rfl) ?_ _
        go_wp2_with fail
        go_meet
        case rel => exact ⟨by simp [*], by assumption⟩
      | true =>
        by_cases q1 : x1 = x2 ∧ y1 = y2
        · obtain ⟨rfl, rfl⟩ := q1
          refine wp_region_held_drew (S := (fun W => OpBox w K x1 y1 x1 y1 (.slice a n c) W)) (by kernel_rfl) ?_ (fun hHeld => ?_)
          · exact opBox_start _ _ _ _ _ _ _ _
          refine tkH 0 ⟨some 9, .fieldAddr 56 (.tmp 3) 1, 0, "ref.go:50", #[], none⟩ ?_
          try simp only [Act.put, List.setIfInBounds_toArray, List.set_cons_zero, List.set_cons_succ]
          refine tkH 1 ⟨some 10, .load 54 (.tmp 9), 54, "ref.go:50", #[⟨0, .data⟩], none⟩ ?_
          try simp only [Act.put, List.setIfInBounds_toArray, List.set_cons_zero, List.set_cons_succ]
          refine tkH 2 ⟨some 11, .move (.tmp 1), 3, "ref.go:50", #[], none⟩ ?_
          try simp only [Act.put, List.setIfInBounds_toArray, List.set_cons_zero, List.set_cons_succ]
          refine tkH 3 ⟨some 12, .move (.tmp 2), 3, "ref.go:50", #[], none⟩ ?_
          try simp only [Act.put, List.setIfInBounds_toArray, List.set_cons_zero, List.set_cons_succ]
          refine wpAnyH_ready (rs := [4]) (by kernel_rfl) (by simp) ?_
          refine AllReadyH.cons rfl (fun K hK => ?_) AllReadyH.nil
          go_simp
          go_at_call 106; (with_reducible refine (CA.out _).mono ?_); rintro e w2 ⟨rfl, hb2⟩
          refine hK.out _ _ ?_ (fun hHeld => ?_)
          · exact opBox_call hb2 (by assumption)
          clear hK K
          try simp only [Act.put, List.setIfInBounds_toArray, List.set_cons_zero, List.set_cons_succ]
          refine tkH 5 ⟨some 14, .move (.tmp 13), 4, "ref.go:50", #[⟨4, .data⟩, ⟨4, .chain⟩], none⟩ ?_
          try simp only [Act.put, List.setIfInBounds_toArray, List.set_cons_zero, List.set_cons_succ]
          refine tkH 6 ⟨some 15, .fieldAddr 56 (.tmp 3) 2, 0, "ref.go:50", #[⟨5, .guard⟩], some (5, true)⟩ ?_
          try simp only [Act.put, List.setIfInBounds_toArray, List.set_cons_zero, List.set_cons_succ]
          refine tkH 7 ⟨some 16, .load 54 (.tmp 15), 54, "ref.go:50", #[⟨6, .data⟩, ⟨5, .guard⟩], some (5, true)⟩ ?_
          try simp only [Act.put, List.setIfInBounds_toArray, List.set_cons_zero, List.set_cons_succ]
          refine tkH 8 ⟨some 17, .move (.tmp 1), 3, "ref.go:50", #[⟨5, .guard⟩], some (5, true)⟩ ?_
          try simp only [Act.put, List.setIfInBounds_toArray, List.set_cons_zero, List.set_cons_succ]
          refine tkH 9 ⟨some 18, .move (.tmp 2), 3, "ref.go:50", #[⟨5, .guard⟩], some (5, true)⟩ ?_
          try simp only [Act.put, List.setIfInBounds_toArray, List.set_cons_zero, List.set_cons_succ]
          refine wpAnyH_ready (rs := [10]) (by kernel_rfl) (by simp) ?_
          refine AllReadyH.cons rfl (fun K hK => ?_) AllReadyH.nil
          go_simp
          go_at_call 106; (with_reducible refine (CB.out _).mono ?_); rintro e w2 ⟨rfl, hb2⟩
          refine hK.out _ _ ?_ (fun hHeld => ?_)
          · exact opBox_call hb2 (by assumption)
          clear hK K
          try simp only [Act.put, List.setIfInBounds_toArray, List.set_cons_zero, List.set_cons_succ]
          refine tkH 11 ⟨some 20, .pick (.tmp 14) (.tmp 19) (.const (Value.bool false)), 4, "ref.go:50", #[⟨5, .data⟩, ⟨10, .data⟩], none⟩ ?_
          try simp only [Act.put, List.setIfInBounds_toArray, List.set_cons_zero, List.set_cons_succ]
          refine tkH 12 ⟨some 21, .move (.tmp 20), 4, "ref.go:50", #[⟨11, .data⟩, ⟨10, .chain⟩], none⟩ ?_
          try simp only [Act.put, List.setIfInBounds_toArray, List.set_cons_zero, List.set_cons_succ]
          refine tkH 13 ⟨some 22, .fieldAddr 56 (.tmp 3) 1, 0, "ref.go:50", #[⟨12, .guard⟩], some (12, true)⟩ ?_
          try simp only [Act.put, List.setIfInBounds_toArray, List.set_cons_zero, List.set_cons_succ]
          refine tkH 14 ⟨some 23, .load 54 (.tmp 22), 54, "ref.go:50", #[⟨13, .data⟩, ⟨12, .guard⟩], some (12, true)⟩ ?_
          try simp only [Act.put, List.setIfInBounds_toArray, List.set_cons_zero, List.set_cons_succ]
          refine tkH 15 ⟨some 24, .fieldAddr 56 (.tmp 3) 2, 0, "ref.go:50", #[⟨12, .guard⟩], some (12, true)⟩ ?_
          try simp only [Act.put, List.setIfInBounds_toArray, List.set_cons_zero, List.set_cons_succ]
          refine tkH 16 ⟨some 25, .load 54 (.tmp 24), 54, "ref.go:50", #[⟨15, .data⟩, ⟨12, .guard⟩], some (12, true)⟩ ?_
          try simp only [Act.put, List.setIfInBounds_toArray, List.set_cons_zero, List.set_cons_succ]
          refine wpAnyH_take (i := 17) (oi := ⟨some 26, .binOp BinOp.neq 54 (.tmp 23) (.tmp 25) 54, 4, "ref.go:50", #[⟨14, .data⟩, ⟨16, .data⟩, ⟨12, .guard⟩], some (12, true)⟩) (v := .bool false) rfl (by kernel_rfl) (by kernel_rfl) (by kernel_rfl) (fun _ _ _ h => h) (Or.inl ⟨by kernel_rfl, ?_⟩) (by assumption) ?_
          · (intro w hSw; (try dsimp only at hSw); go_simp; first | done | with_reducible rfl | (intro h k; first | exact q1 ⟨h, k⟩ | exact q2 ⟨h, k⟩ | exact q3 ⟨h, k⟩))
          try simp only [Act.put, List.setIfInBounds_toArray, List.set_cons_zero, List.set_cons_succ]
          refine tkH 18 ⟨some 27, .pick (.tmp 21) (.tmp 26) (.const (Value.bool false)), 4, "ref.go:50", #[⟨12, .data⟩, ⟨17, .data⟩], none⟩ ?_
          try simp only [Act.put, List.setIfInBounds_toArray, List.set_cons_zero, List.set_cons_succ]
          refine tkH 19 ⟨some 28, .move (.tmp 27), 4, "ref.go:50", #[⟨18, .data⟩, ⟨12, .chain⟩], none⟩ ?_
          try simp only [Act.put, List.setIfInBounds_toArray, List.set_cons_zero, List.set_cons_succ]
          refine tkS 20 ⟨some 29, .fieldAddr 56 (.tmp 3) 1, 0, "ref.go:50", #[⟨19, .guard⟩], some (19, true)⟩ ?_
          try simp only [Act.put, List.setIfInBounds_toArray, List.set_cons_zero, List.set_cons_succ]
          refine tkS 21 ⟨some 30, .load 54 (.tmp 29), 54, "ref.go:50", #[⟨20, .data⟩, ⟨19, .guard⟩], some (19, true)⟩ ?_
          try simp only [Act.put, List.setIfInBounds_toArray, List.set_cons_zero, List.set_cons_succ]
          refine tkS 22 ⟨some 31, .call { callee := Callee.value (Operand.func 107), args := #[], argTypes := #[] }, 54, "ref.go:50", #[⟨19, .chain⟩, ⟨19, .guard⟩], some (19, true)⟩ ?_
          try simp only [Act.put, List.setIfInBounds_toArray, List.set_cons_zero, List.set_cons_succ]
          refine tkS 23 ⟨some 32, .binOp BinOp.neq 54 (.tmp 30) (.tmp 31) 54, 4, "ref.go:50", #[⟨21, .data⟩, ⟨22, .data⟩, ⟨19, .guard⟩], some (19, true)⟩ ?_
          try simp only [Act.put, List.setIfInBounds_toArray, List.set_cons_zero, List.set_cons_succ]
          refine tkH 24 ⟨some 33, .pick (.tmp 28) (.tmp 32) (.const (Value.bool false)), 4, "ref.go:50", #[⟨19, .data⟩, ⟨23, .data⟩], none⟩ ?_
          try simp only [Act.put, List.setIfInBounds_toArray, List.set_cons_zero, List.set_cons_succ]
          refine tkH 25 ⟨some 34, .move (.tmp 33), 4, "ref.go:50", #[⟨24, .data⟩, ⟨22, .chain⟩], none⟩ ?_
          try simp only [Act.put, List.setIfInBounds_toArray, List.set_cons_zero, List.set_cons_succ]
          refine tkS 26 ⟨some 35, .fieldAddr 56 (.tmp 3) 2, 0, "ref.go:50", #[⟨25, .guard⟩], some (25, true)⟩ ?_
          try simp only [Act.put, List.setIfInBounds_toArray, List.set_cons_zero, List.set_cons_succ]
          refine tkS 27 ⟨some 36, .load 54 (.tmp 35), 54, "ref.go:50", #[⟨26, .data⟩, ⟨25, .guard⟩], some (25, true)⟩ ?_
          try simp only [Act.put, List.setIfInBounds_toArray, List.set_cons_zero, List.set_cons_succ]
          refine tkS 28 ⟨some 37, .call { callee := Callee.value (Operand.func 108), args := #[], argTypes := #[] }, 54, "ref.go:50", #[⟨25, .chain⟩, ⟨25, .guard⟩], some (25, true)⟩ ?_
          try simp only [Act.put, List.setIfInBounds_toArray, List.set_cons_zero, List.set_cons_succ]
          refine tkS 29 ⟨some 38, .binOp BinOp.neq 54 (.tmp 36) (.tmp 37) 54, 4, "ref.go:50", #[⟨27, .data⟩, ⟨28, .data⟩, ⟨25, .guard⟩], some (25, true)⟩ ?_
          try simp only [Act.put, List.setIfInBounds_toArray, List.set_cons_zero, List.set_cons_succ]
          refine tkH 30 ⟨some 39, .pick (.tmp 34) (.tmp 38) (.const (Value.bool false)), 4, "ref.go:50", #[⟨25, .data⟩, ⟨29, .data⟩], none⟩ ?_
          try simp only [Act.put, List.setIfInBounds_toArray, List.set_cons_zero, List.set_cons_succ]
          refine tkH 31 ⟨some 7, .assign (.tmp 39), 4, "ref.go:50", #[⟨30, .data⟩, ⟨28, .chain⟩, ⟨0, .phase⟩, ⟨1, .phase⟩, ⟨2, .phase⟩, ⟨3, .phase⟩, ⟨4, .phase⟩, ⟨5, .phase⟩, ⟨6, .phase⟩, ⟨7, .phase⟩, ⟨8, .phase⟩, ⟨9, .phase⟩, ⟨10, .phase⟩, ⟨11, .phase⟩, ⟨12, .phase⟩, ⟨13, .phase⟩, ⟨14, .phase⟩, ⟨15, .phase⟩, ⟨16, .phase⟩, ⟨17, .phase⟩, ⟨18, .phase⟩, ⟨19, .phase⟩, ⟨20, .phase⟩, ⟨21, .phase⟩, ⟨22, .phase⟩, ⟨23, .phase⟩, ⟨24, .phase⟩, ⟨25, .phase⟩, ⟨26, .phase⟩, ⟨27, .phase⟩, ⟨28, .phase⟩, ⟨29, .phase⟩, ⟨30, .phase⟩], none⟩ ?_
          try simp only [Act.put, List.setIfInBounds_toArray, List.set_cons_zero, List.set_cons_succ]
          refine wpAnyH_done (by kernel_rfl) ?_ _
          go_wp2_with fail
          go_meet
          case rel => exact ⟨by simp [*], by assumption⟩
        · by_cases q2 : x1 = -1 ∧ y1 = 1
          · obtain ⟨rfl, rfl⟩ := q2
            refine wp_region_held_drew (S := (fun W => OpBox w K (-1) 1 x2 y2 (.slice a n c) W)) (by kernel_rfl) ?_ (fun hHeld => ?_)
            · exact opBox_start _ _ _ _ _ _ _ _
            refine tkH 0 ⟨some 9, .fieldAddr 56 (.tmp 3) 1, 0, "ref.go:50", #[], none⟩ ?_
            try simp only [Act.put, List.setIfInBounds_toArray, List.set_cons_zero, List.set_cons_succ]
            refine tkH 1 ⟨some 10, .load 54 (.tmp 9), 54, "ref.go:50", #[⟨0, .data⟩], none⟩ ?_
            try simp only [Act.put, List.setIfInBounds_toArray, List.set_cons_zero, List.set_cons_succ]
            refine tkH 2 ⟨some 11, .move (.tmp 1), 3, "ref.go:50", #[], none⟩ ?_
            try simp only [Act.put, List.setIfInBounds_toArray, List.set_cons_zero, List.set_cons_succ]
            refine tkH 3 ⟨some 12, .move (.tmp 2), 3, "ref.go:50", #[], none⟩ ?_
            try simp only [Act.put, List.setIfInBounds_toArray, List.set_cons_zero, List.set_cons_succ]
            refine wpAnyH_ready (rs := [4]) (by kernel_rfl) (by simp) ?_
            refine AllReadyH.cons rfl (fun K hK => ?_) AllReadyH.nil
            go_simp
            go_at_call 106; (with_reducible refine (CA.out _).mono ?_); rintro e w2 ⟨rfl, hb2⟩
            refine hK.out _ _ ?_ (fun hHeld => ?_)
            · exact opBox_call hb2 (by assumption)
            clear hK K
            try simp only [Act.put, List.setIfInBounds_toArray, List.set_cons_zero, List.set_cons_succ]
            refine tkH 5 ⟨some 14, .move (.tmp 13), 4, "ref.go:50", #[⟨4, .data⟩, ⟨4, .chain⟩], none⟩ ?_
            try simp only [Act.put, List.setIfInBounds_toArray, List.set_cons_zero, List.set_cons_succ]
            refine tkH 6 ⟨some 15, .fieldAddr 56 (.tmp 3) 2, 0, "ref.go:50", #[⟨5, .guard⟩], some (5, true)⟩ ?_
            try simp only [Act.put, List.setIfInBounds_toArray, List.set_cons_zero, List.set_cons_succ]
            refine tkH 7 ⟨some 16, .load 54 (.tmp 15), 54, "ref.go:50", #[⟨6, .data⟩, ⟨5, .guard⟩], some (5, true)⟩ ?_
            try simp only [Act.put, List.setIfInBounds_toArray, List.set_cons_zero, List.set_cons_succ]
            refine tkH 8 ⟨some 17, .move (.tmp 1), 3, "ref.go:50", #[⟨5, .guard⟩], some (5, true)⟩ ?_
            try simp only [Act.put, List.setIfInBounds_toArray, List.set_cons_zero, List.set_cons_succ]
            refine tkH 9 ⟨some 18, .move (.tmp 2), 3, "ref.go:50", #[⟨5, .guard⟩], some (5, true)⟩ ?_
            try simp only [Act.put, List.setIfInBounds_toArray, List.set_cons_zero, List.set_cons_succ]
            refine wpAnyH_ready (rs := [10]) (by kernel_rfl) (by simp) ?_
            refine AllReadyH.cons rfl (fun K hK => ?_) AllReadyH.nil
            go_simp
            go_at_call 106; (with_reducible refine (CB.out _).mono ?_); rintro e w2 ⟨rfl, hb2⟩
            refine hK.out _ _ ?_ (fun hHeld => ?_)
            · exact opBox_call hb2 (by assumption)
            clear hK K
            try simp only [Act.put, List.setIfInBounds_toArray, List.set_cons_zero, List.set_cons_succ]
            refine tkH 11 ⟨some 20, .pick (.tmp 14) (.tmp 19) (.const (Value.bool false)), 4, "ref.go:50", #[⟨5, .data⟩, ⟨10, .data⟩], none⟩ ?_
            try simp only [Act.put, List.setIfInBounds_toArray, List.set_cons_zero, List.set_cons_succ]
            refine tkH 12 ⟨some 21, .move (.tmp 20), 4, "ref.go:50", #[⟨11, .data⟩, ⟨10, .chain⟩], none⟩ ?_
            try simp only [Act.put, List.setIfInBounds_toArray, List.set_cons_zero, List.set_cons_succ]
            refine tkH 13 ⟨some 22, .fieldAddr 56 (.tmp 3) 1, 0, "ref.go:50", #[⟨12, .guard⟩], some (12, true)⟩ ?_
            try simp only [Act.put, List.setIfInBounds_toArray, List.set_cons_zero, List.set_cons_succ]
            refine tkH 14 ⟨some 23, .load 54 (.tmp 22), 54, "ref.go:50", #[⟨13, .data⟩, ⟨12, .guard⟩], some (12, true)⟩ ?_
            try simp only [Act.put, List.setIfInBounds_toArray, List.set_cons_zero, List.set_cons_succ]
            refine tkH 15 ⟨some 24, .fieldAddr 56 (.tmp 3) 2, 0, "ref.go:50", #[⟨12, .guard⟩], some (12, true)⟩ ?_
            try simp only [Act.put, List.setIfInBounds_toArray, List.set_cons_zero, List.set_cons_succ]
            refine tkH 16 ⟨some 25, .load 54 (.tmp 24), 54, "ref.go:50", #[⟨15, .data⟩, ⟨12, .guard⟩], some (12, true)⟩ ?_
            try simp only [Act.put, List.setIfInBounds_toArray, List.set_cons_zero, List.set_cons_succ]
            refine wpAnyH_take (i := 17) (oi := ⟨some 26, .binOp BinOp.neq 54 (.tmp 23) (.tmp 25) 54, 4, "ref.go:50", #[⟨14, .data⟩, ⟨16, .data⟩, ⟨12, .guard⟩], some (12, true)⟩) (v := .bool true) rfl (by kernel_rfl) (by kernel_rfl) (by kernel_rfl) (fun _ _ _ h => h) (Or.inl ⟨by kernel_rfl, ?_⟩) (by assumption) ?_
            · (intro w hSw; (try dsimp only at hSw); go_simp; first | done | with_reducible rfl | (intro h k; first | exact q1 ⟨h, k⟩ | exact q2 ⟨h, k⟩ | exact q3 ⟨h, k⟩))
            try simp only [Act.put, List.setIfInBounds_toArray, List.set_cons_zero, List.set_cons_succ]
            refine tkH 18 ⟨some 27, .pick (.tmp 21) (.tmp 26) (.const (Value.bool false)), 4, "ref.go:50", #[⟨12, .data⟩, ⟨17, .data⟩], none⟩ ?_
            try simp only [Act.put, List.setIfInBounds_toArray, List.set_cons_zero, List.set_cons_succ]
            refine tkH 19 ⟨some 28, .move (.tmp 27), 4, "ref.go:50", #[⟨18, .data⟩, ⟨12, .chain⟩], none⟩ ?_
            try simp only [Act.put, List.setIfInBounds_toArray, List.set_cons_zero, List.set_cons_succ]
            refine tkH 20 ⟨some 29, .fieldAddr 56 (.tmp 3) 1, 0, "ref.go:50", #[⟨19, .guard⟩], some (19, true)⟩ ?_
            try simp only [Act.put, List.setIfInBounds_toArray, List.set_cons_zero, List.set_cons_succ]
            refine tkH 21 ⟨some 30, .load 54 (.tmp 29), 54, "ref.go:50", #[⟨20, .data⟩, ⟨19, .guard⟩], some (19, true)⟩ ?_
            try simp only [Act.put, List.setIfInBounds_toArray, List.set_cons_zero, List.set_cons_succ]
            refine wpAnyH_ready (rs := [22]) (by kernel_rfl) (by simp) ?_
            refine AllReadyH.cons rfl (fun K hK => ?_) AllReadyH.nil
            go_simp
            go_at_call 107; (with_reducible refine (HBO.out _).mono ?_); rintro e w2 ⟨rfl, hb2⟩
            refine hK.out _ _ ?_ (fun hHeld => ?_)
            · exact opBox_call hb2 (by assumption)
            clear hK K
            try simp only [Act.put, List.setIfInBounds_toArray, List.set_cons_zero, List.set_cons_succ]
            refine wpAnyH_take (i := 23) (oi := ⟨some 32, .binOp BinOp.neq 54 (.tmp 30) (.tmp 31) 54, 4, "ref.go:50", #[⟨21, .data⟩, ⟨22, .data⟩, ⟨19, .guard⟩], some (19, true)⟩) (v := .bool false) rfl (by kernel_rfl) (by kernel_rfl) (by kernel_rfl) (fun _ _ _ h => h) (Or.inl ⟨by kernel_rfl, ?_⟩) (by assumption) ?_
            · (intro w hSw; (try dsimp only at hSw); go_simp; first | done | with_reducible rfl | (intro h k; first | exact q1 ⟨h, k⟩ | exact q2 ⟨h, k⟩ | exact q3 ⟨h, k⟩))
            try simp only [Act.put, List.setIfInBounds_toArray, List.set_cons_zero, List.set_cons_succ]
            refine tkH 24 ⟨some 33, .pick (.tmp 28) (.tmp 32) (.const (Value.bool false)), 4, "ref.go:50", #[⟨19, .data⟩, ⟨23, .data⟩], none⟩ ?_
            try simp only [Act.put, List.setIfInBounds_toArray, List.set_cons_zero, List.set_cons_succ]
            refine tkH 25 ⟨some 34, .move (.tmp 33), 4, "ref.go:50", #[⟨24, .data⟩, ⟨22, .chain⟩], none⟩ ?_
            try simp only [Act.put, List.setIfInBounds_toArray, List.set_cons_zero, List.set_cons_succ]
            refine tkS 26 ⟨some 35, .fieldAddr 56 (.tmp 3) 2, 0, "ref.go:50", #[⟨25, .guard⟩], some (25, true)⟩ ?_
            try simp only [Act.put, List.setIfInBounds_toArray, List.set_cons_zero, List.set_cons_succ]
            refine tkS 27 ⟨some 36, .load 54 (.tmp 35), 54, "ref.go:50", #[⟨26, .data⟩, ⟨25, .guard⟩], some (25, true)⟩ ?_
            try simp only [Act.put, List.setIfInBounds_toArray, List.set_cons_zero, List.set_cons_succ]
            refine tkS 28 ⟨some 37, .call { callee := Callee.value (Operand.func 108), args := #[], argTypes := #[] }, 54, "ref.go:50", #[⟨25, .chain⟩, ⟨25, .guard⟩], some (25, true)⟩ ?_
            try simp only [Act.put, List.setIfInBounds_toArray, List.set_cons_zero, List.set_cons_succ]
            refine tkS 29 ⟨some 38, .binOp BinOp.neq 54 (.tmp 36) (.tmp 37) 54, 4, "ref.go:50", #[⟨27, .data⟩, ⟨28, .data⟩, ⟨25, .guard⟩], some (25, true)⟩ ?_
            try simp only [Act.put, List.setIfInBounds_toArray, List.set_cons_zero, List.set_cons_succ]
            refine tkH 30 ⟨some 39, .pick (.tmp 34) (.tmp 38) (.const (Value.bool false)), 4, "ref.go:50", #[⟨25, .data⟩, ⟨29, .data⟩], none⟩ ?_
            try simp only [Act.put, List.setIfInBounds_toArray, List.set_cons_zero, List.set_cons_succ]
            refine tkH 31 ⟨some 7, .assign (.tmp 39), 4, "ref.go:50", #[⟨30, .data⟩, ⟨28, .chain⟩, ⟨0, .phase⟩, ⟨1, .phase⟩, ⟨2, .phase⟩, ⟨3, .phase⟩, ⟨4, .phase⟩, ⟨5, .phase⟩, ⟨6, .phase⟩, ⟨7, .phase⟩, ⟨8, .phase⟩, ⟨9, .phase⟩, ⟨10, .phase⟩, ⟨11, .phase⟩, ⟨12, .phase⟩, ⟨13, .phase⟩, ⟨14, .phase⟩, ⟨15, .phase⟩, ⟨16, .phase⟩, ⟨17, .phase⟩, ⟨18, .phase⟩, ⟨19, .phase⟩, ⟨20, .phase⟩, ⟨21, .phase⟩, ⟨22, .phase⟩, ⟨23, .phase⟩, ⟨24, .phase⟩, ⟨25, .phase⟩, ⟨26, .phase⟩, ⟨27, .phase⟩, ⟨28, .phase⟩, ⟨29, .phase⟩, ⟨30, .phase⟩], none⟩ ?_
            try simp only [Act.put, List.setIfInBounds_toArray, List.set_cons_zero, List.set_cons_succ]
            refine wpAnyH_done (by kernel_rfl) ?_ _
            go_wp2_with fail
            go_meet
            case rel => exact ⟨by simp [*], by assumption⟩
          · by_cases q3 : x2 = -1 ∧ y2 = 0
            · obtain ⟨rfl, rfl⟩ := q3
              refine wp_region_held_drew (S := (fun W => OpBox w K x1 y1 (-1) 0 (.slice a n c) W)) (by kernel_rfl) ?_ (fun hHeld => ?_)
              · exact opBox_start _ _ _ _ _ _ _ _
              refine tkH 0 ⟨some 9, .fieldAddr 56 (.tmp 3) 1, 0, "ref.go:50", #[], none⟩ ?_
              try simp only [Act.put, List.setIfInBounds_toArray, List.set_cons_zero, List.set_cons_succ]
              refine tkH 1 ⟨some 10, .load 54 (.tmp 9), 54, "ref.go:50", #[⟨0, .data⟩], none⟩ ?_
              try simp only [Act.put, List.setIfInBounds_toArray, List.set_cons_zero, List.set_cons_succ]
              refine tkH 2 ⟨some 11, .move (.tmp 1), 3, "ref.go:50", #[], none⟩ ?_
              try simp only [Act.put, List.setIfInBounds_toArray, List.set_cons_zero, List.set_cons_succ]
              refine tkH 3 ⟨some 12, .move (.tmp 2), 3, "ref.go:50", #[], none⟩ ?_
              try simp only [Act.put, List.setIfInBounds_toArray, List.set_cons_zero, List.set_cons_succ]
              refine wpAnyH_ready (rs := [4]) (by kernel_rfl) (by simp) ?_
              refine AllReadyH.cons rfl (fun K hK => ?_) AllReadyH.nil
              go_simp
              go_at_call 106; (with_reducible refine (CA.out _).mono ?_); rintro e w2 ⟨rfl, hb2⟩
              refine hK.out _ _ ?_ (fun hHeld => ?_)
              · exact opBox_call hb2 (by assumption)
              clear hK K
              try simp only [Act.put, List.setIfInBounds_toArray, List.set_cons_zero, List.set_cons_succ]
              refine tkH 5 ⟨some 14, .move (.tmp 13), 4, "ref.go:50", #[⟨4, .data⟩, ⟨4, .chain⟩], none⟩ ?_
              try simp only [Act.put, List.setIfInBounds_toArray, List.set_cons_zero, List.set_cons_succ]
              refine tkH 6 ⟨some 15, .fieldAddr 56 (.tmp 3) 2, 0, "ref.go:50", #[⟨5, .guard⟩], some (5, true)⟩ ?_
              try simp only [Act.put, List.setIfInBounds_toArray, List.set_cons_zero, List.set_cons_succ]
              refine tkH 7 ⟨some 16, .load 54 (.tmp 15), 54, "ref.go:50", #[⟨6, .data⟩, ⟨5, .guard⟩], some (5, true)⟩ ?_
              try simp only [Act.put, List.setIfInBounds_toArray, List.set_cons_zero, List.set_cons_succ]
              refine tkH 8 ⟨some 17, .move (.tmp 1), 3, "ref.go:50", #[⟨5, .guard⟩], some (5, true)⟩ ?_
              try simp only [Act.put, List.setIfInBounds_toArray, List.set_cons_zero, List.set_cons_succ]
              refine tkH 9 ⟨some 18, .move (.tmp 2), 3, "ref.go:50", #[⟨5, .guard⟩], some (5, true)⟩ ?_
              try simp only [Act.put, List.setIfInBounds_toArray, List.set_cons_zero, List.set_cons_succ]
              refine wpAnyH_ready (rs := [10]) (by kernel_rfl) (by simp) ?_
              refine AllReadyH.cons rfl (fun K hK => ?_) AllReadyH.nil
              go_simp
              go_at_call 106; (with_reducible refine (CB.out _).mono ?_); rintro e w2 ⟨rfl, hb2⟩
              refine hK.out _ _ ?_ (fun hHeld => ?_)
              · exact opBox_call hb2 (by assumption)
              clear hK K
              try simp only [Act.put, List.setIfInBounds_toArray, List.set_cons_zero, List.set_cons_succ]
              refine tkH 11 ⟨some 20, .pick (.tmp 14) (.tmp 19) (.const (Value.bool false)), 4, "ref.go:50", #[⟨5, .data⟩, ⟨10, .data⟩], none⟩ ?_
              try simp only [Act.put, List.setIfInBounds_toArray, List.set_cons_zero, List.set_cons_succ]
              refine tkH 12 ⟨some 21, .move (.tmp 20), 4, "ref.go:50", #[⟨11, .data⟩, ⟨10, .chain⟩], none⟩ ?_
              try simp only [Act.put, List.setIfInBounds_toArray, List.set_cons_zero, List.set_cons_succ]
              refine tkH 13 ⟨some 22, .fieldAddr 56 (.tmp 3) 1, 0, "ref.go:50", #[⟨12, .guard⟩], some (12, true)⟩ ?_
              try simp only [Act.put, List.setIfInBounds_toArray, List.set_cons_zero, List.set_cons_succ]
              refine tkH 14 ⟨some 23, .load 54 (.tmp 22), 54, "ref.go:50", #[⟨13, .data⟩, ⟨12, .guard⟩], some (12, true)⟩ ?_
              try simp only [Act.put, List.setIfInBounds_toArray, List.set_cons_zero, List.set_cons_succ]
              refine tkH 15 ⟨some 24, .fieldAddr 56 (.tmp 3) 2, 0, "ref.go:50", #[⟨12, .guard⟩], some (12, true)⟩ ?_
              try simp only [Act.put, List.setIfInBounds_toArray, List.set_cons_zero, List.set_cons_succ]
              refine tkH 16 ⟨some 25, .load 54 (.tmp 24), 54, "ref.go:50", #[⟨15, .data⟩, ⟨12, .guard⟩], some (12, true)⟩ ?_
              try simp only [Act.put, List.setIfInBounds_toArray, List.set_cons_zero, List.set_cons_succ]
              refine wpAnyH_take (i := 17) (oi := ⟨some 26, .binOp BinOp.neq 54 (.tmp 23) (.tmp 25) 54, 4, "ref.go:50", #[⟨14, .data⟩, ⟨16, .data⟩, ⟨12, .guard⟩], some (12, true)⟩) (v := .bool true) rfl (by kernel_rfl) (by kernel_rfl) (by kernel_rfl) (fun _ _ _ h => h) (Or.inl ⟨by kernel_rfl, ?_⟩) (by assumption) ?_
              · (intro w hSw; (try dsimp only at hSw); go_simp; first | done | with_reducible rfl | (intro h k; first | exact q1 ⟨h, k⟩ | exact q2 ⟨h, k⟩ | exact q3 ⟨h, k⟩))
              try simp only [Act.put, List.setIfInBounds_toArray, List.set_cons_zero, List.set_cons_succ]
              refine tkH 18 ⟨some 27, .pick (.tmp 21) (.tmp 26) (.const (Value.bool false)), 4, "ref.go:50", #[⟨12, .data⟩, ⟨17, .data⟩], none⟩ ?_
              try simp only [Act.put, List.setIfInBounds_toArray, List.set_cons_zero, List.set_cons_succ]
              refine tkH 19 ⟨some 28, .move (.tmp 27), 4, "ref.go:50", #[⟨18, .data⟩, ⟨12, .chain⟩], none⟩ ?_
              try simp only [Act.put, List.setIfInBounds_toArray, List.set_cons_zero, List.set_cons_succ]
              refine tkH 20 ⟨some 29, .fieldAddr 56 (.tmp 3) 1, 0, "ref.go:50", #[⟨19, .guard⟩], some (19, true)⟩ ?_
              try simp only [Act.put, List.setIfInBounds_toArray, List.set_cons_zero, List.set_cons_succ]
              refine tkH 21 ⟨some 30, .load 54 (.tmp 29), 54, "ref.go:50", #[⟨20, .data⟩, ⟨19, .guard⟩], some (19, true)⟩ ?_
              try simp only [Act.put, List.setIfInBounds_toArray, List.set_cons_zero, List.set_cons_succ]
              refine wpAnyH_ready (rs := [22]) (by kernel_rfl) (by simp) ?_
              refine AllReadyH.cons rfl (fun K hK => ?_) AllReadyH.nil
              go_simp
              go_at_call 107; (with_reducible refine (HBO.out _).mono ?_); rintro e w2 ⟨rfl, hb2⟩
              refine hK.out _ _ ?_ (fun hHeld => ?_)
              · exact opBox_call hb2 (by assumption)
              clear hK K
              try simp only [Act.put, List.setIfInBounds_toArray, List.set_cons_zero, List.set_cons_succ]
              refine wpAnyH_take (i := 23) (oi := ⟨some 32, .binOp BinOp.neq 54 (.tmp 30) (.tmp 31) 54, 4, "ref.go:50", #[⟨21, .data⟩, ⟨22, .data⟩, ⟨19, .guard⟩], some (19, true)⟩) (v := .bool true) rfl (by kernel_rfl) (by kernel_rfl) (by kernel_rfl) (fun _ _ _ h => h) (Or.inl ⟨by kernel_rfl, ?_⟩) (by assumption) ?_
              · (intro w hSw; (try dsimp only at hSw); go_simp; first | done | with_reducible rfl | (intro h k; first | exact q1 ⟨h, k⟩ | exact q2 ⟨h, k⟩ | exact q3 ⟨h, k⟩))
              try simp only [Act.put, List.setIfInBounds_toArray, List.set_cons_zero, List.set_cons_succ]
              refine tkH 24 ⟨some 33, .pick (.tmp 28) (.tmp 32) (.const (Value.bool false)), 4, "ref.go:50", #[⟨19, .data⟩, ⟨23, .data⟩], none⟩ ?_
              try simp only [Act.put, List.setIfInBounds_toArray, List.set_cons_zero, List.set_cons_succ]
              refine tkH 25 ⟨some 34, .move (.tmp 33), 4, "ref.go:50", #[⟨24, .data⟩, ⟨22, .chain⟩], none⟩ ?_
              try simp only [Act.put, List.setIfInBounds_toArray, List.set_cons_zero, List.set_cons_succ]
              refine tkH 26 ⟨some 35, .fieldAddr 56 (.tmp 3) 2, 0, "ref.go:50", #[⟨25, .guard⟩], some (25, true)⟩ ?_
              try simp only [Act.put, List.setIfInBounds_toArray, List.set_cons_zero, List.set_cons_succ]
              refine tkH 27 ⟨some 36, .load 54 (.tmp 35), 54, "ref.go:50", #[⟨26, .data⟩, ⟨25, .guard⟩], some (25, true)⟩ ?_
              try simp only [Act.put, List.setIfInBounds_toArray, List.set_cons_zero, List.set_cons_succ]
              refine wpAnyH_ready (rs := [28]) (by kernel_rfl) (by simp) ?_
              refine AllReadyH.cons rfl (fun K hK => ?_) AllReadyH.nil
              go_simp
              go_at_call 108; (with_reducible refine (HT.out _).mono ?_); rintro e w2 ⟨rfl, hb2⟩
              refine hK.out _ _ ?_ (fun hHeld => ?_)
              · exact opBox_call hb2 (by assumption)
              clear hK K
              try simp only [Act.put, List.setIfInBounds_toArray, List.set_cons_zero, List.set_cons_succ]
              refine wpAnyH_take (i := 29) (oi := ⟨some 38, .binOp BinOp.neq 54 (.tmp 36) (.tmp 37) 54, 4, "ref.go:50", #[⟨27, .data⟩, ⟨28, .data⟩, ⟨25, .guard⟩], some (25, true)⟩) (v := .bool false) rfl (by kernel_rfl) (by kernel_rfl) (by kernel_rfl) (fun _ _ _ h => h) (Or.inl ⟨by kernel_rfl, ?_⟩) (by assumption) ?_
              · (intro w hSw; (try dsimp only at hSw); go_simp; first | done | with_reducible rfl | (intro h k; first | exact q1 ⟨h, k⟩ | exact q2 ⟨h, k⟩ | exact q3 ⟨h, k⟩))
              try simp only [Act.put, List.setIfInBounds_toArray, List.set_cons_zero, List.set_cons_succ]
              refine tkH 30 ⟨some 39, .pick (.tmp 34) (.tmp 38) (.const (Value.bool false)), 4, "ref.go:50", #[⟨25, .data⟩, ⟨29, .data⟩], none⟩ ?_
              try simp only [Act.put, List.setIfInBounds_toArray, List.set_cons_zero, List.set_cons_succ]
              refine tkH 31 ⟨some 7, .assign (.tmp 39), 4, "ref.go:50", #[⟨30, .data⟩, ⟨28, .chain⟩, ⟨0, .phase⟩, ⟨1, .phase⟩, ⟨2, .phase⟩, ⟨3, .phase⟩, ⟨4, .phase⟩, ⟨5, .phase⟩, ⟨6, .phase⟩, ⟨7, .phase⟩, ⟨8, .phase⟩, ⟨9, .phase⟩, ⟨10, .phase⟩, ⟨11, .phase⟩, ⟨12, .phase⟩, ⟨13, .phase⟩, ⟨14, .phase⟩, ⟨15, .phase⟩, ⟨16, .phase⟩, ⟨17, .phase⟩, ⟨18, .phase⟩, ⟨19, .phase⟩, ⟨20, .phase⟩, ⟨21, .phase⟩, ⟨22, .phase⟩, ⟨23, .phase⟩, ⟨24, .phase⟩, ⟨25, .phase⟩, ⟨26, .phase⟩, ⟨27, .phase⟩, ⟨28, .phase⟩, ⟨29, .phase⟩, ⟨30, .phase⟩], none⟩ ?_
              try simp only [Act.put, List.setIfInBounds_toArray, List.set_cons_zero, List.set_cons_succ]
              refine wpAnyH_done (by kernel_rfl) ?_ _
              go_wp2_with fail
              go_meet
              case rel => exact ⟨by simp [*], by assumption⟩
            · skip
              refine wp_region_held_drew (S := (fun W => OpBox w K x1 y1 x2 y2 (.slice a n c) W)) (by kernel_rfl) ?_ (fun hHeld => ?_)
              · exact opBox_start _ _ _ _ _ _ _ _
              refine tkH 0 ⟨some 9, .fieldAddr 56 (.tmp 3) 1, 0, "ref.go:50", #[], none⟩ ?_
              try simp only [Act.put, List.setIfInBounds_toArray, List.set_cons_zero, List.set_cons_succ]
              refine tkH 1 ⟨some 10, .load 54 (.tmp 9), 54, "ref.go:50", #[⟨0, .data⟩], none⟩ ?_
              try simp only [Act.put, List.setIfInBounds_toArray, List.set_cons_zero, List.set_cons_succ]
              refine tkH 2 ⟨some 11, .move (.tmp 1), 3, "ref.go:50", #[], none⟩ ?_
              try simp only [Act.put, List.setIfInBounds_toArray, List.set_cons_zero, List.set_cons_succ]
              refine tkH 3 ⟨some 12, .move (.tmp 2), 3, "ref.go:50", #[], none⟩ ?_
              try simp only [Act.put, List.setIfInBounds_toArray, List.set_cons_zero, List.set_cons_succ]
              refine wpAnyH_ready (rs := [4]) (by kernel_rfl) (by simp) ?_
              refine AllReadyH.cons rfl (fun K hK => ?_) AllReadyH.nil
              go_simp
              go_at_call 106; (with_reducible refine (CA.out _).mono ?_); rintro e w2 ⟨rfl, hb2⟩
              refine hK.out _ _ ?_ (fun hHeld => ?_)
              · exact opBox_call hb2 (by assumption)
              clear hK K
              try simp only [Act.put, List.setIfInBounds_toArray, List.set_cons_zero, List.set_cons_succ]
              refine tkH 5 ⟨some 14, .move (.tmp 13), 4, "ref.go:50", #[⟨4, .data⟩, ⟨4, .chain⟩], none⟩ ?_
              try simp only [Act.put, List.setIfInBounds_toArray, List.set_cons_zero, List.set_cons_succ]
              refine tkH 6 ⟨some 15, .fieldAddr 56 (.tmp 3) 2, 0, "ref.go:50", #[⟨5, .guard⟩], some (5, true)⟩ ?_
              try simp only [Act.put, List.setIfInBounds_toArray, List.set_cons_zero, List.set_cons_succ]
              refine tkH 7 ⟨some 16, .load 54 (.tmp 15), 54, "ref.go:50", #[⟨6, .data⟩, ⟨5, .guard⟩], some (5, true)⟩ ?_
              try simp only [Act.put, List.setIfInBounds_toArray, List.set_cons_zero, List.set_cons_succ]
              refine tkH 8 ⟨some 17, .move (.tmp 1), 3, "ref.go:50", #[⟨5, .guard⟩], some (5, true)⟩ ?_
              try simp only [Act.put, List.setIfInBounds_toArray, List.set_cons_zero, List.set_cons_succ]
              refine tkH 9 ⟨some 18, .move (.tmp 2), 3, "ref.go:50", #[⟨5, .guard⟩], some (5, true)⟩ ?_
              try simp only [Act.put, List.setIfInBounds_toArray, List.set_cons_zero, List.set_cons_succ]
              refine wpAnyH_ready (rs := [10]) (by kernel_rfl) (by simp) ?_
              refine AllReadyH.cons rfl (fun K hK => ?_) AllReadyH.nil
              go_simp
              go_at_call 106; (with_reducible refine (CB.out _).mono ?_); rintro e w2 ⟨rfl, hb2⟩
              refine hK.out _ _ ?_ (fun hHeld => ?_)
              · exact opBox_call hb2 (by assumption)
              clear hK K
              try simp only [Act.put, List.setIfInBounds_toArray, List.set_cons_zero, List.set_cons_succ]
              refine tkH 11 ⟨some 20, .pick (.tmp 14) (.tmp 19) (.const (Value.bool false)), 4, "ref.go:50", #[⟨5, .data⟩, ⟨10, .data⟩], none⟩ ?_
              try simp only [Act.put, List.setIfInBounds_toArray, List.set_cons_zero, List.set_cons_succ]
              refine tkH 12 ⟨some 21, .move (.tmp 20), 4, "ref.go:50", #[⟨11, .data⟩, ⟨10, .chain⟩], none⟩ ?_
              try simp only [Act.put, List.setIfInBounds_toArray, List.set_cons_zero, List.set_cons_succ]
              refine tkH 13 ⟨some 22, .fieldAddr 56 (.tmp 3) 1, 0, "ref.go:50", #[⟨12, .guard⟩], some (12, true)⟩ ?_
              try simp only [Act.put, List.setIfInBounds_toArray, List.set_cons_zero, List.set_cons_succ]
              refine tkH 14 ⟨some 23, .load 54 (.tmp 22), 54, "ref.go:50", #[⟨13, .data⟩, ⟨12, .guard⟩], some (12, true)⟩ ?_
              try simp only [Act.put, List.setIfInBounds_toArray, List.set_cons_zero, List.set_cons_succ]
              refine tkH 15 ⟨some 24, .fieldAddr 56 (.tmp 3) 2, 0, "ref.go:50", #[⟨12, .guard⟩], some (12, true)⟩ ?_
              try simp only [Act.put, List.setIfInBounds_toArray, List.set_cons_zero, List.set_cons_succ]
              refine tkH 16 ⟨some 25, .load 54 (.tmp 24), 54, "ref.go:50", #[⟨15, .data⟩, ⟨12, .guard⟩], some (12, true)⟩ ?_
              try simp only [Act.put, List.setIfInBounds_toArray, List.set_cons_zero, List.set_cons_succ]
              refine wpAnyH_take (i := 17) (oi := ⟨some 26, .binOp BinOp.neq 54 (.tmp 23) (.tmp 25) 54, 4, "ref.go:50", #[⟨14, .data⟩, ⟨16, .data⟩, ⟨12, .guard⟩], some (12, true)⟩) (v := .bool true) rfl (by kernel_rfl) (by kernel_rfl) (by kernel_rfl) (fun _ _ _ h => h) (Or.inl ⟨by kernel_rfl, ?_⟩) (by assumption) ?_
              · (intro w hSw; (try dsimp only at hSw); go_simp; first | done | with_reducible rfl | (intro h k; first | exact q1 ⟨h, k⟩ | exact q2 ⟨h, k⟩ | exact q3 ⟨h, k⟩))
              try simp only [Act.put, List.setIfInBounds_toArray, List.set_cons_zero, List.set_cons_succ]
              refine tkH 18 ⟨some 27, .pick (.tmp 21) (.tmp 26) (.const (Value.bool false)), 4, "ref.go:50", #[⟨12, .data⟩, ⟨17, .data⟩], none⟩ ?_
              try simp only [Act.put, List.setIfInBounds_toArray, List.set_cons_zero, List.set_cons_succ]
              refine tkH 19 ⟨some 28, .move (.tmp 27), 4, "ref.go:50", #[⟨18, .data⟩, ⟨12, .chain⟩], none⟩ ?_
              try simp only [Act.put, List.setIfInBounds_toArray, List.set_cons_zero, List.set_cons_succ]
              refine tkH 20 ⟨some 29, .fieldAddr 56 (.tmp 3) 1, 0, "ref.go:50", #[⟨19, .guard⟩], some (19, true)⟩ ?_
              try simp only [Act.put, List.setIfInBounds_toArray, List.set_cons_zero, List.set_cons_succ]
              refine tkH 21 ⟨some 30, .load 54 (.tmp 29), 54, "ref.go:50", #[⟨20, .data⟩, ⟨19, .guard⟩], some (19, true)⟩ ?_
              try simp only [Act.put, List.setIfInBounds_toArray, List.set_cons_zero, List.set_cons_succ]
              refine wpAnyH_ready (rs := [22]) (by kernel_rfl) (by simp) ?_
              refine AllReadyH.cons rfl (fun K hK => ?_) AllReadyH.nil
              go_simp
              go_at_call 107; (with_reducible refine (HBO.out _).mono ?_); rintro e w2 ⟨rfl, hb2⟩
              refine hK.out _ _ ?_ (fun hHeld => ?_)
              · exact opBox_call hb2 (by assumption)
              clear hK K
              try simp only [Act.put, List.setIfInBounds_toArray, List.set_cons_zero, List.set_cons_succ]
              refine wpAnyH_take (i := 23) (oi := ⟨some 32, .binOp BinOp.neq 54 (.tmp 30) (.tmp 31) 54, 4, "ref.go:50", #[⟨21, .data⟩, ⟨22, .data⟩, ⟨19, .guard⟩], some (19, true)⟩) (v := .bool true) rfl (by kernel_rfl) (by kernel_rfl) (by kernel_rfl) (fun _ _ _ h => h) (Or.inl ⟨by kernel_rfl, ?_⟩) (by assumption) ?_
              · (intro w hSw; (try dsimp only at hSw); go_simp; first | done | with_reducible rfl | (intro h k; first | exact q1 ⟨h, k⟩ | exact q2 ⟨h, k⟩ | exact q3 ⟨h, k⟩))
              try simp only [Act.put, List.setIfInBounds_toArray, List.set_cons_zero, List.set_cons_succ]
              refine tkH 24 ⟨some 33, .pick (.tmp 28) (.tmp 32) (.const (Value.bool false)), 4, "ref.go:50", #[⟨19, .data⟩, ⟨23, .data⟩], none⟩ ?_
              try simp only [Act.put, List.setIfInBounds_toArray, List.set_cons_zero, List.set_cons_succ]
              refine tkH 25 ⟨some 34, .move (.tmp 33), 4, "ref.go:50", #[⟨24, .data⟩, ⟨22, .chain⟩], none⟩ ?_
              try simp only [Act.put, List.setIfInBounds_toArray, List.set_cons_zero, List.set_cons_succ]
              refine tkH 26 ⟨some 35, .fieldAddr 56 (.tmp 3) 2, 0, "ref.go:50", #[⟨25, .guard⟩], some (25, true)⟩ ?_
              try simp only [Act.put, List.setIfInBounds_toArray, List.set_cons_zero, List.set_cons_succ]
              refine tkH 27 ⟨some 36, .load 54 (.tmp 35), 54, "ref.go:50", #[⟨26, .data⟩, ⟨25, .guard⟩], some (25, true)⟩ ?_
              try simp only [Act.put, List.setIfInBounds_toArray, List.set_cons_zero, List.set_cons_succ]
              refine wpAnyH_ready (rs := [28]) (by kernel_rfl) (by simp) ?_
              refine AllReadyH.cons rfl (fun K hK => ?_) AllReadyH.nil
              go_simp
              go_at_call 108; (with_reducible refine (HT.out _).mono ?_); rintro e w2 ⟨rfl, hb2⟩
              refine hK.out _ _ ?_ (fun hHeld => ?_)
              · exact opBox_call hb2 (by assumption)
              clear hK K
              try simp only [Act.put, List.setIfInBounds_toArray, List.set_cons_zero, List.set_cons_succ]
              refine wpAnyH_take (i := 29) (oi := ⟨some 38, .binOp BinOp.neq 54 (.tmp 36) (.tmp 37) 54, 4, "ref.go:50", #[⟨27, .data⟩, ⟨28, .data⟩, ⟨25, .guard⟩], some (25, true)⟩) (v := .bool true) rfl (by kernel_rfl) (by kernel_rfl) (by kernel_rfl) (fun _ _ _ h => h) (Or.inl ⟨by kernel_rfl, ?_⟩) (by assumption) ?_
              · (intro w hSw; (try dsimp only at hSw); go_simp; first | done | with_reducible rfl | (intro h k; first | exact q1 ⟨h, k⟩ | exact q2 ⟨h, k⟩ | exact q3 ⟨h, k⟩))
              try simp only [Act.put, List.setIfInBounds_toArray, List.set_cons_zero, List.set_cons_succ]
              refine tkH 30 ⟨some 39, .pick (.tmp 34) (.tmp 38) (.const (Value.bool false)), 4, "ref.go:50", #[⟨25, .data⟩, ⟨29, .data⟩], none⟩ ?_
              try simp only [Act.put, List.setIfInBounds_toArray, List.set_cons_zero, List.set_cons_succ]
              refine tkH 31 ⟨some 7, .assign (.tmp 39), 4, "ref.go:50", #[⟨30, .data⟩, ⟨28, .chain⟩, ⟨0, .phase⟩, ⟨1, .phase⟩, ⟨2, .phase⟩, ⟨3, .phase⟩, ⟨4, .phase⟩, ⟨5, .phase⟩, ⟨6, .phase⟩, ⟨7, .phase⟩, ⟨8, .phase⟩, ⟨9, .phase⟩, ⟨10, .phase⟩, ⟨11, .phase⟩, ⟨12, .phase⟩, ⟨13, .phase⟩, ⟨14, .phase⟩, ⟨15, .phase⟩, ⟨16, .phase⟩, ⟨17, .phase⟩, ⟨18, .phase⟩, ⟨19, .phase⟩, ⟨20, .phase⟩, ⟨21, .phase⟩, ⟨22, .phase⟩, ⟨23, .phase⟩, ⟨24, .phase⟩, ⟨25, .phase⟩, ⟨26, .phase⟩, ⟨27, .phase⟩, ⟨28, .phase⟩, ⟨29, .phase⟩, ⟨30, .phase⟩], none⟩ ?_
              try simp only [Act.put, List.setIfInBounds_toArray, List.set_cons_zero, List.set_cons_succ]
              refine wpAnyH_done (by kernel_rfl) ?_ _
              go_wp2_with fail
              go_meet
              case rel => exact ⟨by simp [*], by assumption⟩
  case rest =>
    obtain ⟨rfl, hbx⟩ := hcut
    obtain ⟨⟨d0, d1, d2, d3, d4, d5⟩, hbw⟩ := hbx
    have HBW := Lib.hid hbw
    have hltw := cell_lt d0
    clear hbw htw
    by_cases k1 : K = 1
    · subst k1
      have ho : opR deps made ⟨1, ⟨x1, y1⟩, ⟨x2, y2⟩, ls⟩ = (decide (n ≠ 0) && ls.all lineB && TW) := by unfold opR; rw [if_pos rfl, HTW.out, HNN.out]
      have HO := Lib.hid ho
      clear ho
      go_wp2_with fail
      go_loopw [8] (fun i wr => ∃ k : Nat, k ≤ n ∧ i = .int .i64 (k : Nat) ∧ wr.cell? ⟨w.heap.size, 5, none⟩ = some (.slice a n c) ∧ Hid (Below w.heap.size w wr) ∧ Hid ((ls.take k).all lineB = true)) (fun i _ => n - (intOf i).toNat)
      case atStart => exact ⟨0, Nat.zero_le _, rfl, d5, HBW, Lib.hid (by simp)⟩
      case round =>
        obtain ⟨k, hk, rfl, g5, HB, HA⟩ := hrel
        clear d0 d1 d2 d3 d4 d5
        have hlt2 := cell_lt g5
        by_cases hlt : k < n
        · obtain ⟨x, hx⟩ : ∃ x, ls[k]? = some x := ⟨ls[k]'(by rw [← HNN.out]; exact hlt), by simp⟩
          obtain ⟨b, o, rfl, hnl, hcl⟩ := HR.out.at hx
          clear hnl
          have hcell := ((hcl.below HB.out).2 k x hx)
          have hc : ∀ wz, Calls Tryz.prog 109 #[.string x] wz fun e w' => e = .returned (.bool (lineB x)) ∧ Below wz.heap.size wz w' := fun wz => rline_any x wz (HS.out x (List.mem_of_getElem? hx))
          have hno : lineB x = false → ls.all lineB = false := fun h => all_no hx h
          have hyes : lineB x = true → (ls.take (k + 1)).all lineB = true := fun h => all_step HA.out hx h
          obtain ⟨B, hB⟩ : ∃ B, B = lineB x := ⟨_, rfl⟩
          rw [← hB] at hc hno hyes
          have HC := Lib.hid hc
          have HNO := Lib.hid hno
          have HYES := Lib.hid hyes
          clear hc hno hyes hB hx hcl
          go_wp2_with fail
          refine (HC.out _).mono ?_
          rintro e w2 ⟨rfl, hb2⟩
          have g5' := (hb2.cell (p := ⟨w.heap.size, 5, none⟩) hlt2).trans g5
          have HB2 := Lib.hid (HB.out.trans (hb2.mono HB.out.size))
          clear hb2
          cases B with
          | false =>
            have HN2 := Lib.hid (HNO.out rfl)
            go_wp2_with fail
            go_ret
            exact ⟨ret_bool (by rw [HO.out, HN2.out]; simp), HB2.out⟩
          | true =>
            have HY2 := Lib.hid (HYES.out rfl)
            go_wp2_with fail
            exact ⟨⟨k + 1, by omega, by go_num, g5', HB2, HY2⟩, by simp [intOf]; omega⟩
        · have hall : ls.all lineB = true := all_end HA.out (by rw [← HNN.out]; omega)
          have ho2 : opR deps made ⟨1, ⟨x1, y1⟩, ⟨x2, y2⟩, ls⟩ = (decide (n ≠ 0) && TW) := by rw [HO.out, hall, Bool.and_true]
          have HO2 := Lib.hid ho2
          clear hall ho2
          cases TW
          all_goals go_wp2_with fail
          all_goals go_ret
          all_goals refine ⟨ret_bool ?_, HB.out⟩
          all_goals rw [HO2.out]
          all_goals clear HO2 HO
          all_goals (by_cases hz : n = 0 <;> simp [hz] <;> omega)
    · have e1 := neI k1
      by_cases k2 : K = 2 ∨ K = 3
      · have e2 : (K == 2 || K == 3) = true := by simpa using k2
        have ho : opR deps made ⟨K, ⟨x1, y1⟩, ⟨x2, y2⟩, ls⟩ = (decide (n = 0) && TW) := by unfold opR; rw [if_neg k1, if_pos k2, HTW.out, HNN.out]
        have HO := Lib.hid ho
        clear ho
        rcases k2 with rfl | rfl
        all_goals cases TW
        all_goals go_wp2_with fail
        all_goals go_ret
        all_goals refine ⟨ret_bool ?_, HBW.out⟩
        all_goals rw [HO.out]
        all_goals clear HO
        all_goals (by_cases hz : n = 0 <;> simp [hz] <;> omega)
      · have e2 : ¬ K = 2 := fun e => k2 (.inl e)
        have e3 : ¬ K = 3 := fun e => k2 (.inr e)
        by_cases k4 : K = 4 ∨ K = 5
        · have ho : opR deps made ⟨K, ⟨x1, y1⟩, ⟨x2, y2⟩, ls⟩ = (decide (n = 0) && decide (x2 = 0 ∧ y2 = 0) && decide (0 ≤ x1) && ra) := by
            unfold opR; rw [if_neg k1, if_neg k2, if_pos k4, HRA.out, HNN.out]
            simp only [Rf.mk.injEq]
          have HO := Lib.hid ho
          clear ho
          rcases k4 with rfl | rfl
          all_goals go_wp2_with fail
          all_goals refine (CA.out _).mono ?_
          all_goals rintro e w2 ⟨rfl, hb2⟩
          all_goals have g1 := (hb2.cell (p := ⟨w.heap.size, 1, none⟩) hltw).trans d1
          all_goals have g2 := (hb2.cell (p := ⟨w.heap.size, 2, none⟩) hltw).trans d2
          all_goals have g3 := (hb2.cell (p := ⟨w.heap.size, 3, none⟩) hltw).trans d3
          all_goals have g4 := (hb2.cell (p := ⟨w.heap.size, 4, none⟩) hltw).trans d4
          all_goals have g5 := (hb2.cell (p := ⟨w.heap.size, 5, none⟩) hltw).trans d5
          all_goals have HB2 := Lib.hid (HBW.out.trans (hb2.mono HBW.out.size))
          all_goals clear hb2 d0 d1 d2 d3 d4 d5
          all_goals cases ra
          all_goals go_wp2_with fail
          all_goals go_ret
          all_goals refine ⟨ret_bool ?_, HB2.out⟩
          all_goals (rw [HO.out]; simp)
          all_goals first
            | (intros; omega)
            | (rw [decide_eq_true (show x2 = 0 by omega), decide_eq_true (show y2 = 0 by omega), decide_eq_true (show 0 ≤ x1 by omega)]
               by_cases hz : n = 0
               · subst hz; rfl
               · simp [hz])
        · have e4 : ¬ K = 4 := fun e => k4 (.inl e)
          have e5 : ¬ K = 5 := fun e => k4 (.inr e)
          have f2 := neI e2
          have f3 := neI e3
          have f4 := neI e4
          have f5 := neI e5
          have ho : opR deps made ⟨K, ⟨x1, y1⟩, ⟨x2, y2⟩, ls⟩ = false := by unfold opR; rw [if_neg k1, if_neg k2, if_neg k4]
          have HO := Lib.hid ho
          clear ho
          go_wp2_with fail
          go_ret
          exact ⟨ret_bool (by rw [HO.out]), HBW.out⟩
end Go.Proofs.YtgjcblginkdinaaGreatDoor
