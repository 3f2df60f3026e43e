/- The contract of the document's Number, of any text. -/
import Derived.Test.YtapplhoglmihbaaDoorRNum
set_option linter.unusedVariables false
namespace Go.Proofs.YtapplhoglmihbaaDoor
open Go.ChangeShapes Go.WideShapes Go.ChangeAt Go.RowKit
open Go.Lib (decDigits itoa)

theorem itoa_ne (n : Int) : itoa n ≠ [] := by
  by_cases hneg : n < 0
  · obtain ⟨u, hu⟩ : ∃ u : Nat, n = -(u : Int) := ⟨n.natAbs, by omega⟩
    subst hu
    rw [Lib.itoa_neg u (by omega)]
    simp
  · obtain ⟨u, hu⟩ : ∃ u : Nat, n = (u : Int) := ⟨n.toNat, by omega⟩
    subst hu
    rw [itoa_nat]
    exact decDigits_ne u

theorem tx_len (l : List UInt8) : (tx l).size = l.length := by rw [← ba_len]

theorem rnum_long (s : ByteArray) (lo hi : Int) (w : World) (hs : 20 < s.size) :
    Calls Tryd.prog 19 #[fv false s (.slice none 0 0), .int .i64 lo, .int .i64 hi] w (NumP s lo hi w) := by
  have hno : ∀ m, ¬ isNum s lo hi m := fun m h => by
    have h1 := itoa_len m h.1 h.2.1
    have h2 := h.2.2.1
    rw [h2, tx_len] at hs
    omega
  have HNO := Lib.hid hno
  have i1 : (20 : Int) < s.size := by omega
  clear hno
  go_enter Tryd.func19, Tryd.ntmps19
  go_wp2_with fail
  exact bodyPost_ret (v := .tuple #[.int .i64 0, .int .i64 5]) (by simp [results, Tryd.results19, go_sem]) rfl ⟨_, _, rfl, (Below.refl _ _).alloc (Nat.le_refl _) _, .inr ⟨rfl, rfl, HNO.out⟩⟩

set_option maxHeartbeats 2000000 in
set_option maxRecDepth 100000 in
theorem rnum_none (lo hi : Int) (w : World) (l0 : -9223372036854775808 ≤ lo) (l1 : lo ≤ 9223372036854775807) (l2 : -9223372036854775808 ≤ hi) (l3 : hi ≤ 9223372036854775807) :
    Calls Tryd.prog 19 #[fv false ⟨#[]⟩ (.slice none 0 0), .int .i64 lo, .int .i64 hi] w (NumP ⟨#[]⟩ lo hi w) := by
  have hno : ∀ m, ¬ isNum ⟨#[]⟩ lo hi m := fun m h => by
    have h2 := h.2.2.1
    have h3 := congrArg (fun b : ByteArray => b.data.toList) h2
    exact itoa_ne m h3.symm
  have HNO := Lib.hid hno
  have hdig : ∀ wz, Calls Tryd.prog 36 #[.int .i64 0] wz fun e w' => e = .returned (.string ⟨#[48]⟩) ∧ Below wz.heap.size wz w' := fun wz => by
    have h := digits_any 0 wz (by omega) (by omega)
    rw [show itoa 0 = [48] by simp [itoa, decDigits]] at h
    exact h
  have HDG := Lib.hid hdig
  clear hno hdig
  go_enter Tryd.func19, Tryd.ntmps19
  go_wp2_with fail
  go_loopw [10, 11] (fun nv iv wr => iv = .int .i64 0 ∧ nv = .int .i64 0 ∧ wr = w.alloc (.cells #[.bool false, .string ⟨#[]⟩, .slice none 0 0] 24)) (fun _ iv _ => 0)
  case atStart => exact ⟨rfl, rfl, rfl⟩
  case round =>
    obtain ⟨rfl, rfl, rfl⟩ := hrel
    go_wp2_with fail
    refine wp_region_held_drew (S := (fun W => W.cell? ⟨w.heap.size, 1, none⟩ = some (.string ⟨#[]⟩) ∧ Below w.heap.size w W ∧ w.heap.size < W.heap.size)) (by kernel_rfl) ?_ (fun hHeld => ?_)
    · exact start_box _ _ _ _ _
    refine wpAnyH_take (i := 0) (oi := { dst := some 77, op := Op.move (Operand.tmp 10), type := 3, pos := "ref.go:174", after := #[], guard := none }) (v := ?_) rfl (by kernel_rfl) (by kernel_rfl) (by kernel_rfl) (fun _ _ _ h => h) (Or.inl ⟨by rfl, ?_⟩) (by assumption) ?_
    rotate_left
    · (intro w hSw; (try dsimp only at hSw); go_simp; try with_reducible rfl)
    try simp only [Act.put, List.setIfInBounds_toArray, List.set_cons_zero, List.set_cons_succ]
    refine wpAnyH_take (i := 2) (oi := { dst := some 79, op := Op.fieldAddr 24 (Operand.tmp 3) 1, type := 0, pos := "ref.go:174", after := #[], guard := none }) (v := ?_) rfl (by kernel_rfl) (by kernel_rfl) (by kernel_rfl) (fun _ _ _ h => h) (Or.inl ⟨by rfl, ?_⟩) (by assumption) ?_
    rotate_left
    · (intro w hSw; (try dsimp only at hSw); go_simp; try with_reducible rfl)
    try simp only [Act.put, List.setIfInBounds_toArray, List.set_cons_zero, List.set_cons_succ]
    refine wpAnyH_take (i := 3) (oi := { dst := some 80, op := Op.load 9 (Operand.tmp 79), type := 9, pos := "ref.go:174", after := #[{ on := 2, ground := Ground.data }], guard := none }) (v := ?_) rfl (by kernel_rfl) (by kernel_rfl) (by kernel_rfl) (fun _ _ _ h => h) (Or.inl ⟨by rfl, ?_⟩) (by assumption) ?_
    rotate_left
    · (intro w hSw; (try dsimp only at hSw); go_simp; try with_reducible rfl)
    try simp only [Act.put, List.setIfInBounds_toArray, List.set_cons_zero, List.set_cons_succ]
    refine wpAnyH_ready (rs := [1]) (by kernel_rfl) (by simp) ?_
    refine AllReadyH.cons (o := { dst := some 78, op := Op.call { callee := Callee.value (Operand.func 36), args := #[Operand.tmp 77], argTypes := #[3] }, type := 9, pos := "ref.go:174", after := #[{ on := 0, ground := Ground.data }], guard := none }) rfl (fun K hK => ?_) AllReadyH.nil
    go_simp
    go_at_call 36; (with_reducible refine (HDG.out _).mono ?_); rintro e w2 ⟨rfl, hb2⟩
    refine hK.out _ _ ?_ (fun hHeld => ?_)
    · exact keep_box hb2 (by assumption)
    clear hK K
    try simp only [Act.put, List.setIfInBounds_toArray, List.set_cons_zero, List.set_cons_succ]
    refine wpAnyH_take (i := 4) (oi := { dst := some 81, op := Op.binOp BinOp.neq 9 (Operand.tmp 78) (Operand.tmp 80) 9, type := 4, pos := "ref.go:174", after := #[{ on := 1, ground := Ground.data }, { on := 3, ground := Ground.data }], guard := none }) (v := ?_) rfl (by kernel_rfl) (by kernel_rfl) (by kernel_rfl) (fun _ _ _ h => h) (Or.inl ⟨by rfl, ?_⟩) (by assumption) ?_
    rotate_left
    · (intro w hSw; (try dsimp only at hSw); go_simp; try with_reducible rfl)
    try simp only [Act.put, List.setIfInBounds_toArray, List.set_cons_zero, List.set_cons_succ]
    refine wpAnyH_take (i := 5) (oi := { dst := some 82, op := Op.move (Operand.tmp 81), type := 4, pos := "ref.go:174", after := #[{ on := 4, ground := Ground.data }, { on := 1, ground := Ground.chain }], guard := none }) (v := ?_) rfl (by kernel_rfl) (by kernel_rfl) (by kernel_rfl) (fun _ _ _ h => h) (Or.inl ⟨by rfl, ?_⟩) (by assumption) ?_
    rotate_left
    · (intro w hSw; (try dsimp only at hSw); go_simp; try with_reducible rfl)
    try simp only [Act.put, List.setIfInBounds_toArray, List.set_cons_zero, List.set_cons_succ]
    refine wpAnyH_take (i := 6) (oi := { dst := some 83, op := Op.move (Operand.tmp 10), type := 3, pos := "ref.go:174", after := #[{ on := 5, ground := Ground.guard }], guard := some (5, false) }) (v := undef) rfl (by kernel_rfl) (by kernel_rfl) (by kernel_rfl) (fun _ _ _ h => h) (Or.inr ⟨by rfl, rfl⟩) (by assumption) ?_
    try simp only [Act.put, List.setIfInBounds_toArray, List.set_cons_zero, List.set_cons_succ]
    refine wpAnyH_take (i := 7) (oi := { dst := some 84, op := Op.move (Operand.tmp 1), type := 3, pos := "ref.go:174", after := #[{ on := 5, ground := Ground.guard }], guard := some (5, false) }) (v := undef) rfl (by kernel_rfl) (by kernel_rfl) (by kernel_rfl) (fun _ _ _ h => h) (Or.inr ⟨by rfl, rfl⟩) (by assumption) ?_
    try simp only [Act.put, List.setIfInBounds_toArray, List.set_cons_zero, List.set_cons_succ]
    refine wpAnyH_take (i := 8) (oi := { dst := some 85, op := Op.binOp BinOp.lss 3 (Operand.tmp 83) (Operand.tmp 84) 3, type := 4, pos := "ref.go:174", after := #[{ on := 6, ground := Ground.data }, { on := 7, ground := Ground.data }, { on := 5, ground := Ground.guard }], guard := some (5, false) }) (v := undef) rfl (by kernel_rfl) (by kernel_rfl) (by kernel_rfl) (fun _ _ _ h => h) (Or.inr ⟨by rfl, rfl⟩) (by assumption) ?_
    try simp only [Act.put, List.setIfInBounds_toArray, List.set_cons_zero, List.set_cons_succ]
    refine wpAnyH_take (i := 9) (oi := { dst := some 86, op := Op.pick (Operand.tmp 82) (Operand.const (Value.bool true)) (Operand.tmp 85), type := 4, pos := "ref.go:174", after := #[{ on := 5, ground := Ground.data }, { on := 8, ground := Ground.data }], guard := none }) (v := ?_) rfl (by kernel_rfl) (by kernel_rfl) (by kernel_rfl) (fun _ _ _ h => h) (Or.inl ⟨by rfl, ?_⟩) (by assumption) ?_
    rotate_left
    · (intro w hSw; (try dsimp only at hSw); go_simp; try with_reducible rfl)
    try simp only [Act.put, List.setIfInBounds_toArray, List.set_cons_zero, List.set_cons_succ]
    refine wpAnyH_take (i := 10) (oi := { dst := some 87, op := Op.move (Operand.tmp 86), type := 4, pos := "ref.go:174", after := #[{ on := 9, ground := Ground.data }, { on := 5, ground := Ground.chain }], guard := none }) (v := ?_) rfl (by kernel_rfl) (by kernel_rfl) (by kernel_rfl) (fun _ _ _ h => h) (Or.inl ⟨by rfl, ?_⟩) (by assumption) ?_
    rotate_left
    · (intro w hSw; (try dsimp only at hSw); go_simp; try with_reducible rfl)
    try simp only [Act.put, List.setIfInBounds_toArray, List.set_cons_zero, List.set_cons_succ]
    refine wpAnyH_take (i := 11) (oi := { dst := some 88, op := Op.move (Operand.tmp 10), type := 3, pos := "ref.go:174", after := #[{ on := 10, ground := Ground.guard }], guard := some (10, false) }) (v := undef) rfl (by kernel_rfl) (by kernel_rfl) (by kernel_rfl) (fun _ _ _ h => h) (Or.inr ⟨by rfl, rfl⟩) (by assumption) ?_
    try simp only [Act.put, List.setIfInBounds_toArray, List.set_cons_zero, List.set_cons_succ]
    refine wpAnyH_take (i := 12) (oi := { dst := some 89, op := Op.move (Operand.tmp 2), type := 3, pos := "ref.go:174", after := #[{ on := 10, ground := Ground.guard }], guard := some (10, false) }) (v := undef) rfl (by kernel_rfl) (by kernel_rfl) (by kernel_rfl) (fun _ _ _ h => h) (Or.inr ⟨by rfl, rfl⟩) (by assumption) ?_
    try simp only [Act.put, List.setIfInBounds_toArray, List.set_cons_zero, List.set_cons_succ]
    refine wpAnyH_take (i := 13) (oi := { dst := some 90, op := Op.binOp BinOp.gtr 3 (Operand.tmp 88) (Operand.tmp 89) 3, type := 4, pos := "ref.go:174", after := #[{ on := 11, ground := Ground.data }, { on := 12, ground := Ground.data }, { on := 10, ground := Ground.guard }], guard := some (10, false) }) (v := undef) rfl (by kernel_rfl) (by kernel_rfl) (by kernel_rfl) (fun _ _ _ h => h) (Or.inr ⟨by rfl, rfl⟩) (by assumption) ?_
    try simp only [Act.put, List.setIfInBounds_toArray, List.set_cons_zero, List.set_cons_succ]
    refine wpAnyH_take (i := 14) (oi := { dst := some 91, op := Op.pick (Operand.tmp 87) (Operand.const (Value.bool true)) (Operand.tmp 90), type := 4, pos := "ref.go:174", after := #[{ on := 10, ground := Ground.data }, { on := 13, ground := Ground.data }], guard := none }) (v := ?_) rfl (by kernel_rfl) (by kernel_rfl) (by kernel_rfl) (fun _ _ _ h => h) (Or.inl ⟨by rfl, ?_⟩) (by assumption) ?_
    rotate_left
    · (intro w hSw; (try dsimp only at hSw); go_simp; try with_reducible rfl)
    try simp only [Act.put, List.setIfInBounds_toArray, List.set_cons_zero, List.set_cons_succ]
    refine wpAnyH_done (by kernel_rfl) ?_ _
    obtain ⟨hk1, hk2, hk3⟩ := hHeld
    have HB := Lib.hid hk2
    clear hk1 hk2 hk3 hb2
    go_wp2_with fail
    exact bodyPost_ret (v := .tuple #[.int .i64 0, .int .i64 5]) (by simp [results, Tryd.results19, go_sem]) rfl ⟨_, _, rfl, HB.out, .inr ⟨rfl, rfl, HNO.out⟩⟩

theorem rnum_any (s : ByteArray) (lo hi : Int) (w : World) (l0 : -9223372036854775808 ≤ lo) (l1 : lo ≤ 9223372036854775807) (l2 : -9223372036854775808 ≤ hi) (l3 : hi ≤ 9223372036854775807) :
    Calls Tryd.prog 19 #[fv false s (.slice none 0 0), .int .i64 lo, .int .i64 hi] w (NumP s lo hi w) := by
  by_cases h1 : 20 < s.size
  · exact rnum_long s lo hi w h1
  · by_cases h0 : s.size = 0
    · obtain rfl : s = ⟨#[]⟩ := by
        have : s.data.toList = [] := List.eq_nil_of_length_eq_zero (by rw [ba_len]; exact h0)
        exact ba_ext this
      exact rnum_none lo hi w l0 l1 l2 l3
    · exact rnum_ne s lo hi w (by omega) (by omega) l0 l1 l2 l3
end Go.Proofs.YtapplhoglmihbaaDoor
