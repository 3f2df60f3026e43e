/- The contract of the document's Number, of any text. The contracts of the document's refOf, texts and opOf, and of its Number of whatever form. The contract of the document's texts. -/
import Derived.Test.YtgjcblginkdinaaGreatDoorZ29
import Derived.Test.YtgjcblginkdinaaGreatDoorZ45
set_option linter.unusedVariables false
namespace Go.Proofs.YtgjcblginkdinaaGreatDoor
open Go.ChangeShapes Go.WideShapes Go.ChangeAt Go.RowKit
open Go.Lib (decDigits itoa)

theorem itoa_ne (n : Int) : itoa n ≠ [] := by
  by_cases hneg : n < 0
  · obtain ⟨u, hu⟩ : ∃ u : Nat, n = -(u : Int) := ⟨n.natAbs, by omega⟩
    subst hu
    rw [Lib.itoa_neg u (by omega)]
    simp
  · obtain ⟨u, hu⟩ : ∃ u : Nat, n = (u : Int) := ⟨n.toNat, by omega⟩
    subst hu
    rw [itoa_nat]
    exact decDigits_ne u

theorem tx_len (l : List UInt8) : (tx l).size = l.length := by rw [← ba_len]

theorem rnum_longG (a0 : Option Addr) (c0 : Nat) (s : ByteArray) (lo hi : Int) (w : World) (hs : 20 < s.size) :
    Calls Tryz.prog 86 #[fv false s (.slice a0 0 c0), .int .i64 lo, .int .i64 hi] w (NumP s lo hi w) := by
  have hno : ∀ m, ¬ isNum s lo hi m := fun m h => by
    have h1 := itoa_len m h.1 h.2.1
    have h2 := h.2.2.1
    rw [h2, tx_len] at hs
    omega
  have HNO := Lib.hid hno
  have i1 : (20 : Int) < s.size := by omega
  clear hno
  go_enter Tryz.func86, Tryz.ntmps86
  go_wp2_with fail
  exact bodyPost_ret (v := .tuple #[.int .i64 0, .int .i64 5]) (by simp [results, Tryz.results86, go_sem]) rfl ⟨_, _, rfl, (Below.refl _ _).alloc (Nat.le_refl _) _, .inr ⟨rfl, rfl, HNO.out⟩⟩

set_option maxHeartbeats 2000000 in
set_option maxRecDepth 100000 in
theorem rnum_noneG (a0 : Option Addr) (c0 : Nat) (lo hi : Int) (w : World) (l0 : -9223372036854775808 ≤ lo) (l1 : lo ≤ 9223372036854775807) (l2 : -9223372036854775808 ≤ hi) (l3 : hi ≤ 9223372036854775807) :
    Calls Tryz.prog 86 #[fv false ⟨#[]⟩ (.slice a0 0 c0), .int .i64 lo, .int .i64 hi] w (NumP ⟨#[]⟩ lo hi w) := by
  have hno : ∀ m, ¬ isNum ⟨#[]⟩ lo hi m := fun m h => by
    have h2 := h.2.2.1
    have h3 := congrArg (fun b : ByteArray => b.data.toList) h2
    exact itoa_ne m h3.symm
  have HNO := Lib.hid hno
  have hdig : ∀ wz, Calls Tryz.prog 110 #[.int .i64 0] wz fun e w' => e = .returned (.string ⟨#[48]⟩) ∧ Below wz.heap.size wz w' := fun wz => by
    have h := digits_any 0 wz (by omega) (by omega)
    rw [show itoa 0 = [48] by simp [itoa, decDigits]] at h
    exact h
  have HDG := Lib.hid hdig
  clear hno hdig
  go_enter Tryz.func86, Tryz.ntmps86
  go_wp2_with fail
  go_loopw [10, 11] (fun nv iv wr => iv = .int .i64 0 ∧ nv = .int .i64 0 ∧ wr = w.alloc (.cells #[.bool false, .string ⟨#[]⟩, .slice a0 0 c0] 61)) (fun _ iv _ => 0)
  case atStart => exact ⟨rfl, rfl, rfl⟩
  case round =>
    obtain ⟨rfl, rfl, rfl⟩ := hrel
    go_wp2_with fail
    refine wp_region_held_drew (S := (fun W => W.cell? ⟨w.heap.size, 1, none⟩ = some (.string ⟨#[]⟩) ∧ Below w.heap.size w W ∧ w.heap.size < W.heap.size)) (by kernel_rfl) ?_ (fun hHeld => ?_)
    · exact start_box _ _ _ _ _
    refine wpAnyH_take (i := 0) (oi := ⟨some 77, .move (.tmp 10), 3, "ref.go:174", #[], none⟩) (v := ?_) rfl (by kernel_rfl) (by kernel_rfl) (by kernel_rfl) (fun _ _ _ h => h) (Or.inl ⟨by rfl, ?_⟩) (by assumption) ?_; rotate_left; · (intro w hSw; (try dsimp only at hSw); go_simp; try with_reducible rfl)
    try simp only [Act.put, List.setIfInBounds_toArray, List.set_cons_zero, List.set_cons_succ]
    refine wpAnyH_take (i := 2) (oi := ⟨some 79, .fieldAddr 61 (.tmp 3) 1, 0, "ref.go:174", #[], none⟩) (v := ?_) rfl (by kernel_rfl) (by kernel_rfl) (by kernel_rfl) (fun _ _ _ h => h) (Or.inl ⟨by rfl, ?_⟩) (by assumption) ?_; rotate_left; · (intro w hSw; (try dsimp only at hSw); go_simp; try with_reducible rfl)
    try simp only [Act.put, List.setIfInBounds_toArray, List.set_cons_zero, List.set_cons_succ]
    refine wpAnyH_take (i := 3) (oi := ⟨some 80, .load 9 (.tmp 79), 9, "ref.go:174", #[⟨2, .data⟩], none⟩) (v := ?_) rfl (by kernel_rfl) (by kernel_rfl) (by kernel_rfl) (fun _ _ _ h => h) (Or.inl ⟨by rfl, ?_⟩) (by assumption) ?_; rotate_left; · (intro w hSw; (try dsimp only at hSw); go_simp; try with_reducible rfl)
    try simp only [Act.put, List.setIfInBounds_toArray, List.set_cons_zero, List.set_cons_succ]
    refine wpAnyH_ready (rs := [1]) (by kernel_rfl) (by simp) ?_
    refine AllReadyH.cons (o := ⟨some 78, .call { callee := Callee.value (Operand.func 110), args := #[.tmp 77], argTypes := #[3] }, 9, "ref.go:174", #[⟨0, .data⟩], none⟩) rfl (fun K hK => ?_) AllReadyH.nil
    go_simp
    go_at_call 110; (with_reducible refine (HDG.out _).mono ?_); rintro e w2 ⟨rfl, hb2⟩
    refine hK.out _ _ ?_ (fun hHeld => ?_)
    · exact keep_box hb2 (by assumption)
    clear hK K
    try simp only [Act.put, List.setIfInBounds_toArray, List.set_cons_zero, List.set_cons_succ]
    refine wpAnyH_take (i := 4) (oi := ⟨some 81, .binOp BinOp.neq 9 (.tmp 78) (.tmp 80) 9, 4, "ref.go:174", #[⟨1, .data⟩, ⟨3, .data⟩], none⟩) (v := ?_) rfl (by kernel_rfl) (by kernel_rfl) (by kernel_rfl) (fun _ _ _ h => h) (Or.inl ⟨by rfl, ?_⟩) (by assumption) ?_; rotate_left; · (intro w hSw; (try dsimp only at hSw); go_simp; try with_reducible rfl)
    try simp only [Act.put, List.setIfInBounds_toArray, List.set_cons_zero, List.set_cons_succ]
    refine wpAnyH_take (i := 5) (oi := ⟨some 82, .move (.tmp 81), 4, "ref.go:174", #[⟨4, .data⟩, ⟨1, .chain⟩], none⟩) (v := ?_) rfl (by kernel_rfl) (by kernel_rfl) (by kernel_rfl) (fun _ _ _ h => h) (Or.inl ⟨by rfl, ?_⟩) (by assumption) ?_; rotate_left; · (intro w hSw; (try dsimp only at hSw); go_simp; try with_reducible rfl)
    try simp only [Act.put, List.setIfInBounds_toArray, List.set_cons_zero, List.set_cons_succ]
    refine wpAnyH_take (i := 6) (oi := ⟨some 83, .move (.tmp 10), 3, "ref.go:174", #[⟨5, .guard⟩], some (5, false)⟩) (v := undef) rfl (by kernel_rfl) (by kernel_rfl) (by kernel_rfl) (fun _ _ _ h => h) (Or.inr ⟨by rfl, rfl⟩) (by assumption) ?_
    try simp only [Act.put, List.setIfInBounds_toArray, List.set_cons_zero, List.set_cons_succ]
    refine wpAnyH_take (i := 7) (oi := ⟨some 84, .move (.tmp 1), 3, "ref.go:174", #[⟨5, .guard⟩], some (5, false)⟩) (v := undef) rfl (by kernel_rfl) (by kernel_rfl) (by kernel_rfl) (fun _ _ _ h => h) (Or.inr ⟨by rfl, rfl⟩) (by assumption) ?_
    try simp only [Act.put, List.setIfInBounds_toArray, List.set_cons_zero, List.set_cons_succ]
    refine wpAnyH_take (i := 8) (oi := ⟨some 85, .binOp BinOp.lss 3 (.tmp 83) (.tmp 84) 3, 4, "ref.go:174", #[⟨6, .data⟩, ⟨7, .data⟩, ⟨5, .guard⟩], some (5, false)⟩) (v := undef) rfl (by kernel_rfl) (by kernel_rfl) (by kernel_rfl) (fun _ _ _ h => h) (Or.inr ⟨by rfl, rfl⟩) (by assumption) ?_
    try simp only [Act.put, List.setIfInBounds_toArray, List.set_cons_zero, List.set_cons_succ]
    refine wpAnyH_take (i := 9) (oi := ⟨some 86, .pick (.tmp 82) (.const (Value.bool true)) (.tmp 85), 4, "ref.go:174", #[⟨5, .data⟩, ⟨8, .data⟩], none⟩) (v := ?_) rfl (by kernel_rfl) (by kernel_rfl) (by kernel_rfl) (fun _ _ _ h => h) (Or.inl ⟨by rfl, ?_⟩) (by assumption) ?_; rotate_left; · (intro w hSw; (try dsimp only at hSw); go_simp; try with_reducible rfl)
    try simp only [Act.put, List.setIfInBounds_toArray, List.set_cons_zero, List.set_cons_succ]
    refine wpAnyH_take (i := 10) (oi := ⟨some 87, .move (.tmp 86), 4, "ref.go:174", #[⟨9, .data⟩, ⟨5, .chain⟩], none⟩) (v := ?_) rfl (by kernel_rfl) (by kernel_rfl) (by kernel_rfl) (fun _ _ _ h => h) (Or.inl ⟨by rfl, ?_⟩) (by assumption) ?_; rotate_left; · (intro w hSw; (try dsimp only at hSw); go_simp; try with_reducible rfl)
    try simp only [Act.put, List.setIfInBounds_toArray, List.set_cons_zero, List.set_cons_succ]
    refine wpAnyH_take (i := 11) (oi := ⟨some 88, .move (.tmp 10), 3, "ref.go:174", #[⟨10, .guard⟩], some (10, false)⟩) (v := undef) rfl (by kernel_rfl) (by kernel_rfl) (by kernel_rfl) (fun _ _ _ h => h) (Or.inr ⟨by rfl, rfl⟩) (by assumption) ?_
    try simp only [Act.put, List.setIfInBounds_toArray, List.set_cons_zero, List.set_cons_succ]
    refine wpAnyH_take (i := 12) (oi := ⟨some 89, .move (.tmp 2), 3, "ref.go:174", #[⟨10, .guard⟩], some (10, false)⟩) (v := undef) rfl (by kernel_rfl) (by kernel_rfl) (by kernel_rfl) (fun _ _ _ h => h) (Or.inr ⟨by rfl, rfl⟩) (by assumption) ?_
    try simp only [Act.put, List.setIfInBounds_toArray, List.set_cons_zero, List.set_cons_succ]
    refine wpAnyH_take (i := 13) (oi := ⟨some 90, .binOp BinOp.gtr 3 (.tmp 88) (.tmp 89) 3, 4, "ref.go:174", #[⟨11, .data⟩, ⟨12, .data⟩, ⟨10, .guard⟩], some (10, false)⟩) (v := undef) rfl (by kernel_rfl) (by kernel_rfl) (by kernel_rfl) (fun _ _ _ h => h) (Or.inr ⟨by rfl, rfl⟩) (by assumption) ?_
    try simp only [Act.put, List.setIfInBounds_toArray, List.set_cons_zero, List.set_cons_succ]
    refine wpAnyH_take (i := 14) (oi := ⟨some 91, .pick (.tmp 87) (.const (Value.bool true)) (.tmp 90), 4, "ref.go:174", #[⟨10, .data⟩, ⟨13, .data⟩], none⟩) (v := ?_) rfl (by kernel_rfl) (by kernel_rfl) (by kernel_rfl) (fun _ _ _ h => h) (Or.inl ⟨by rfl, ?_⟩) (by assumption) ?_; rotate_left; · (intro w hSw; (try dsimp only at hSw); go_simp; try with_reducible rfl)
    try simp only [Act.put, List.setIfInBounds_toArray, List.set_cons_zero, List.set_cons_succ]
    refine wpAnyH_done (by kernel_rfl) ?_ _
    obtain ⟨hk1, hk2, hk3⟩ := hHeld
    have HB := Lib.hid hk2
    clear hk1 hk2 hk3 hb2
    go_wp2_with fail
    exact bodyPost_ret (v := .tuple #[.int .i64 0, .int .i64 5]) (by simp [results, Tryz.results86, go_sem]) rfl ⟨_, _, rfl, HB.out, .inr ⟨rfl, rfl, HNO.out⟩⟩

theorem rnum_gen (a0 : Option Addr) (c0 : Nat) (s : ByteArray) (lo hi : Int) (w : World) (l0 : -9223372036854775808 ≤ lo) (l1 : lo ≤ 9223372036854775807) (l2 : -9223372036854775808 ≤ hi) (l3 : hi ≤ 9223372036854775807) :
    Calls Tryz.prog 86 #[fv false s (.slice a0 0 c0), .int .i64 lo, .int .i64 hi] w (NumP s lo hi w) := by
  by_cases h1 : 20 < s.size
  · exact rnum_longG a0 c0 s lo hi w h1
  · by_cases h0 : s.size = 0
    · obtain rfl : s = ⟨#[]⟩ := by
        have : s.data.toList = [] := List.eq_nil_of_length_eq_zero (by rw [ba_len]; exact h0)
        exact ba_ext this
      exact rnum_noneG a0 c0 lo hi w l0 l1 l2 l3
    · exact rnum_neG a0 c0 s lo hi w (by omega) (by omega) l0 l1 l2 l3
end Go.Proofs.YtgjcblginkdinaaGreatDoor
set_option linter.unusedVariables false
namespace Go.Proofs.YtgjcblginkdinaaGreatDoor
open Go.ChangeShapes Go.WideShapes Go.ChangeAt Go.RowKit

def NumT (T : Tm) (lo hi n x : Int) : Prop := (T = nuT n ∧ wfI n ∧ lo ≤ n ∧ n ≤ hi ∧ x = 0) ∨ (n = 0 ∧ x = 5 ∧ ∀ m, wfI m → lo ≤ m → m ≤ hi → T ≠ nuT m)
def NumTP (T : Tm) (lo hi : Int) (w : World) (e : Ending) (w' : World) : Prop := ∃ n x, e = .returned (.tuple #[.int .i64 n, .int .i64 x]) ∧ NumT T lo hi n x ∧ Below w.heap.size w w'
theorem text_xs {T : Tm} (h : T.ok = true) (hl : T.l = false) : T.xs = [] := by
  have := text_back h hl
  rw [← this]; rfl
theorem rnumT (T : Tm) (hok : T.ok = true) (a : Option Addr) (c : Nat) (lo hi : Int) (w : World) (l0 : -9223372036854775808 ≤ lo) (l1 : lo ≤ 9223372036854775807) (l2 : -9223372036854775808 ≤ hi) (l3 : hi ≤ 9223372036854775807) :
    Calls Tryz.prog 86 #[fv T.l T.t (.slice a T.xs.length c), .int .i64 lo, .int .i64 hi] w (NumTP T lo hi w) := by
  cases hl : T.l with
  | false =>
    rw [text_xs hok hl]
    refine (rnum_gen a c T.t lo hi w l0 l1 l2 l3).mono ?_
    rintro e w' ⟨n, x, he, hb, h⟩
    refine ⟨n, x, he, ?_, hb⟩
    rcases h with ⟨⟨h0, h1, h2, h3, h4⟩, hx⟩ | ⟨hn, hx, h⟩
    · exact .inl ⟨by rw [← text_back hok hl, h2]; rfl, ⟨h0, h1⟩, h3, h4, hx⟩
    · refine .inr ⟨hn, hx, fun m hm h1 h2 e => h m ⟨hm.1, hm.2, ?_, h1, h2⟩⟩
      rw [e]; rfl
  | true =>
    have hpost : ∀ w', Below w.heap.size w w' → NumTP T lo hi w (.returned (.tuple #[.int .i64 0, .int .i64 5])) w' := fun w' hb => ⟨0, 5, rfl, .inr ⟨rfl, rfl, fun m _ _ _ e => by rw [e] at hl; cases hl⟩, hb⟩
    obtain ⟨Q, hQ⟩ : ∃ Q, Q = NumTP T lo hi w := ⟨_, rfl⟩
    rw [← hQ] at hpost ⊢
    have hb1 : ∀ o, Below w.heap.size w (w.alloc o) := fun o => (Below.refl _ _).alloc (Nat.le_refl _) _
    obtain ⟨m, hm⟩ : ∃ m, m = T.xs.length := ⟨_, rfl⟩
    obtain ⟨s, hs⟩ : ∃ m, m = T.t := ⟨_, rfl⟩
    rw [← hm, ← hs]
    have HP := Lib.hid hpost
    have HB1 := Lib.hid hb1
    clear hpost hb1 hQ hm hs hok hl
    go_enter Tryz.func86, Tryz.ntmps86
    go_wp2_with fail
    exact HP.out _ (HB1.out _)

def Rf.rng (r : Rf) : Prop := -2 ≤ r.at_ ∧ r.at_ ≤ 64 ∧ 0 ≤ r.n ∧ r.n ≤ 300
def RefT (T : Tm) (r : Rf) (b : Bool) : Prop := (b = true → T = rfT r ∧ r.wf ∧ r.rng) ∧ (b = false → ∀ r' : Rf, r'.wf → r'.rng → T ≠ rfT r')
def RefTP (T : Tm) (w : World) (e : Ending) (w' : World) : Prop := ∃ r b, e = .returned (.tuple #[rfV r, .bool b]) ∧ RefT T r b ∧ Below w.heap.size w w'

theorem refT_shape {T : Tm} (h : ¬ (T.l = true ∧ T.xs.length = 2)) (r : Rf) : T ≠ rfT r := fun e => h (by rw [e]; exact ⟨rfl, rfl⟩)
theorem list_back {T : Tm} (hok : T.ok = true) (hl : T.l = true) : T = liT T.xs := by
  obtain ⟨l, t, xs⟩ := T
  simp only [Tm.l] at hl
  subst hl
  rw [Tm.ok] at hok
  simp only [if_true, Bool.and_eq_true, decide_eq_true_eq] at hok
  have e : t = noText := ba_ext (by rw [List.eq_nil_of_length_eq_zero (by rw [ba_len]; exact hok.1 : t.data.toList.length = 0)])
  rw [e]; rfl
theorem refT_of {T : Tm} (hok : T.ok = true) (hl : T.l = true) (h2 : T.xs.length = 2) {a x n g : Int} (h0 : NumT (nth T.xs 0) (-2) 64 a x) (h1 : NumT (nth T.xs 1) 0 300 n g) : RefT T ⟨a, n⟩ ((x == 0) && (g == 0)) := by
  have hb := list_back hok hl
  rw [list2 h2] at hb
  constructor
  · intro h
    simp only [Bool.and_eq_true, beq_iff_eq] at h
    obtain ⟨rfl, rfl⟩ := h
    rcases h0 with ⟨e0, w0, p0, q0, _⟩ | ⟨_, h, _⟩
    · rcases h1 with ⟨e1, w1, p1, q1, _⟩ | ⟨_, h, _⟩
      · refine ⟨?_, ⟨w0, w1⟩, p0, q0, p1, q1⟩
        rw [hb, e0, e1]; rfl
      · cases h
    · cases h
  · intro h r' hw hr e
    have hb2 := hb.symm.trans e
    have hx : [nth T.xs 0, nth T.xs 1] = [nuT r'.at_, nuT r'.n] := by
      unfold rfT liT at hb2
      injection hb2
    simp only [List.cons.injEq, and_true] at hx
    rcases h0 with ⟨_, _, _, _, rfl⟩ | ⟨_, _, h⟩
    · rcases h1 with ⟨_, _, _, _, rfl⟩ | ⟨_, _, h⟩
      · cases h
      · exact h r'.n hw.2 hr.2.2.1 hr.2.2.2 hx.2
    · exact h r'.at_ hw.1 hr.1 hr.2.1 hx.1

theorem frozenB {w wz : World} {x1 x2 : Array Value} {t1 t2 : TypeId} (h : Below ((w.alloc (.cells x1 t1)).alloc (.cells x2 t2)).heap.size ((w.alloc (.cells x1 t1)).alloc (.cells x2 t2)) wz) (j : Nat) : wz.frozen? ⟨w.heap.size + 1, j, none⟩ = false :=
  (h.frozen (p := ⟨w.heap.size + 1, j, none⟩) (by simp)).trans (World.frozen?_alloc_at _ _ _ _ (by simp))
theorem set2_below {w W : World} {b : Nat} {u0 u1 : Value} (h : Below w.heap.size w W) (hb : w.heap.size ≤ b) : Below w.heap.size w ((W.setCell ⟨b, 0, none⟩ u0).setCell ⟨b, 1, none⟩ u1) := (h.setCell (p := ⟨b, 0, none⟩) hb _).setCell (p := ⟨b, 1, none⟩) hb _
set_option maxHeartbeats 4000000 in
set_option maxRecDepth 100000 in
theorem rrefOf (Z : Nat → Prop) (T : Tm) (hok : T.ok = true) (a : Option Addr) (c : Nat) (w : World) (hsl : SlL Z w (.slice a T.xs.length c) T.xs) :
    Calls Tryz.prog 87 #[fv T.l T.t (.slice a T.xs.length c)] w (RefTP T w) := by
  have hb2 : ∀ o1 o2, Below w.heap.size w ((w.alloc o1).alloc o2) := fun o1 o2 => ((Below.refl _ _).alloc (Nat.le_refl _) _).alloc (by simp) _
  by_cases hs : T.l = true ∧ T.xs.length = 2
  case neg =>
    have hpost : ∀ w', Below w.heap.size w w' → RefTP T w (.returned (.tuple #[rfV ⟨0, 0⟩, .bool false])) w' := fun w' hb => ⟨_, _, rfl, ⟨fun h => (by cases h), fun _ r' _ _ => refT_shape hs r'⟩, hb⟩
    obtain ⟨Q, hQ⟩ : ∃ Q, Q = RefTP T w := ⟨_, rfl⟩
    rw [← hQ] at hpost ⊢
    obtain ⟨m, hm⟩ : ∃ m, m = T.xs.length := ⟨_, rfl⟩
    obtain ⟨s, hs'⟩ : ∃ m, m = T.t := ⟨_, rfl⟩
    obtain ⟨l, hl⟩ : ∃ m, m = T.l := ⟨_, rfl⟩
    rw [← hm, ← hl] at hs
    rw [← hm, ← hs', ← hl]
    have HP := Lib.hid hpost
    have HB2 := Lib.hid hb2
    clear hpost hb2 hQ hm hs' hl hok hsl
    have hfin : ∀ o1 o2 u0 u1, Below w.heap.size w ((((w.alloc o1).alloc o2).setCell ⟨w.heap.size + 1, 0, none⟩ u0).setCell ⟨w.heap.size + 1, 1, none⟩ u1) := fun o1 o2 u0 u1 => set2_below (HB2.out _ _) (by omega)
    have HF := Lib.hid hfin
    clear hfin
    cases l with
    | false =>
      clear hs
      go_enter Tryz.func87, Tryz.ntmps87
      go_wp2_with fail
      exact bodyPost_ret (v := .tuple #[rfV ⟨0, 0⟩, .bool false]) (by simp [results, Tryz.results87, go_sem]) rfl (HP.out _ (by first | exact HF.out _ _ _ _ | exact HB2.out _ _))
    | true =>
      have n2 : ((m : Int) == 2) = false := by
        have : m ≠ 2 := fun e => hs ⟨rfl, e⟩
        simp; omega
      have n3 : ((m : Int) != 2) = true := by
        have : m ≠ 2 := fun e => hs ⟨rfl, e⟩
        simp; omega
      clear hs
      go_enter Tryz.func87, Tryz.ntmps87
      go_wp2_with fail
      exact bodyPost_ret (v := .tuple #[rfV ⟨0, 0⟩, .bool false]) (by simp [results, Tryz.results87, go_sem]) rfl (HP.out _ (by first | exact HF.out _ _ _ _ | exact HB2.out _ _))
  case pos =>
    obtain ⟨hl, h2⟩ := hs
    have hxo := ok_xs hok
    obtain ⟨b, o, c', ha, _, _, hrow⟩ := hsl.pos (by intro h; rw [h] at h2; cases h2)
    injection ha with ha _ hc
    subst ha
    subst hc
    obtain ⟨a0, c0, d00, d01, d02, _, _⟩ := hrow.one (j := 0) (by omega)
    obtain ⟨a1, c1, d10, d11, d12, _, _⟩ := hrow.one (j := 1) (by omega)
    rw [Nat.zero_mul, Nat.add_zero] at d00 d01 d02
    rw [Nat.one_mul] at d10 d11 d12
    have hm : ∀ j, j < 2 → nth T.xs j ∈ T.xs := fun j hj => nth_mem (by omega)
    have k0 := fun wz => rnumT (nth T.xs 0) (hxo _ (hm 0 (by omega))) a0 c0 (-2) 64 wz (by omega) (by omega) (by omega) (by omega)
    have k1 := fun wz => rnumT (nth T.xs 1) (hxo _ (hm 1 (by omega))) a1 c1 0 300 wz (by omega) (by omega) (by omega) (by omega)
    have hfin : ∀ x y g h : Int, NumT (nth T.xs 0) (-2) 64 x y → NumT (nth T.xs 1) 0 300 g h → ∀ w', Below w.heap.size w w' → RefTP T w (.returned (.tuple #[rfV ⟨x, g⟩, .bool ((y == 0) && (h == 0))])) w' := fun x y g h h0 h1 w' hb => ⟨_, _, rfl, refT_of hok hl h2 h0 h1, hb⟩
    obtain ⟨Q, hQ⟩ : ∃ Q, Q = RefTP T w := ⟨_, rfl⟩
    rw [← hQ] at hfin ⊢
    rw [hl, h2]
    obtain ⟨s, hs'⟩ : ∃ m, m = T.t := ⟨_, rfl⟩
    rw [← hs']
    obtain ⟨x0, hx0⟩ : ∃ x, x = nth T.xs 0 := ⟨_, rfl⟩
    obtain ⟨x1, hx1⟩ : ∃ x, x = nth T.xs 1 := ⟨_, rfl⟩
    rw [← hx0] at d00 d01 d02 k0 hfin
    rw [← hx1] at d10 d11 d12 k1 hfin
    obtain ⟨l0, hl0⟩ : ∃ x, x = x0.l := ⟨_, rfl⟩
    obtain ⟨t0, ht0⟩ : ∃ x, x = x0.t := ⟨_, rfl⟩
    obtain ⟨n0, hn0⟩ : ∃ x, x = x0.xs.length := ⟨_, rfl⟩
    obtain ⟨l1, hl1⟩ : ∃ x, x = x1.l := ⟨_, rfl⟩
    obtain ⟨t1, ht1⟩ : ∃ x, x = x1.t := ⟨_, rfl⟩
    obtain ⟨n1, hn1⟩ : ∃ x, x = x1.xs.length := ⟨_, rfl⟩
    rw [← hl0] at d00 k0
    rw [← ht0] at d01 k0
    rw [← hn0] at d02 k0
    rw [← hl1] at d10 k1
    rw [← ht1] at d11 k1
    rw [← hn1] at d12 k1
    have hbz : b < w.heap.size := cell_lt d00
    have hcz : ∀ W, Below w.heap.size w W → (W.cell? ⟨b, o, none⟩ = some (.bool l0) ∧ W.cell? ⟨b, o + 1, none⟩ = some (.string t0) ∧ W.cell? ⟨b, o + 2, none⟩ = some (.slice a0 n0 c0)) ∧ W.cell? ⟨b, o + 3, none⟩ = some (.bool l1) ∧ W.cell? ⟨b, o + 3 + 1, none⟩ = some (.string t1) ∧ W.cell? ⟨b, o + 3 + 2, none⟩ = some (.slice a1 n1 c1) := fun W hW => by
      have k : ∀ i u, w.cell? ⟨b, i, none⟩ = some u → W.cell? ⟨b, i, none⟩ = some u := fun i u hu => (hW.cell (p := ⟨b, i, none⟩) hbz).trans hu
      exact ⟨⟨k _ _ d00, k _ _ d01, k _ _ d02⟩, k _ _ d10, k _ _ d11, k _ _ d12⟩
    have HCZ := Lib.hid hcz
    have HFIN := Lib.hid hfin
    have HB2 := Lib.hid hb2
    have K0 := Lib.hid k0
    have K1 := Lib.hid k1
    clear hcz hfin hb2 k0 k1 d00 d01 d02 d10 d11 d12 hbz hrow hm hxo hok hsl hl h2 hQ hs' hx0 hx1 hl0 ht0 hn0 hl1 ht1 hn1
    have hst := HCZ.out _ (HB2.out (.cells #[.bool true, .string s, .slice (some ⟨b, o, none⟩) 2 c] 61) (.cells #[.int .i64 0, .int .i64 0] 54))
    obtain ⟨⟨e00, e01, e02⟩, e10, e11, e12⟩ := hst
    go_enter Tryz.func87, Tryz.ntmps87
    go_wp2_with fail
    refine (K0.out _).mono ?_
    rintro e w1 ⟨u, y, rfl, hn, hb⟩
    obtain ⟨q1, q2, qb, _⟩ := boxA2 hb
    have f0 := (q1 0).trans rfl
    have f1 := (q1 1).trans rfl
    have f2 := (q1 2).trans rfl
    have g0 := (q2 0).trans rfl
    have g1 := (q2 1).trans rfl
    have z0 := frozenB hb 0
    have z1 := frozenB hb 1
    have QB := Lib.hid qb
    have HN := Lib.hid hn
    clear hb q1 q2 qb hn e00 e01 e02 e10 e11 e12
    obtain ⟨⟨e00, e01, e02⟩, e10, e11, e12⟩ := HCZ.out _ QB.out
    go_wp2_with fail
    refine (K1.out _).mono ?_
    rintro e w2 ⟨u', y', rfl, hn, hb⟩
    have HN2 := Lib.hid hn
    have g0' := (hb.cell (p := ⟨w.heap.size + 1, 0, none⟩) (cell_lt g0)).trans g0
    have g1' := (hb.cell (p := ⟨w.heap.size + 1, 1, none⟩) (cell_lt g1)).trans g1
    have z0' := (hb.frozen (p := ⟨w.heap.size + 1, 0, none⟩) (cell_lt g0)).trans z0
    have z1' := (hb.frozen (p := ⟨w.heap.size + 1, 1, none⟩) (cell_lt g1)).trans z1
    have QB2 := Lib.hid (QB.out.trans (hb.mono QB.out.size))
    have r0 : ((w2.setCell ⟨w.heap.size + 1, 0, none⟩ (.int .i64 u)).setCell ⟨w.heap.size + 1, 1, none⟩ (.int .i64 u')).cell? ⟨w.heap.size + 1, 0, none⟩ = some (.int .i64 u) := by
      rw [World.cell?_setCell_other _ _ _ _ (by simp)]
      exact World.cell?_setCell_same _ _ _ g0'
    have r1 : ((w2.setCell ⟨w.heap.size + 1, 0, none⟩ (.int .i64 u)).setCell ⟨w.heap.size + 1, 1, none⟩ (.int .i64 u')).cell? ⟨w.heap.size + 1, 1, none⟩ = some (.int .i64 u') :=
      World.cell?_setCell_same _ _ _ (by rw [World.cell?_setCell_other _ _ _ _ (by simp)]; exact g1')
    have HE := Lib.hid (HFIN.out _ _ _ _ HN.out HN2.out _ (set2_below (b := w.heap.size + 1) (u0 := .int .i64 u) (u1 := .int .i64 u') QB2.out (by omega)))
    clear hn hb g0 g1 z0 z1 f0 f1 f2 e00 e01 e02 e10 e11 e12
    by_cases hy : y = 0
    · subst hy
      by_cases hy' : y' = 0
      · subst hy'
        go_wp2_with fail
        exact bodyPost_ret (v := .tuple #[rfV ⟨u, u'⟩, .bool true]) (by simp [results, Tryz.results87, go_sem, r0, r1]) rfl HE.out
      · have n1 : (y' == 0) = false := by simpa using hy'
        rw [n1] at HE
        go_wp2_with fail
        exact bodyPost_ret (v := .tuple #[rfV ⟨u, u'⟩, .bool false]) (by simp [results, Tryz.results87, go_sem, r0, r1]) rfl HE.out
    · have n1 : (y == 0) = false := by simpa using hy
      rw [n1] at HE
      go_wp2_with fail
      exact bodyPost_ret (v := .tuple #[rfV ⟨u, u'⟩, .bool false]) (by simp [results, Tryz.results87, go_sem, r0, r1]) rfl HE.out
end Go.Proofs.YtgjcblginkdinaaGreatDoor
set_option linter.unusedVariables false
namespace Go.Proofs.YtgjcblginkdinaaGreatDoor
open Go.ChangeShapes Go.WideShapes Go.ChangeAt Go.RowKit

theorem below_dr {B : Nat} {a w : World} (h : Below B a w) (n : Nat) : Below B a (w.drewN n) := h.trans ⟨rfl, rfl, rfl, Nat.le_refl _, fun _ _ => rfl⟩
def TextsT (T : Tm) (ls : Lb) (b : Bool) : Prop := (b = true → T = tsT ls) ∧ (b = false → ∀ ls', T ≠ tsT ls')
def TextsTP (T : Tm) (w : World) (e : Ending) (w' : World) : Prop := ∃ v ls b, e = .returned (.tuple #[v, .bool b]) ∧ TextsT T ls b ∧ (∀ s ∈ ls, s.size ≤ T.texts) ∧ ReadsZ (fun i => w.heap.size ≤ i) w' v ls ∧ Below w.heap.size w w'
theorem tsT_no {T : Tm} {x : Tm} (hx : x ∈ T.xs) (hl : x.l = true) (ls : Lb) : T ≠ tsT ls := fun e => by
  rw [e] at hx
  obtain ⟨s, _, rfl⟩ := List.mem_map.1 (show x ∈ ls.map txT from hx)
  cases hl
theorem tsT_of {T : Tm} (hok : T.ok = true) (hx : T.xs.any Tm.l = false) : TextsT T (T.xs.map Tm.t) T.l := by
  constructor
  · intro hl
    have h := texts_back (T := T) hok (by unfold rdTexts; simp only [hl, hx]; rfl)
    exact h.symm
  · intro hl ls e
    rw [e] at hl; cases hl

set_option maxHeartbeats 4000000 in
set_option maxRecDepth 100000 in
theorem rtextsD (Z : Nat → Prop) (T : Tm) (hok : T.ok = true) (hn1 : T.xs.length ≤ 1000000) (a : Option Addr) (c : Nat) (w : World) (hsl : SlL Z w (.slice a T.xs.length c) T.xs) :
    Calls Tryz.prog 43 #[fv T.l T.t (.slice a T.xs.length c)] w (TextsTP T w) := by
  have hsl0 : SlL (fun i => Z i ∧ i < w.heap.size) w (.slice a T.xs.length c) T.xs := hsl.mono fun i hi hz => ⟨hz, hi⟩
  have hno : ∀ x ∈ T.xs, x.l = true → ∀ w', Below w.heap.size w w' → TextsTP T w (.returned (.tuple #[.slice none 0 0, .bool false])) w' := fun x hx hl w' hb => ⟨_, [], _, rfl, ⟨fun h => (by cases h), fun _ ls' => tsT_no hx hl ls'⟩, by simp, .inl ⟨rfl, _, _, rfl⟩, hb⟩
  have hyes : T.xs.any Tm.l = false → ∀ v k w', k = T.xs.length → Row 1 (w.heap.size + 1) w' v k (T.xs.map fun x => .string x.t) → Below w.heap.size w w' → TextsTP T w (.returned (.tuple #[v, .bool T.l])) w' := fun hx v k w' hk hr hb =>
    ⟨_, T.xs.map Tm.t, _, rfl, tsT_of hok hx, rdTexts_size T, row_readsZ (xs := T.xs.map Tm.t) (by rw [List.map_map]; exact hr) (fun i hi => by omega), hb⟩
  obtain ⟨Q, hQ⟩ : ∃ Q, Q = TextsTP T w := ⟨_, rfl⟩
  rw [← hQ] at hno hyes ⊢
  obtain ⟨l, t, xs⟩ := T
  simp only [Tm.l, Tm.t, Tm.xs] at hsl0 hn1 hno hyes ⊢
  obtain ⟨n, hn⟩ : ∃ n, n = xs.length := ⟨_, rfl⟩
  rw [← hn] at hsl0 hn1 hyes ⊢
  have hb1 : ∀ o, Below w.heap.size w (w.alloc o) := fun o => (Below.refl _ _).alloc (Nat.le_refl _) _
  have HS := Lib.hid hsl0
  have HN := Lib.hid hn
  have HNO := Lib.hid hno
  have HYES := Lib.hid hyes
  have HB1 := Lib.hid hb1
  clear hsl hsl0 hn hno hyes hb1 hQ hok
  go_enter Tryz.func43, Tryz.ntmps43
  go_wp2_with fail
  go_loopw [4, 5] (fun v i wr => ∃ (k : Nat), k ≤ n ∧ i = .int .i64 (k : Nat) ∧ Hid (Row 1 (w.heap.size + 1) wr v k ((xs.take k).map fun x => .string x.t)) ∧ Hid ((xs.take k).any Tm.l = false) ∧ Hid (Below (w.heap.size + 1) (w.alloc (.cells #[.bool l, .string t, .slice a n c] 61)) wr)) (fun _ i _ => n - (intOf i).toNat)
  case atStart => exact ⟨0, Nat.zero_le _, rfl, Lib.hid (by simpa using Row.nil 1 (w.heap.size + 1) _), Lib.hid (by simp), Lib.hid (Below.refl _ _)⟩
  case round =>
    obtain ⟨k, hk, rfl, HW, HA, HB⟩ := hrel
    obtain ⟨va, vc, hv, _, _⟩ := HW.out.form'
    subst hv
    have hbw : Below w.heap.size w wr := (HB1.out _).trans (HB.out.mono (by simp))
    have hszr : w.heap.size + 1 ≤ wr.heap.size := by have := HB.out.size; simp at this; omega
    have f0 : wr.cell? ⟨w.heap.size, 0, none⟩ = some (.bool l) := (HB.out.cell (p := ⟨w.heap.size, 0, none⟩) (by simp)).trans (World.cell?_alloc_at _ _ _ _ rfl)
    have f2 : wr.cell? ⟨w.heap.size, 2, none⟩ = some (.slice a n c) := (HB.out.cell (p := ⟨w.heap.size, 2, none⟩) (by simp)).trans (World.cell?_alloc_at _ _ _ _ rfl)
    by_cases hlt2 : k < n
    · obtain ⟨x, hx⟩ : ∃ x, xs[k]? = some x := ⟨xs[k]'(by rw [← HN.out]; exact hlt2), by simp⟩
      have hxm := List.mem_of_getElem? hx
      obtain ⟨l1, t1, ys1⟩ := x
      have hsw := HS.out.off (Off.of_below (Z := fun i => w.heap.size ≤ i) hbw) (fun i hz e => by have := hz.2; omega)
      have hsw' : SlL (fun i => Z i ∧ i < w.heap.size) wr (.slice a xs.length c) xs := by rw [← HN.out]; exact hsw
      obtain ⟨b1, o1, c1', ha1, _, _, hrow⟩ := hsw'.pos (by intro h; rw [h] at hx; cases hx)
      rw [← HN.out] at ha1
      injection ha1 with ha1 _ hc1
      subst ha1
      subst hc1
      obtain ⟨a1, c1, d0, d1, d2, d3, d4⟩ := hrow.2.2 k l1 t1 ys1 hx
      have HX := Lib.hid hx
      have HBW := Lib.hid hbw
      clear hsw hsw' hrow d3 d4 d2 hx hbw
      cases l1 with
      | true =>
        have HE := Lib.hid (HNO.out _ hxm rfl wr HBW.out)
        clear hxm
        go_wp2_with fail
        exact HE.out
      | false =>
        clear hxm
        go_wp2_with (at_builtin; refine wpList_append_row rfl (.tmp 19) (.tmp 26) 22 22 rfl 1 9 (.string ByteArray.empty) 16 Tryz.underlying22 Tryz.infoS rfl (w.heap.size + 1) (.slice va k vc) k _ (by simp [Act.eval]) (by exact HW.out.alloc _) (.slice (some ⟨wr.heap.size, 0, none⟩) 1 1) (by simp [Act.eval]) 1 [.string t1] (by exact src_new Tryz.underlying22 _ _ _ _ rfl (by intro u hu; simp only [List.mem_cons, List.not_mem_nil, or_false] at hu; subst hu; rfl)) (by simp; omega) (by omega) (by decide) ?_; intro v6 w6 hr6 ho6 hw6; obtain ⟨a6, c6, hv6⟩ := hr6.form; subst hv6; have HR6 := Lib.hid hr6; have HO6 := Lib.hid ho6; clear hr6 ho6 hw6)
        have hbn : Below (w.heap.size + 1) (w.alloc (.cells #[.bool false, .string t, .slice (some ⟨b1, o1, none⟩) n c] 61)) (w.alloc (.cells #[.bool false, .string t, .slice (some ⟨b1, o1, none⟩) n c] 61)) := Below.refl _ _
        clear hbn
        exact ⟨⟨k + 1, by omega, by go_num, Lib.hid (by rw [take_snoc HX.out, List.map_append]; exact HR6.out), Lib.hid (by rw [take_snoc HX.out, List.any_append, HA.out]; rfl), Lib.hid (HB.out.trans ((((Off.refl _ wr).alloc _).trans HO6.out).below (fun i hi => by have := (HW.out.lt i hi).1; omega) hszr))⟩, by simp [intOf]; omega⟩
    · have hkn : k = n := by omega
      have htk : xs.take k = xs := List.take_of_length_le (by rw [← HN.out]; omega)
      have h1 := HW.out
      have h2 := HA.out
      rw [htk] at h1 h2
      have HE := Lib.hid (fun wz (hb : Below w.heap.size w wz) (hr : Row 1 (w.heap.size + 1) wz (.slice va k vc) k (xs.map fun x => .string x.t)) => HYES.out h2 _ k wz hkn hr hb)
      have H1 := Lib.hid h1
      have HBW := Lib.hid hbw
      clear h1 h2 htk hkn HW HA HYES HNO hbw
      go_wp2_with fail
      go_quiet (fail)
      go_wp2_with fail
      exact HE.out _ (below_dr HBW.out _) (H1.out.below (below_dr (Below.refl _ wr) _))
end Go.Proofs.YtgjcblginkdinaaGreatDoor
