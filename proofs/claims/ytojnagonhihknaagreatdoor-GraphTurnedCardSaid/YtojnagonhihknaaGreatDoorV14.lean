/- The contracts of the document's size and bytes. The contract of the document's Write. -/
import Derived.Deep.RegionHeld3
import Derived.Test.YtojnagonhihknaaGreatDoorV5
import Derived.Test.YtojnagonhihknaaGreatDoorV9
set_option linter.unusedVariables false
namespace Go.Proofs.YtojnagonhihknaaGreatDoor
open Go.ChangeShapes Go.WideShapes Go.ChangeAt Go.RowKit
open Go.Lib (decDigits itoa)

set_option maxHeartbeats 2000000 in
set_option maxRecDepth 100000 in
theorem rsize_text (t : ByteArray) (a : Option Addr) (n c : Nat) (w : World) (ht : t.size ≤ 140737488355328) :
    Calls Tryz.prog 96 #[fv false t (.slice a n c)] w fun e w' => e = .returned (.int .i64 ((decDigits t.size ++ 58 :: t.data.toList).length : Nat)) ∧ Below w.heap.size w w' := by
  have hc := fun wz => digits_nat t.size wz (by omega)
  have hl : (decDigits t.size ++ 58 :: t.data.toList).length = (decDigits t.size).length + 1 + t.size := by rw [List.length_append, List.length_cons, ba_len]; omega
  have hd := decDigits_len t.size
  rw [hl]
  obtain ⟨X, hX⟩ : ∃ X, X = decDigits t.size := ⟨_, rfl⟩
  rw [← hX] at hd ⊢
  have hc' : ∀ wz : World, Calls Tryz.prog 128 #[.int .i64 (t.size : Nat)] wz fun e w' => e = .returned (.string (tx X)) ∧ Below wz.heap.size wz w' := by rw [hX]; exact hc
  have HC := Lib.hid hc'
  have hxl : X.length ≤ 70368744177666 := by omega
  clear hc hc' hl hX hd
  go_enter Tryz.func96, Tryz.ntmps96
  go_wp2_with fail
  go_region_held3 (fun W => W.cell? ⟨w.heap.size, 1, none⟩ = some (.string t) ∧ Below w.heap.size w W ∧ w.heap.size < W.heap.size) (first | exact keep_box hb2 (by assumption) | exact start_box _ _ _ _ _) (first | (go_at_call 128; refine (HC.out _).mono ?_; rintro e w2 ⟨rfl, hb2⟩))
  all_goals (have e1 : IntKind.i64.wrap ((X.length : Int) + 1) = (X.length : Int) + 1 := IntWalk.i64_in _ (by omega))
  all_goals (have e2 : IntKind.i64.wrap ((X.length : Int) + 1 + (t.size : Int)) = (X.length : Int) + 1 + (t.size : Int) := IntWalk.i64_in _ (by omega))
  all_goals rw [e1, e2]
  all_goals clear e1 e2
  all_goals go_wp2
  all_goals go_ret
  all_goals exact ⟨ret_int (by omega), And.left (And.right (by assumption))⟩


set_option maxHeartbeats 2000000 in
set_option maxRecDepth 100000 in
theorem rbytes_text (t : ByteArray) (a : Option Addr) (n c : Nat) (w : World) (ht : t.size ≤ 140737488355328) :
    Calls Tryz.prog 97 #[fv false t (.slice a n c)] w fun e w' => e = .returned (.string (tx (decDigits t.size ++ 58 :: t.data.toList))) ∧ Below w.heap.size w w' := by
  have hc := fun wz => digits_nat t.size wz (by omega)
  have hd := decDigits_len t.size
  obtain ⟨X, hX⟩ : ∃ X, X = decDigits t.size := ⟨_, rfl⟩
  rw [← hX] at hd ⊢
  have hc' : ∀ wz : World, Calls Tryz.prog 128 #[.int .i64 (t.size : Nat)] wz fun e w' => e = .returned (.string (tx X)) ∧ Below wz.heap.size wz w' := by rw [hX]; exact hc
  have HC := Lib.hid hc'
  have hxl : X.length + 1 ≤ 9223372036854775807 := by omega
  have hxl2 : X.length + 1 + t.size ≤ 9223372036854775807 := by omega
  have f1 : (9223372036854775807 ≤ X.length) = False := eq_false (by omega)
  have f2 : (9223372036854775807 < X.length + 1) = False := eq_false (by omega)
  have f3 : (9223372036854775807 < X.length + 1 + t.size) = False := eq_false (by omega)
  clear hc hc' hX hd hxl hxl2
  go_enter Tryz.func97, Tryz.ntmps97
  go_wp2_with fail
  go_region_held3 (fun W => W.cell? ⟨w.heap.size, 1, none⟩ = some (.string t) ∧ Below w.heap.size w W ∧ w.heap.size < W.heap.size) (first | exact keep_box hb2 (by assumption) | exact start_box _ _ _ _ _) (first | (go_at_call 128; refine (HC.out _).mono ?_; rintro e w2 ⟨rfl, hb2⟩))
  all_goals go_wp2
  all_goals go_ret
  all_goals refine ⟨ret_str ?_, And.left (And.right (by assumption))⟩
  all_goals exact bytes_join X t

set_option maxHeartbeats 2000000 in
set_option maxRecDepth 100000 in
theorem rsize_any (T : Tm) : ∀ l t ys, T = .mk l t ys → ∀ (Z : Nat → Prop) (w : World) (a : Option Addr) (c : Nat), t.size ≤ 140737488355328 → T.bytes.length ≤ 1099511627776 → SlL Z w (.slice a ys.length c) ys →
    Calls Tryz.prog 96 #[fv l t (.slice a ys.length c)] w fun e w' => e = .returned (.int .i64 (T.bytes.length : Nat)) ∧ Below w.heap.size w w' := by
  induction T using Tm.ind with
  | h l t xs ih =>
    rintro l' t' ys ⟨⟩ Z w a c hts hbs hsl
    cases l with
    | false =>
      rw [Tm.bytes_text]
      exact rsize_text t a _ c w hts
    | true =>
      rw [Tm.bytes_list] at hbs ⊢
      obtain ⟨M, hM⟩ : ∃ M, M = (Tm.bytess xs).length := ⟨_, rfl⟩
      have hlen : (40 :: (Tm.bytess xs ++ [41])).length = M + 2 := by rw [List.length_cons, List.length_append, List.length_singleton, hM]
      rw [hlen] at hbs ⊢
      obtain ⟨n, hn⟩ : ∃ n, n = xs.length := ⟨_, rfl⟩
      have hnm : n ≤ 9223372036854775807 := by
        obtain ⟨a', c', e, h1, h2⟩ := hsl.form
        unfold maxLen at h2
        omega
      rw [← hn]
      rw [← hn] at hsl
      have HN := Lib.hid hn
      have HS := Lib.hid hsl
      have IH := Lib.hid ih
      have HM := Lib.hid hM
      clear hn hsl ih hM hlen hts
      go_enter Tryz.func96, Tryz.ntmps96
      go_wp2_with fail
      go_loopw [3, 4] (fun m i wr => ∃ k d : Nat, k ≤ n ∧ i = .int .i64 k ∧ d = (Tm.bytess (xs.take k)).length + 2 ∧ m = .int .i64 d ∧ Below (w.heap.size + 1) (w.alloc (.cells #[.bool true, .string t, .slice a n c] 122)) wr) (fun _ i _ => n - (intOf i).toNat)
      case atStart => exact ⟨0, 2, Nat.zero_le _, rfl, rfl, rfl, Below.refl _ _⟩
      case round =>
        obtain ⟨k, d, hk, rfl, hd, rfl, hbel⟩ := hrel
        have hb0 : Below w.heap.size w wr := ((Below.refl _ _).alloc (Nat.le_refl _) _).trans (hbel.mono (Nat.le_succ _))
        have hcb : wr.cell? ⟨w.heap.size, 2, none⟩ = some (.slice a n c) := (hbel.cell (p := ⟨w.heap.size, 2, none⟩) (Nat.lt_succ_self _)).trans (by rw [World.cell?_alloc_at _ _ _ _ rfl]; rfl)
        have hdl : d ≤ 1099511627776 := by have h1 := Tm.bytess_take_le xs k; have h2 := HM.out; omega
        have HB := Lib.hid hbel
        have HB0 := Lib.hid hb0
        have HD := Lib.hid hd
        clear hbel hb0 hd
        by_cases hlt : k < n
        · obtain ⟨x, hx⟩ : ∃ x, xs[k]? = some x := ⟨xs[k]'(by rw [← HN.out]; exact hlt), by simp⟩
          have hbx := Tm.bytess_get xs k x hx
          obtain ⟨l1, t1, ys1⟩ := x
          obtain ⟨b, o, c', hv, h1, h2, h3, h4, h5⟩ := HS.out.pos (by rintro rfl; simp at hx)
          injection hv with ea en ec
          subst ea
          obtain ⟨a1, c1, q1, q2, q3, q4, q5⟩ := h5 k l1 t1 ys1 hx
          have d1 : wr.cell? ⟨b, o + k * 3, none⟩ = some (.bool l1) := (HB0.out.cell (p := ⟨b, o + k * 3, none⟩) h4).trans q1
          have d2 : wr.cell? ⟨b, o + k * 3 + 1, none⟩ = some (.string t1) := (HB0.out.cell (p := ⟨b, o + k * 3 + 1, none⟩) h4).trans q2
          have d3 : wr.cell? ⟨b, o + k * 3 + 2, none⟩ = some (.slice a1 ys1.length c1) := (HB0.out.cell (p := ⟨b, o + k * 3 + 2, none⟩) h4).trans q3
          obtain ⟨r, hr⟩ : ∃ r, r = (Tm.mk l1 t1 ys1).bytes.length := ⟨_, rfl⟩
          have hrl : d + r ≤ 1099511627776 := by have h2 := HM.out; have h3 := HD.out; omega
          have hc := IH.out _ (List.mem_of_getElem? hx) l1 t1 ys1 rfl Z wr a1 c1 q4 (by omega) (q5.keep HB0.out)
          rw [← hr] at hc
          obtain ⟨m1, hm1⟩ : ∃ m, m = ys1.length := ⟨_, rfl⟩
          rw [← hm1] at hc d3
          have HC := Lib.hid hc
          have HX := Lib.hid hx
          have HR := Lib.hid hr
          have h01 : (0 : Int) ≤ k := by omega
          have h02 : (k : Int) < n := by omega
          clear hc hx hr hm1 q1 q2 q3 q4 q5 h1 h2 h3 h4 h5 en ec hbx
          go_wp2_with (go_at_call 96; refine HC.out.mono ?_; rintro e w2 ⟨rfl, hb2⟩; have HB2 := Lib.hid hb2; clear hb2)
          refine ⟨⟨k + 1, d + r, hlt, by go_num, ?_, by go_num, HB.out.trans (HB2.out.mono (by have := HB.out.size; simp at this; omega))⟩, by simp [intOf]; omega⟩
          rw [take_snoc HX.out, Tm.bytess_app, List.length_append, HD.out, HR.out]
          simp [Tm.bytess]; omega
        · have hke : k = n := by omega
          go_wp2_with fail
          go_ret
          refine ⟨ret_int ?_, HB0.out⟩
          have := HD.out
          rw [List.take_of_length_le (by rw [← HN.out]; omega), ← HM.out] at this
          rw [this]

set_option maxHeartbeats 2000000 in
set_option maxRecDepth 100000 in
theorem rbytes_any (T : Tm) : ∀ l t ys, T = .mk l t ys → ∀ (Z : Nat → Prop) (w : World) (a : Option Addr) (c : Nat), t.size ≤ 140737488355328 → T.bytes.length ≤ 1099511627776 → SlL Z w (.slice a ys.length c) ys →
    Calls Tryz.prog 97 #[fv l t (.slice a ys.length c)] w fun e w' => e = .returned (.string (tx T.bytes)) ∧ Below w.heap.size w w' := by
  induction T using Tm.ind with
  | h l t xs ih =>
    rintro l' t' ys ⟨⟩ Z w a c hts hbs hsl
    cases l with
    | false =>
      rw [Tm.bytes_text]
      exact rbytes_text t a _ c w hts
    | true =>
      rw [Tm.bytes_list] at hbs ⊢
      have hlen : (40 :: (Tm.bytess xs ++ [41])).length = (Tm.bytess xs).length + 2 := by rw [List.length_cons, List.length_append, List.length_singleton]
      rw [hlen] at hbs
      obtain ⟨Y, hY⟩ : ∃ Y, Y = 40 :: (Tm.bytess xs ++ [41]) := ⟨_, rfl⟩
      rw [← hY]
      obtain ⟨n, hn⟩ : ∃ n, n = xs.length := ⟨_, rfl⟩
      have hnm : n ≤ 9223372036854775807 := by
        obtain ⟨a', c', e, h1, h2⟩ := hsl.form
        unfold maxLen at h2
        omega
      rw [← hn]
      rw [← hn] at hsl
      have HN := Lib.hid hn
      have HS := Lib.hid hsl
      have IH := Lib.hid ih
      have HY := Lib.hid hY
      have HL := Lib.hid hbs
      clear hn hsl ih hY hlen hts hbs
      go_enter Tryz.func97, Tryz.ntmps97
      go_wp2_with fail
      go_loopw [3, 4] (fun m i wr => ∃ (k : Nat) (X : List UInt8), k ≤ n ∧ i = .int .i64 k ∧ X = 40 :: Tm.bytess (xs.take k) ∧ m = .string (tx X) ∧ Below (w.heap.size + 1) (w.alloc (.cells #[.bool true, .string t, .slice a n c] 122)) wr) (fun _ i _ => n - (intOf i).toNat)
      case atStart => exact ⟨0, [40], Nat.zero_le _, rfl, rfl, rfl, Below.refl _ _⟩
      case round =>
        obtain ⟨k, X, hk, rfl, hX, rfl, hbel⟩ := hrel
        have hb0 : Below w.heap.size w wr := ((Below.refl _ _).alloc (Nat.le_refl _) _).trans (hbel.mono (Nat.le_succ _))
        have hcb : wr.cell? ⟨w.heap.size, 2, none⟩ = some (.slice a n c) := (hbel.cell (p := ⟨w.heap.size, 2, none⟩) (Nat.lt_succ_self _)).trans (by rw [World.cell?_alloc_at _ _ _ _ rfl]; rfl)
        have hXl : X.length ≤ 1099511627776 := by have h1 := Tm.bytess_take_le xs k; have h2 := HL.out; rw [hX, List.length_cons]; omega
        have HB := Lib.hid hbel
        have HB0 := Lib.hid hb0
        have HX0 := Lib.hid hX
        clear hbel hb0 hX
        by_cases hlt : k < n
        · obtain ⟨x, hx⟩ : ∃ x, xs[k]? = some x := ⟨xs[k]'(by rw [← HN.out]; exact hlt), by simp⟩
          have hbx := Tm.bytess_get xs k x hx
          obtain ⟨l1, t1, ys1⟩ := x
          obtain ⟨b, o, c', hv, h1, h2, h3, h4, h5⟩ := HS.out.pos (by rintro rfl; simp at hx)
          injection hv with ea en ec
          subst ea
          obtain ⟨a1, c1, q1, q2, q3, q4, q5⟩ := h5 k l1 t1 ys1 hx
          have d1 : wr.cell? ⟨b, o + k * 3, none⟩ = some (.bool l1) := (HB0.out.cell (p := ⟨b, o + k * 3, none⟩) h4).trans q1
          have d2 : wr.cell? ⟨b, o + k * 3 + 1, none⟩ = some (.string t1) := (HB0.out.cell (p := ⟨b, o + k * 3 + 1, none⟩) h4).trans q2
          have d3 : wr.cell? ⟨b, o + k * 3 + 2, none⟩ = some (.slice a1 ys1.length c1) := (HB0.out.cell (p := ⟨b, o + k * 3 + 2, none⟩) h4).trans q3
          obtain ⟨r, hr⟩ : ∃ r, r = (Tm.mk l1 t1 ys1).bytes := ⟨_, rfl⟩
          have hrl : X.length + r.length ≤ 9223372036854775807 := by have h2 := HL.out; have h3 := HX0.out; rw [h3, hr, List.length_cons]; omega
          have hc := IH.out _ (List.mem_of_getElem? hx) l1 t1 ys1 rfl Z wr a1 c1 q4 (by have h2 := HL.out; omega) (q5.keep HB0.out)
          rw [← hr] at hc
          obtain ⟨m1, hm1⟩ : ∃ m, m = ys1.length := ⟨_, rfl⟩
          rw [← hm1] at hc d3
          have HC := Lib.hid hc
          have HX := Lib.hid hx
          have HR := Lib.hid hr
          have h01 : (0 : Int) ≤ k := by omega
          have h02 : (k : Int) < n := by omega
          clear hc hx hr hm1 q1 q2 q3 q4 q5 h1 h2 h3 h4 h5 en ec hbx
          go_wp2_with (go_at_call 97; refine HC.out.mono ?_; rintro e w2 ⟨rfl, hb2⟩; have HB2 := Lib.hid hb2; clear hb2)
          refine ⟨⟨k + 1, X ++ r, hlt, by go_num, ?_, by rw [← tx_app], HB.out.trans (HB2.out.mono (by have := HB.out.size; simp at this; omega))⟩, by simp [intOf]; omega⟩
          rw [take_snoc HX.out, Tm.bytess_app, HX0.out, HR.out]
          simp [Tm.bytess]
        · have hke : k = n := by omega
          have hX1 : X.length + 1 ≤ 9223372036854775807 := by omega
          go_wp2_with fail
          go_ret
          refine ⟨ret_str ?_, HB0.out⟩
          have := HX0.out
          rw [List.take_of_length_le (by rw [← HN.out]; omega)] at this
          rw [show (⟨#[41]⟩ : ByteArray) = tx [41] from rfl, tx_app, HY.out, this]; rfl
end Go.Proofs.YtojnagonhihknaaGreatDoor
set_option linter.unusedVariables false
namespace Go.Proofs.YtojnagonhihknaaGreatDoor
open Go.ChangeShapes Go.WideShapes Go.ChangeAt Go.RowKit
open Go.Lib (decDigits itoa)

def fits (T : Tm) : Bool := decide (T.depth ≤ 8) && decide (T.bytes.length ≤ 65536)
def wrS (T : Tm) : List UInt8 := if T.ok && fits T then T.bytes else []
def wrN (T : Tm) : Int := if T.ok then (if fits T then 0 else 2) else 1

theorem box_step {w wz w2 : World} {o : Obj} (h1 : Below (w.heap.size + 1) (w.alloc o) wz) (h2 : Below wz.heap.size wz w2) : Below (w.heap.size + 1) (w.alloc o) w2 :=
  h1.trans (h2.mono (by have := h1.size; simp at this; omega))
set_option maxHeartbeats 2000000 in
set_option maxRecDepth 100000 in
theorem rwrite_any (l : Bool) (t : ByteArray) (ys : List Tm) (Z : Nat → Prop) (w : World) (a : Option Addr) (c : Nat) (hsl : SlL Z w (.slice a ys.length c) ys) (hts : t.size ≤ 140737488355328) (hT : (Tm.mk l t ys).parts ≤ 1000000000 ∧ (Tm.mk l t ys).texts ≤ 100000000000) :
    Calls Tryz.prog 65 #[fv l t (.slice a ys.length c)] w fun e w' => e = .returned (.tuple #[.string (tx (wrS (.mk l t ys))), .int .i64 (wrN (.mk l t ys))]) ∧ Below w.heap.size w w' := by
  obtain ⟨T, hT0⟩ : ∃ T, T = Tm.mk l t ys := ⟨_, rfl⟩
  rw [← hT0] at hT ⊢
  have hbl := Tm.bytes_le T
  have hbl2 : T.bytes.length ≤ 1099511627776 := by have := hT.1; have := hT.2; omega
  have hdl := Tm.depth_le_parts T
  have hpl : T.parts ≤ 1000000000 := by have := hT.1; omega
  obtain ⟨n, hn⟩ : ∃ n, n = ys.length := ⟨_, rfl⟩
  have c1 : ∀ wz, Below w.heap.size w wz → Calls Tryz.prog 94 #[fv l t (.slice a n c)] wz fun e w' => e = .returned (.bool T.ok) ∧ Below wz.heap.size wz w' := fun wz hz => by
    rw [hn]; exact rright_any T l t ys hT0 Z wz a c (hsl.keep hz)
  have c2 : ∀ wz, Below w.heap.size w wz → Calls Tryz.prog 95 #[fv l t (.slice a n c)] wz fun e w' => e = .returned (.int .i64 (T.depth : Nat)) ∧ Below wz.heap.size wz w' := fun wz hz => by
    rw [hn]; exact rdepth_any T l t ys hT0 Z wz a c hpl (hsl.keep hz)
  have c3 : ∀ wz, Below w.heap.size w wz → Calls Tryz.prog 96 #[fv l t (.slice a n c)] wz fun e w' => e = .returned (.int .i64 (T.bytes.length : Nat)) ∧ Below wz.heap.size wz w' := fun wz hz => by
    rw [hn]; exact rsize_any T l t ys hT0 Z wz a c hts hbl2 (hsl.keep hz)
  have c4 : ∀ wz, Below w.heap.size w wz → Calls Tryz.prog 97 #[fv l t (.slice a n c)] wz fun e w' => e = .returned (.string (tx T.bytes)) ∧ Below wz.heap.size wz w' := fun wz hz => by
    rw [hn]; exact rbytes_any T l t ys hT0 Z wz a c hts hbl2 (hsl.keep hz)
  rw [← hn]
  obtain ⟨D, hD⟩ : ∃ D, D = T.depth := ⟨_, rfl⟩
  obtain ⟨S, hS⟩ : ∃ S, S = T.bytes.length := ⟨_, rfl⟩
  have hDm : D ≤ 1000000000 := by omega
  have hSm : S ≤ 1099511627776 := by omega
  have hf : fits T = (decide (D ≤ 8) && decide (S ≤ 65536)) := by unfold fits; rw [hD, hS]
  rw [← hD] at c2
  rw [← hS] at c3
  have hs0 : wrS T = if T.ok && (decide (D ≤ 8) && decide (S ≤ 65536)) then T.bytes else [] := by unfold wrS; rw [hf]
  have hn0 : wrN T = if T.ok then (if (decide (D ≤ 8) && decide (S ≤ 65536)) then 0 else 2) else 1 := by unfold wrN; rw [hf]
  rw [hs0, hn0]
  obtain ⟨X, hX⟩ : ∃ X, X = T.bytes := ⟨_, rfl⟩
  rw [← hX] at c4 ⊢
  have C1 := Lib.hid c1
  have C2 := Lib.hid c2
  have C3 := Lib.hid c3
  have C4 := Lib.hid c4
  clear c1 c2 c3 c4 hs0 hn0 hf hX hD hS hdl hbl hbl2 hpl hsl hT hT0 hn
  cases hok : T.ok with
  | false =>
    rw [hok] at C1
    clear hok
    go_enter Tryz.func65, Tryz.ntmps65
    go_wp2_with fail
    refine (C1.out _ ((Below.refl _ _).alloc (Nat.le_refl _) _)).mono ?_
    rintro e w1 ⟨rfl, hb1⟩
    have HB1 := Lib.hid (((Below.refl w.heap.size w).alloc (Nat.le_refl _) _).trans (hb1.mono (by simp)))
    clear hb1
    go_wp2_with fail
    go_ret2
    exact ⟨by simp, HB1.out⟩
  | true =>
    rw [hok] at C1
    clear hok
    by_cases hD8 : D ≤ 8
    · by_cases hS8 : S ≤ 65536
      · go_enter Tryz.func65, Tryz.ntmps65
        go_wp2_with fail
        refine (C1.out _ ((Below.refl _ _).alloc (Nat.le_refl _) _)).mono ?_
        rintro e w1 ⟨rfl, hb1⟩
        have HB1 := Lib.hid (box_first hb1)
        obtain ⟨k1, k2, k3, k4⟩ := box3 HB1.out
        have K4 := Lib.hid k4
        clear hb1 k4
        go_wp2_with fail
        refine (C2.out _ K4.out).mono ?_
        rintro e w2 ⟨rfl, hb1⟩
        have HB2 := Lib.hid (box_step HB1.out hb1)
        clear k1 k2 k3 K4 hb1
        obtain ⟨k1, k2, k3, k4⟩ := box3 HB2.out
        have K4 := Lib.hid k4
        clear k4
        go_wp2_with fail
        refine (C3.out _ K4.out).mono ?_
        rintro e w3 ⟨rfl, hb1⟩
        have HB3 := Lib.hid (box_step HB2.out hb1)
        clear k1 k2 k3 K4 hb1
        obtain ⟨k1, k2, k3, k4⟩ := box3 HB3.out
        have K4 := Lib.hid k4
        clear k4
        go_wp2_with fail
        refine (C4.out _ K4.out).mono ?_
        rintro e w4 ⟨rfl, hb1⟩
        have HB4 := Lib.hid (box_step HB3.out hb1)
        clear k1 k2 k3 K4 hb1
        go_wp2_with fail
        all_goals go_ret2
        all_goals refine ⟨?_, (box3 HB4.out).2.2.2⟩
        all_goals simp
      · go_enter Tryz.func65, Tryz.ntmps65
        go_wp2_with fail
        refine (C1.out _ ((Below.refl _ _).alloc (Nat.le_refl _) _)).mono ?_
        rintro e w1 ⟨rfl, hb1⟩
        have HB1 := Lib.hid (box_first hb1)
        obtain ⟨k1, k2, k3, k4⟩ := box3 HB1.out
        have K4 := Lib.hid k4
        clear hb1 k4
        go_wp2_with fail
        refine (C2.out _ K4.out).mono ?_
        rintro e w2 ⟨rfl, hb1⟩
        have HB2 := Lib.hid (box_step HB1.out hb1)
        clear k1 k2 k3 K4 hb1
        obtain ⟨k1, k2, k3, k4⟩ := box3 HB2.out
        have K4 := Lib.hid k4
        clear k4
        go_wp2_with fail
        refine (C3.out _ K4.out).mono ?_
        rintro e w3 ⟨rfl, hb1⟩
        have HB3 := Lib.hid (box_step HB2.out hb1)
        clear k1 k2 k3 K4 hb1
        go_wp2_with fail
        all_goals go_ret2
        all_goals refine ⟨?_, (box3 HB3.out).2.2.2⟩
        all_goals simp
    · go_enter Tryz.func65, Tryz.ntmps65
      go_wp2_with fail
      refine (C1.out _ ((Below.refl _ _).alloc (Nat.le_refl _) _)).mono ?_
      rintro e w1 ⟨rfl, hb1⟩
      have HB1 := Lib.hid (box_first hb1)
      obtain ⟨k1, k2, k3, k4⟩ := box3 HB1.out
      have K4 := Lib.hid k4
      clear hb1 k4
      go_wp2_with fail
      refine (C2.out _ K4.out).mono ?_
      rintro e w2 ⟨rfl, hb1⟩
      have HB2 := Lib.hid (box_step HB1.out hb1)
      clear k1 k2 k3 K4 hb1
      go_wp2_with fail
      all_goals go_ret2
      all_goals refine ⟨?_, (box3 HB2.out).2.2.2⟩
      all_goals simp
end Go.Proofs.YtojnagonhihknaaGreatDoor
