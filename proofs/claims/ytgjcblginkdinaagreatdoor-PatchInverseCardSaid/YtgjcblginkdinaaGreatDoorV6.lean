/- The contract of the document's Digits. The contracts of the document's size and bytes. -/
import Derived.Laws.IdiomStrings
import Derived.Lib.ItoaMem
import Derived.Deep.RegionHeld3
import Derived.Test.YtgjcblginkdinaaGreatDoorV3
import Derived.Test.YtgjcblginkdinaaGreatDoorV5
set_option linter.unusedVariables false
namespace Go.Proofs.YtgjcblginkdinaaGreatDoor
open Go.ChangeShapes Go.WideShapes Go.ChangeAt Go.RowKit
open Go.Lib (decDigits itoa)

abbrev tx (l : List UInt8) : ByteArray := ⟨l.toArray⟩

theorem decDigits_len (u : Nat) : (decDigits u).length ≤ u / 2 + 1 := by
  induction u using Nat.strongRecOn with
  | _ u ih =>
    rw [decDigits]
    split
    · simp
    · have := ih (u / 10) (by omega)
      rw [List.length_append, List.length_singleton]; omega
theorem tx_app (l m : List UInt8) : tx l ++ tx m = tx (l ++ m) := by
  apply ba_ext
  simp [ByteArray.data_append]

theorem one_digit (w : World) (u : Nat) (t1 t2 t3 : TypeId) (h1 : Tryz.prog.underlying t1 = some (.slice t2)) (h2 : Tryz.prog.underlying t2 = some (.int .u8)) (h3 : Tryz.prog.underlying t3 = some .string) :
    (convert t1 t3 (.slice (some ⟨w.heap.size, 0, none⟩) 1 1)).run Tryz.prog (w.alloc (.cells #[.int .u8 (48 + (u : Int) % 10)] t2)) = .ok (.string (tx [UInt8.ofNat (48 + u % 10)])) (w.alloc (.cells #[.int .u8 (48 + (u : Int) % 10)] t2)) := by
  refine run_convert_bytes_back _ t1 t3 t2 ⟨w.heap.size, 0, none⟩ 1 [UInt8.ofNat (48 + u % 10)] h1 h2 h3 (fun j hj => ?_)
  have : j = 0 := by simp at hj; omega
  subst this
  have hx : (UInt8.ofNat (48 + u % 10)).toNat = 48 + u % 10 := dig_toNat (by omega)
  rw [show (⟨w.heap.size, 0, none⟩ : Addr).add 0 = ⟨w.heap.size, 0, none⟩ from rfl, World.cell?_alloc_at _ _ _ _ rfl]
  simp
  omega

set_option maxHeartbeats 1000000 in
set_option maxRecDepth 100000 in
theorem digits_nat : ∀ (u : Nat) (w : World), u ≤ 9223372036854775807 →
    Calls Tryz.prog 110 #[.int .i64 (u : Nat)] w fun e w' => e = .returned (.string (tx (decDigits u))) ∧ Below w.heap.size w w' := by
  intro u
  induction u using Nat.strongRecOn with
  | _ u ih =>
    intro w hu
    have hx := fun w => one_digit w u 101 5 9 Tryz.underlying101 Tryz.underlying5 Tryz.underlying9
    have h0 : (0 : Int) ≤ u := by omega
    have hd : decDigits u = if u < 10 then [UInt8.ofNat (48 + u % 10)] else decDigits (u / 10) ++ [UInt8.ofNat (48 + u % 10)] := by
      rw [decDigits]
      split
      · rw [Nat.mod_eq_of_lt (by assumption)]
      · rfl
    obtain ⟨X, hX⟩ : ∃ X, X = [UInt8.ofNat (48 + u % 10)] := ⟨_, rfl⟩
    rw [← hX] at hd
    have hX1 : X.length = 1 := by rw [hX]; rfl
    have hx' : ∀ w : World, (convert 101 9 (.slice (some ⟨w.heap.size, 0, none⟩) 1 1)).run Tryz.prog (w.alloc (.cells #[.int .u8 (48 + (u : Int) % 10)] 5)) = .ok (.string (tx X)) (w.alloc (.cells #[.int .u8 (48 + (u : Int) % 10)] 5)) := by
      rw [hX]; exact hx
    clear hx hX
    by_cases hlt : u < 10
    · rw [if_pos hlt] at hd
      rw [hd]
      clear ih hd
      have hlt' : (u : Int) < 10 := by omega
      go_enter Tryz.func110, Tryz.ntmps110
      go_wp2_with fail
      go_ret
      exact ⟨rfl, (Below.refl _ _).alloc (Nat.le_refl _) _⟩
    · rw [if_neg hlt] at hd
      have hc := fun w => ih (u / 10) (by omega) w (by omega)
      have HC := Lib.hid hc
      have HD := Lib.hid hd
      have hsz : (decDigits (u / 10)).length + X.length ≤ 9223372036854775807 := by have := decDigits_len (u / 10); omega
      clear hX1
      have hge : ¬ (u : Int) < 10 := by omega
      clear ih hd hc
      go_enter Tryz.func110, Tryz.ntmps110
      go_wp2_with (go_at_call 110; refine (HC.out _).mono ?_; rintro e w2 ⟨rfl, hb2⟩)
      go_ret
      refine ⟨ret_str (by rw [tx_app, HD.out]), ?_⟩
      exact ((Below.refl _ _).alloc (Nat.le_refl _) _).trans (hb2.mono (by simp))

theorem itoa_min : itoa (-9223372036854775808) = [45, 57, 50, 50, 51, 51, 55, 50, 48, 51, 54, 56, 53, 52, 55, 55, 53, 56, 48, 56] := by
  simp [itoa, decDigits]
theorem itoa_nat (u : Nat) : itoa (u : Nat) = decDigits u := Lib.itoa_nonneg u

set_option maxHeartbeats 1000000 in
set_option maxRecDepth 100000 in
theorem digits_any (n : Int) (w : World) (h0 : -9223372036854775808 ≤ n) (h1 : n ≤ 9223372036854775807) :
    Calls Tryz.prog 110 #[.int .i64 n] w fun e w' => e = .returned (.string (tx (itoa n))) ∧ Below w.heap.size w w' := by
  by_cases hneg : n < 0
  · by_cases hm : n = -9223372036854775808
    · subst hm
      rw [itoa_min]
      go_enter Tryz.func110, Tryz.ntmps110
      go_wp2_with fail
      go_ret
      exact ⟨rfl, Below.refl _ _⟩
    · obtain ⟨u, hu⟩ : ∃ u : Nat, n = -(u : Int) := ⟨n.natAbs, by omega⟩
      subst hu
      have hi : itoa (-(u : Int)) = 45 :: decDigits u := Lib.itoa_neg u (by omega)
      have hc := digits_nat u w (by omega)
      have HC := Lib.hid hc
      have HI := Lib.hid hi
      have hl := decDigits_len u
      have hq : (-(u : Int) == -9223372036854775808) = false := by rw [beq_eq_false_iff_ne]; exact hm
      have hsz : 1 + (decDigits u).length ≤ 9223372036854775807 := by omega
      have e1 : wrap64 (-(-(u : Int))) = (u : Int) := by unfold wrap64; omega
      have e2 : wrap64 (u : Int) = (u : Int) := by unfold wrap64; omega
      clear hc hi hl hm
      go_enter Tryz.func110, Tryz.ntmps110
      go_wp2_with (go_at_call 110; ((with_reducible refine HC.out.mono ?_); rintro e w2 ⟨rfl, hb2⟩))
      go_ret
      refine ⟨ret_str ?_, hb2⟩
      rw [show (⟨#[45]⟩ : ByteArray) = tx [45] from rfl, tx_app, HI.out]; rfl
  · obtain ⟨u, hu⟩ : ∃ u : Nat, n = (u : Int) := ⟨n.toNat, by omega⟩
    subst hu
    rw [itoa_nat]
    exact digits_nat u w (by omega)
end Go.Proofs.YtgjcblginkdinaaGreatDoor
set_option linter.unusedVariables false
namespace Go.Proofs.YtgjcblginkdinaaGreatDoor
open Go.ChangeShapes Go.WideShapes Go.ChangeAt Go.RowKit
open Go.Lib (decDigits itoa)

theorem keep_box {w W W2 : World} {t : ByteArray} (hb : Below W.heap.size W W2) (h : W.cell? ⟨w.heap.size, 1, none⟩ = some (.string t) ∧ Below w.heap.size w W ∧ w.heap.size < W.heap.size) :
    W2.cell? ⟨w.heap.size, 1, none⟩ = some (.string t) ∧ Below w.heap.size w W2 ∧ w.heap.size < W2.heap.size :=
  ⟨(hb.cell (p := ⟨w.heap.size, 1, none⟩) h.2.2).trans h.1, h.2.1.trans (hb.mono h.2.1.size), Nat.lt_of_lt_of_le h.2.2 hb.size⟩

theorem start_box (w : World) (x y : Value) (t : ByteArray) (ty : TypeId) :
    (w.alloc (.cells #[x, .string t, y] ty)).drew.cell? ⟨w.heap.size, 1, none⟩ = some (.string t) ∧ Below w.heap.size w (w.alloc (.cells #[x, .string t, y] ty)).drew ∧ w.heap.size < (w.alloc (.cells #[x, .string t, y] ty)).drew.heap.size :=
  ⟨(World.cell?_alloc_at _ _ _ _ rfl).trans rfl, ((Below.refl _ _).alloc (Nat.le_refl _) _).drew, by show _ < (w.heap.push _).size; simp⟩

theorem bytes_join (X : List UInt8) (t : ByteArray) : tx X ++ ⟨#[58]⟩ ++ t = tx (X ++ 58 :: t.data.toList) := by
  apply ba_ext
  simp [ByteArray.data_append]

theorem Tm.bytes_text (t : ByteArray) (xs : List Tm) : (Tm.mk false t xs).bytes = decDigits t.size ++ 58 :: t.data.toList := by rw [Tm.bytes]; rfl
theorem Tm.bytes_list (t : ByteArray) (xs : List Tm) : (Tm.mk true t xs).bytes = 40 :: (Tm.bytess xs ++ [41]) := by rw [Tm.bytes]; rfl

set_option maxHeartbeats 2000000 in
set_option maxRecDepth 100000 in
theorem rsize_text (t : ByteArray) (a : Option Addr) (n c : Nat) (w : World) (ht : t.size ≤ 140737488355328) :
    Calls Tryz.prog 70 #[fv false t (.slice a n c)] w fun e w' => e = .returned (.int .i64 ((decDigits t.size ++ 58 :: t.data.toList).length : Nat)) ∧ Below w.heap.size w w' := by
  have hc := fun wz => digits_nat t.size wz (by omega)
  have hl : (decDigits t.size ++ 58 :: t.data.toList).length = (decDigits t.size).length + 1 + t.size := by rw [List.length_append, List.length_cons, ba_len]; omega
  have hd := decDigits_len t.size
  rw [hl]
  obtain ⟨X, hX⟩ : ∃ X, X = decDigits t.size := ⟨_, rfl⟩
  rw [← hX] at hd ⊢
  have hc' : ∀ wz : World, Calls Tryz.prog 110 #[.int .i64 (t.size : Nat)] wz fun e w' => e = .returned (.string (tx X)) ∧ Below wz.heap.size wz w' := by rw [hX]; exact hc
  have HC := Lib.hid hc'
  have hxl : X.length ≤ 70368744177666 := by omega
  clear hc hc' hl hX hd
  go_enter Tryz.func70, Tryz.ntmps70
  go_wp2_with fail
  go_region_held3 (fun W => W.cell? ⟨w.heap.size, 1, none⟩ = some (.string t) ∧ Below w.heap.size w W ∧ w.heap.size < W.heap.size) (first | exact keep_box hb2 (by assumption) | exact start_box _ _ _ _ _) (first | (go_at_call 110; refine (HC.out _).mono ?_; rintro e w2 ⟨rfl, hb2⟩))
  all_goals (have e1 : IntKind.i64.wrap ((X.length : Int) + 1) = (X.length : Int) + 1 := IntWalk.i64_in _ (by omega))
  all_goals (have e2 : IntKind.i64.wrap ((X.length : Int) + 1 + (t.size : Int)) = (X.length : Int) + 1 + (t.size : Int) := IntWalk.i64_in _ (by omega))
  all_goals rw [e1, e2]
  all_goals clear e1 e2
  all_goals go_wp2
  all_goals go_ret
  all_goals exact ⟨ret_int (by omega), And.left (And.right (by assumption))⟩

theorem tx_toList (l : List UInt8) : (tx l).data.toList = l := rfl
theorem tx_data (t : ByteArray) : tx t.data.toList = t := by cases t; simp

set_option maxHeartbeats 2000000 in
set_option maxRecDepth 100000 in
theorem rbytes_text (t : ByteArray) (a : Option Addr) (n c : Nat) (w : World) (ht : t.size ≤ 140737488355328) :
    Calls Tryz.prog 71 #[fv false t (.slice a n c)] w fun e w' => e = .returned (.string (tx (decDigits t.size ++ 58 :: t.data.toList))) ∧ Below w.heap.size w w' := by
  have hc := fun wz => digits_nat t.size wz (by omega)
  have hd := decDigits_len t.size
  obtain ⟨X, hX⟩ : ∃ X, X = decDigits t.size := ⟨_, rfl⟩
  rw [← hX] at hd ⊢
  have hc' : ∀ wz : World, Calls Tryz.prog 110 #[.int .i64 (t.size : Nat)] wz fun e w' => e = .returned (.string (tx X)) ∧ Below wz.heap.size wz w' := by rw [hX]; exact hc
  have HC := Lib.hid hc'
  have hxl : X.length + 1 ≤ 9223372036854775807 := by omega
  have hxl2 : X.length + 1 + t.size ≤ 9223372036854775807 := by omega
  have f1 : (9223372036854775807 ≤ X.length) = False := eq_false (by omega)
  have f2 : (9223372036854775807 < X.length + 1) = False := eq_false (by omega)
  have f3 : (9223372036854775807 < X.length + 1 + t.size) = False := eq_false (by omega)
  clear hc hc' hX hd hxl hxl2
  go_enter Tryz.func71, Tryz.ntmps71
  go_wp2_with fail
  go_region_held3 (fun W => W.cell? ⟨w.heap.size, 1, none⟩ = some (.string t) ∧ Below w.heap.size w W ∧ w.heap.size < W.heap.size) (first | exact keep_box hb2 (by assumption) | exact start_box _ _ _ _ _) (first | (go_at_call 110; refine (HC.out _).mono ?_; rintro e w2 ⟨rfl, hb2⟩))
  all_goals go_wp2
  all_goals go_ret
  all_goals refine ⟨ret_str ?_, And.left (And.right (by assumption))⟩
  all_goals exact bytes_join X t

theorem Tm.bytess_take_le (xs : List Tm) (k : Nat) : (Tm.bytess (xs.take k)).length ≤ (Tm.bytess xs).length := by
  have := congrArg (fun l => (Tm.bytess l).length) (List.take_append_drop k xs)
  simp only [Tm.bytess_app, List.length_append] at this
  omega
theorem Tm.bytess_get (xs : List Tm) (k : Nat) (x : Tm) (h : xs[k]? = some x) : (Tm.bytess (xs.take k)).length + x.bytes.length ≤ (Tm.bytess xs).length := by
  have h1 := Tm.bytess_take_le xs (k + 1)
  rw [take_snoc h, Tm.bytess_app, List.length_append] at h1
  simpa [Tm.bytess] using h1

set_option maxHeartbeats 2000000 in
set_option maxRecDepth 100000 in
theorem rsize_any (T : Tm) : ∀ l t ys, T = .mk l t ys → ∀ (Z : Nat → Prop) (w : World) (a : Option Addr) (c : Nat), t.size ≤ 140737488355328 → T.bytes.length ≤ 1099511627776 → SlL Z w (.slice a ys.length c) ys →
    Calls Tryz.prog 70 #[fv l t (.slice a ys.length c)] w fun e w' => e = .returned (.int .i64 (T.bytes.length : Nat)) ∧ Below w.heap.size w w' := by
  induction T using Tm.ind with
  | h l t xs ih =>
    rintro l' t' ys ⟨⟩ Z w a c hts hbs hsl
    cases l with
    | false =>
      rw [Tm.bytes_text]
      exact rsize_text t a _ c w hts
    | true =>
      rw [Tm.bytes_list] at hbs ⊢
      obtain ⟨M, hM⟩ : ∃ M, M = (Tm.bytess xs).length := ⟨_, rfl⟩
      have hlen : (40 :: (Tm.bytess xs ++ [41])).length = M + 2 := by rw [List.length_cons, List.length_append, List.length_singleton, hM]
      rw [hlen] at hbs ⊢
      obtain ⟨n, hn⟩ : ∃ n, n = xs.length := ⟨_, rfl⟩
      have hnm : n ≤ 9223372036854775807 := by
        obtain ⟨a', c', e, h1, h2⟩ := hsl.form
        unfold maxLen at h2
        omega
      rw [← hn]
      rw [← hn] at hsl
      have HN := Lib.hid hn
      have HS := Lib.hid hsl
      have IH := Lib.hid ih
      have HM := Lib.hid hM
      clear hn hsl ih hM hlen hts
      go_enter Tryz.func70, Tryz.ntmps70
      go_wp2_with fail
      go_loopw [3, 4] (fun m i wr => ∃ k d : Nat, k ≤ n ∧ i = .int .i64 k ∧ d = (Tm.bytess (xs.take k)).length + 2 ∧ m = .int .i64 d ∧ Below (w.heap.size + 1) (w.alloc (.cells #[.bool true, .string t, .slice a n c] 61)) wr) (fun _ i _ => n - (intOf i).toNat)
      case atStart => exact ⟨0, 2, Nat.zero_le _, rfl, rfl, rfl, Below.refl _ _⟩
      case round =>
        obtain ⟨k, d, hk, rfl, hd, rfl, hbel⟩ := hrel
        have hb0 : Below w.heap.size w wr := ((Below.refl _ _).alloc (Nat.le_refl _) _).trans (hbel.mono (Nat.le_succ _))
        have hcb : wr.cell? ⟨w.heap.size, 2, none⟩ = some (.slice a n c) := (hbel.cell (p := ⟨w.heap.size, 2, none⟩) (Nat.lt_succ_self _)).trans (by rw [World.cell?_alloc_at _ _ _ _ rfl]; rfl)
        have hdl : d ≤ 1099511627776 := by have h1 := Tm.bytess_take_le xs k; have h2 := HM.out; omega
        have HB := Lib.hid hbel
        have HB0 := Lib.hid hb0
        have HD := Lib.hid hd
        clear hbel hb0 hd
        by_cases hlt : k < n
        · obtain ⟨x, hx⟩ : ∃ x, xs[k]? = some x := ⟨xs[k]'(by rw [← HN.out]; exact hlt), by simp⟩
          have hbx := Tm.bytess_get xs k x hx
          obtain ⟨l1, t1, ys1⟩ := x
          obtain ⟨b, o, c', hv, h1, h2, h3, h4, h5⟩ := HS.out.pos (by rintro rfl; simp at hx)
          injection hv with ea en ec
          subst ea
          obtain ⟨a1, c1, q1, q2, q3, q4, q5⟩ := h5 k l1 t1 ys1 hx
          have d1 : wr.cell? ⟨b, o + k * 3, none⟩ = some (.bool l1) := (HB0.out.cell (p := ⟨b, o + k * 3, none⟩) h4).trans q1
          have d2 : wr.cell? ⟨b, o + k * 3 + 1, none⟩ = some (.string t1) := (HB0.out.cell (p := ⟨b, o + k * 3 + 1, none⟩) h4).trans q2
          have d3 : wr.cell? ⟨b, o + k * 3 + 2, none⟩ = some (.slice a1 ys1.length c1) := (HB0.out.cell (p := ⟨b, o + k * 3 + 2, none⟩) h4).trans q3
          obtain ⟨r, hr⟩ : ∃ r, r = (Tm.mk l1 t1 ys1).bytes.length := ⟨_, rfl⟩
          have hrl : d + r ≤ 1099511627776 := by have h2 := HM.out; have h3 := HD.out; omega
          have hc := IH.out _ (List.mem_of_getElem? hx) l1 t1 ys1 rfl Z wr a1 c1 q4 (by omega) (q5.keep HB0.out)
          rw [← hr] at hc
          obtain ⟨m1, hm1⟩ : ∃ m, m = ys1.length := ⟨_, rfl⟩
          rw [← hm1] at hc d3
          have HC := Lib.hid hc
          have HX := Lib.hid hx
          have HR := Lib.hid hr
          have h01 : (0 : Int) ≤ k := by omega
          have h02 : (k : Int) < n := by omega
          clear hc hx hr hm1 q1 q2 q3 q4 q5 h1 h2 h3 h4 h5 en ec hbx
          go_wp2_with (go_at_call 70; refine HC.out.mono ?_; rintro e w2 ⟨rfl, hb2⟩; have HB2 := Lib.hid hb2; clear hb2)
          refine ⟨⟨k + 1, d + r, hlt, by go_num, ?_, by go_num, HB.out.trans (HB2.out.mono (by have := HB.out.size; simp at this; omega))⟩, by simp [intOf]; omega⟩
          rw [take_snoc HX.out, Tm.bytess_app, List.length_append, HD.out, HR.out]
          simp [Tm.bytess]; omega
        · have hke : k = n := by omega
          go_wp2_with fail
          go_ret
          refine ⟨ret_int ?_, HB0.out⟩
          have := HD.out
          rw [List.take_of_length_le (by rw [← HN.out]; omega), ← HM.out] at this
          rw [this]

set_option maxHeartbeats 2000000 in
set_option maxRecDepth 100000 in
theorem rbytes_any (T : Tm) : ∀ l t ys, T = .mk l t ys → ∀ (Z : Nat → Prop) (w : World) (a : Option Addr) (c : Nat), t.size ≤ 140737488355328 → T.bytes.length ≤ 1099511627776 → SlL Z w (.slice a ys.length c) ys →
    Calls Tryz.prog 71 #[fv l t (.slice a ys.length c)] w fun e w' => e = .returned (.string (tx T.bytes)) ∧ Below w.heap.size w w' := by
  induction T using Tm.ind with
  | h l t xs ih =>
    rintro l' t' ys ⟨⟩ Z w a c hts hbs hsl
    cases l with
    | false =>
      rw [Tm.bytes_text]
      exact rbytes_text t a _ c w hts
    | true =>
      rw [Tm.bytes_list] at hbs ⊢
      have hlen : (40 :: (Tm.bytess xs ++ [41])).length = (Tm.bytess xs).length + 2 := by rw [List.length_cons, List.length_append, List.length_singleton]
      rw [hlen] at hbs
      obtain ⟨Y, hY⟩ : ∃ Y, Y = 40 :: (Tm.bytess xs ++ [41]) := ⟨_, rfl⟩
      rw [← hY]
      obtain ⟨n, hn⟩ : ∃ n, n = xs.length := ⟨_, rfl⟩
      have hnm : n ≤ 9223372036854775807 := by
        obtain ⟨a', c', e, h1, h2⟩ := hsl.form
        unfold maxLen at h2
        omega
      rw [← hn]
      rw [← hn] at hsl
      have HN := Lib.hid hn
      have HS := Lib.hid hsl
      have IH := Lib.hid ih
      have HY := Lib.hid hY
      have HL := Lib.hid hbs
      clear hn hsl ih hY hlen hts hbs
      go_enter Tryz.func71, Tryz.ntmps71
      go_wp2_with fail
      go_loopw [3, 4] (fun m i wr => ∃ (k : Nat) (X : List UInt8), k ≤ n ∧ i = .int .i64 k ∧ X = 40 :: Tm.bytess (xs.take k) ∧ m = .string (tx X) ∧ Below (w.heap.size + 1) (w.alloc (.cells #[.bool true, .string t, .slice a n c] 61)) wr) (fun _ i _ => n - (intOf i).toNat)
      case atStart => exact ⟨0, [40], Nat.zero_le _, rfl, rfl, rfl, Below.refl _ _⟩
      case round =>
        obtain ⟨k, X, hk, rfl, hX, rfl, hbel⟩ := hrel
        have hb0 : Below w.heap.size w wr := ((Below.refl _ _).alloc (Nat.le_refl _) _).trans (hbel.mono (Nat.le_succ _))
        have hcb : wr.cell? ⟨w.heap.size, 2, none⟩ = some (.slice a n c) := (hbel.cell (p := ⟨w.heap.size, 2, none⟩) (Nat.lt_succ_self _)).trans (by rw [World.cell?_alloc_at _ _ _ _ rfl]; rfl)
        have hXl : X.length ≤ 1099511627776 := by have h1 := Tm.bytess_take_le xs k; have h2 := HL.out; rw [hX, List.length_cons]; omega
        have HB := Lib.hid hbel
        have HB0 := Lib.hid hb0
        have HX0 := Lib.hid hX
        clear hbel hb0 hX
        by_cases hlt : k < n
        · obtain ⟨x, hx⟩ : ∃ x, xs[k]? = some x := ⟨xs[k]'(by rw [← HN.out]; exact hlt), by simp⟩
          have hbx := Tm.bytess_get xs k x hx
          obtain ⟨l1, t1, ys1⟩ := x
          obtain ⟨b, o, c', hv, h1, h2, h3, h4, h5⟩ := HS.out.pos (by rintro rfl; simp at hx)
          injection hv with ea en ec
          subst ea
          obtain ⟨a1, c1, q1, q2, q3, q4, q5⟩ := h5 k l1 t1 ys1 hx
          have d1 : wr.cell? ⟨b, o + k * 3, none⟩ = some (.bool l1) := (HB0.out.cell (p := ⟨b, o + k * 3, none⟩) h4).trans q1
          have d2 : wr.cell? ⟨b, o + k * 3 + 1, none⟩ = some (.string t1) := (HB0.out.cell (p := ⟨b, o + k * 3 + 1, none⟩) h4).trans q2
          have d3 : wr.cell? ⟨b, o + k * 3 + 2, none⟩ = some (.slice a1 ys1.length c1) := (HB0.out.cell (p := ⟨b, o + k * 3 + 2, none⟩) h4).trans q3
          obtain ⟨r, hr⟩ : ∃ r, r = (Tm.mk l1 t1 ys1).bytes := ⟨_, rfl⟩
          have hrl : X.length + r.length ≤ 9223372036854775807 := by have h2 := HL.out; have h3 := HX0.out; rw [h3, hr, List.length_cons]; omega
          have hc := IH.out _ (List.mem_of_getElem? hx) l1 t1 ys1 rfl Z wr a1 c1 q4 (by have h2 := HL.out; omega) (q5.keep HB0.out)
          rw [← hr] at hc
          obtain ⟨m1, hm1⟩ : ∃ m, m = ys1.length := ⟨_, rfl⟩
          rw [← hm1] at hc d3
          have HC := Lib.hid hc
          have HX := Lib.hid hx
          have HR := Lib.hid hr
          have h01 : (0 : Int) ≤ k := by omega
          have h02 : (k : Int) < n := by omega
          clear hc hx hr hm1 q1 q2 q3 q4 q5 h1 h2 h3 h4 h5 en ec hbx
          go_wp2_with (go_at_call 71; refine HC.out.mono ?_; rintro e w2 ⟨rfl, hb2⟩; have HB2 := Lib.hid hb2; clear hb2)
          refine ⟨⟨k + 1, X ++ r, hlt, by go_num, ?_, by rw [← tx_app], HB.out.trans (HB2.out.mono (by have := HB.out.size; simp at this; omega))⟩, by simp [intOf]; omega⟩
          rw [take_snoc HX.out, Tm.bytess_app, HX0.out, HR.out]
          simp [Tm.bytess]
        · have hke : k = n := by omega
          have hX1 : X.length + 1 ≤ 9223372036854775807 := by omega
          go_wp2_with fail
          go_ret
          refine ⟨ret_str ?_, HB0.out⟩
          have := HX0.out
          rw [List.take_of_length_le (by rw [← HN.out]; omega)] at this
          rw [show (⟨#[41]⟩ : ByteArray) = tx [41] from rfl, tx_app, HY.out, this]; rfl
end Go.Proofs.YtgjcblginkdinaaGreatDoor
