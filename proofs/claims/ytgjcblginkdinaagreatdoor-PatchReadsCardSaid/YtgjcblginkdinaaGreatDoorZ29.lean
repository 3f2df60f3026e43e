/- The contract of the document's Number, of a text. -/
import Derived.StillTailTactics
import Derived.Deep.Cut
import Derived.Deep.CutRange
import Derived.Deep.DeepCutAuto
import Derived.Test.YtgjcblginkdinaaGreatDoorZ11
import Derived.Test.YtgjcblginkdinaaGreatDoorZ13
import Derived.Test.YtgjcblginkdinaaGreatDoorZ15
import Derived.Test.YtgjcblginkdinaaGreatDoorZ9
set_option linter.unusedVariables false
namespace Go.Proofs.YtgjcblginkdinaaGreatDoor
open Go.ChangeShapes Go.WideShapes Go.ChangeAt Go.RowKit
open Go.Lib (decDigits itoa)

theorem nget {s : ByteArray} {k : Nat} (h : k < s.size) : s.data.toList[k]? = some s[k] := by
  rw [List.getElem?_eq_getElem (by rw [ba_len]; exact h)]; rfl
theorem ntake {α : Type} {l : List α} {k : Nat} {x : α} (h : l[k]? = some x) : l.take (k + 1) = l.take k ++ [x] := by rw [List.take_add_one, h]; rfl
theorem ntdiv (m : Nat) : Int.tdiv (-(m : Int)) 10 = -((m / 10 : Nat) : Int) := by
  rw [Int.neg_tdiv]; rfl

def NumP (s : ByteArray) (lo hi : Int) (w : World) (e : Ending) (w' : World) : Prop :=
  ∃ n x : Int, e = .returned (.tuple #[.int .i64 n, .int .i64 x]) ∧ Below w.heap.size w w' ∧ (isNum s lo hi n ∧ x = 0 ∨ n = 0 ∧ x = 5 ∧ ∀ m, ¬ isNum s lo hi m)

structure Cut (s : ByteArray) (B : Bool) (T : ByteArray) : Prop where
  list : s.data.toList = if B then 45 :: T.data.toList else T.data.toList
  head : B = false → ∀ r, T.data.toList ≠ 45 :: r

theorem Cut.neg {s T : ByteArray} {B : Bool} (h : Cut s B T) {lo hi m : Int} (g : isNum s lo hi m) : (∀ c ∈ T.data.toList, isDig c) ∧ (val T.data.toList : Int) = (if B then -m else m) ∧ (if B then m < 0 else 0 ≤ m) := by
  obtain ⟨h0, h1, h2, h3, h4⟩ := g
  have e : itoa m = s.data.toList := by rw [h2]
  rw [h.list] at e
  cases B with
  | true =>
    obtain ⟨a, b, c⟩ := itoa_below e h0 h1
    exact ⟨b, c, a⟩
  | false =>
    obtain ⟨a, b, c⟩ := itoa_plain e h0 h1 (h.head rfl)
    exact ⟨b, c, a⟩

set_option maxHeartbeats 4000000 in
set_option maxRecDepth 100000 in
theorem rnum_neG (a0 : Option Addr) (c0 : Nat) (s : ByteArray) (lo hi : Int) (w : World) (hne : 0 < s.size) (hs : s.size ≤ 20) (l0 : -9223372036854775808 ≤ lo) (l1 : lo ≤ 9223372036854775807) (l2 : -9223372036854775808 ≤ hi) (l3 : hi ≤ 9223372036854775807) :
    Calls Tryz.prog 86 #[fv false s (.slice a0 0 c0), .int .i64 lo, .int .i64 hi] w (NumP s lo hi w) := by
  have e2 : (s.toList == []) = false := by
    have := toList_ne (t := s) (by omega)
    simpa using this
  have e3 : s.toList.isEmpty = false := by
    have := toList_ne (t := s) (by omega)
    simpa using this
  obtain ⟨b0, hb0⟩ : ∃ b, s[0] = b := ⟨_, rfl⟩
  obtain ⟨B, hB⟩ : ∃ B, ((b0.toNat : Int) == 45) = B := ⟨_, rfl⟩
  obtain ⟨T, hT⟩ : ∃ T, T = if B then s.extract 1 s.size else s := ⟨_, rfl⟩
  have hcut : Cut s B T := by
    have hl : s.data.toList = b0 :: s.data.toList.drop 1 := by
      have := nget hne
      rw [hb0] at this
      cases h : s.data.toList with
      | nil => rw [h] at this; simp at this
      | cons c r => rw [h] at this; simp at this; rw [this]; rfl
    cases B with
    | true =>
      have hb : b0 = 45 := UInt8.toNat.inj (by have := beq_iff_eq.1 hB; show b0.toNat = 45; omega)
      refine ⟨?_, fun h => by cases h⟩
      rw [hT, if_pos rfl, if_pos rfl, ByteArray.data_extract, Array.toList_extract, List.extract_eq_take_drop, List.take_of_length_le (by rw [List.length_drop, ba_len]; omega)]
      rw [hb] at hl
      exact hl
    | false =>
      refine ⟨by rw [hT]; rfl, fun _ r e => ?_⟩
      have hb := beq_eq_false_iff_ne.1 hB
      rw [hT] at e
      have e' : s.data.toList = 45 :: r := e
      rw [e'] at hl
      injection hl with h _
      exact hb (by rw [← h]; rfl)
  have hTs : T.size ≤ 20 := by
    have := hcut.list
    have h1 := congrArg List.length this
    rw [ba_len] at h1
    cases B with
    | true => simp at h1; omega
    | false => rw [if_neg (by simp), ba_len] at h1; omega
  have HC := Lib.hid hcut
  have HT := Lib.hid hT
  have i0 : (0 : Int) ≤ s.size := by omega
  have i1 : ¬ (20 : Int) < s.size := by omega
  have i2 : (1 : Int) ≤ s.size := by omega
  clear hcut hT
  go_enter Tryz.func86, Tryz.ntmps86
  go_upto_if 35 with fail
  go_cut [8] (fun t wx => t = .string T ∧ wx = w.alloc (.cells #[.bool false, .string s, .slice a0 0 c0] 61))
  case first =>
    cases B with
    | true =>
      go_wp2_with fail
      go_meet
      case rel => exact ⟨by rw [HT.out]; rfl, rfl⟩
    | false =>
      go_wp2_with fail
      go_meet
      case rel => exact ⟨by rw [HT.out]; rfl, rfl⟩
  case rest =>
    obtain ⟨rfl, rfl⟩ := hcut
    obtain ⟨L, hL⟩ : ∃ L, L = T.data.toList := ⟨_, rfl⟩
    have hLl : L.length = T.size := by rw [hL, ba_len]
    have hno : (∃ (k : Nat) (c : UInt8), L[k]? = some c ∧ ¬ isDig c) ∨ (∃ k : Nat, 9223372036854775808 < val (L.take k)) → ∀ m, ¬ isNum s lo hi m := by
      intro h m g
      obtain ⟨a, b, c⟩ := HC.out.neg g
      rw [← hL] at a b
      rcases h with ⟨k, x, h1, h2⟩ | ⟨k, h⟩
      · exact h2 (a x (List.mem_of_getElem? h1))
      · have h1 := val_app_le (L.take k) (L.drop k)
        rw [List.take_append_drop] at h1
        have := g.1
        have := g.2.1
        cases B with
        | true => rw [if_pos rfl] at b; omega
        | false => rw [if_neg (by simp)] at b; omega
    have HL := Lib.hid hL
    have HLL := Lib.hid hLl
    have HNO := Lib.hid hno
    have j0 : (0 : Int) ≤ T.size := by omega
    clear hL hLl hno
    go_wp2_with fail
    go_loopw [10, 11] (fun nv iv wr => ∃ k u : Nat, k ≤ T.size ∧ iv = .int .i64 (k : Nat) ∧ nv = .int .i64 (-(u : Int)) ∧ u ≤ 9223372036854775808 ∧ u = val (L.take k) ∧ (∀ c ∈ L.take k, isDig c) ∧ wr = w.alloc (.cells #[.bool false, .string s, .slice a0 0 c0] 61)) (fun _ iv _ => T.size - (intOf iv).toNat)
    case atStart => exact ⟨0, 0, by omega, rfl, rfl, by omega, rfl, by simp, rfl⟩
    case round =>
      obtain ⟨k, u, hk, rfl, rfl, hu, hv, hdig, rfl⟩ := hrel
      have HV := Lib.hid hv
      have HD := Lib.hid hdig
      clear hv hdig
      have k0 : (0 : Int) ≤ k := by omega
      by_cases hlt : k < T.size
      · have hlt' : (k : Int) < T.size := by omega
        obtain ⟨b, hb⟩ : ∃ b, T[k] = b := ⟨_, rfl⟩
        have hLk : L[k]? = some b := by rw [HL.out, nget hlt, hb]
        have HLK := Lib.hid hLk
        clear hLk
        obtain ⟨y, hy⟩ : ∃ y : Int, (b.toNat : Int) = y := ⟨_, rfl⟩
        have hyr : 0 ≤ y ∧ y < 256 := by have := UInt8.toNat_lt b; omega
        obtain ⟨y0, y1⟩ := hyr
        by_cases hgo : 48 ≤ y ∧ y ≤ 57
        · have hyd : y - 48 = ((b.toNat - 48 : Nat) : Int) := by omega
          have hd9 : b.toNat - 48 ≤ 9 := by omega
          have hbd : isDig b := ⟨by omega, by omega⟩
          have hq := ntdiv (9223372036854775808 - (b.toNat - 48))
          rw [show (-((9223372036854775808 - (b.toNat - 48) : Nat) : Int)) = -9223372036854775808 + ((b.toNat - 48 : Nat) : Int) by omega] at hq
          have hv2 : val (L.take (k + 1)) = 10 * u + (b.toNat - 48) := by rw [ntake HLK.out, val_snoc, ← HV.out]
          have HV2 := Lib.hid hv2
          have HBD := Lib.hid hbd
          clear hv2 hbd
          by_cases hov : (9223372036854775808 - (b.toNat - 48)) / 10 < u
          · have h1 := HNO.out (.inr ⟨k + 1, by rw [HV2.out]; omega⟩)
            have HF := Lib.hid h1
            have q1 : (-(u : Int)) < (-9223372036854775808 + ((b.toNat - 48 : Nat) : Int)).tdiv 10 := by rw [hq]; omega
            clear h1 hov hq
            go_wp2_with fail
            exact bodyPost_ret (v := .tuple #[.int .i64 0, .int .i64 5]) (by simp [results, Tryz.results86, go_sem]) rfl ⟨_, _, rfl, (Below.refl _ _).alloc (Nat.le_refl _) _, .inr ⟨rfl, rfl, HF.out⟩⟩
          · have q1 : ¬ (-(u : Int)) < (-9223372036854775808 + ((b.toNat - 48 : Nat) : Int)).tdiv 10 := by rw [hq]; omega
            have q2 : 10 * u + (b.toNat - 48) ≤ 9223372036854775808 := by omega
            clear hov hq
            go_wp2_with fail
            refine ⟨⟨k + 1, 10 * u + (b.toNat - 48), hlt, by go_num, by go_num, q2, HV2.out.symm, ?_, trivial⟩, by simp [intOf]; omega⟩
            intro c hc
            rw [ntake HLK.out] at hc
            rcases List.mem_append.1 hc with h | h
            · exact HD.out c h
            · rw [List.mem_singleton] at h; exact h ▸ HBD.out
        · have h1 := HNO.out (.inl ⟨k, b, HLK.out, fun h => hgo (by have := h.1; have := h.2; omega)⟩)
          have HF := Lib.hid h1
          clear h1
          rcases (show y < 48 ∨ (48 ≤ y ∧ 57 < y) by omega) with g1 | ⟨g1, g2⟩
          all_goals
            clear hgo
            go_wp2_with fail
            exact bodyPost_ret (v := .tuple #[.int .i64 0, .int .i64 5]) (by simp [results, Tryz.results86, go_sem]) rfl ⟨_, _, rfl, (Below.refl _ _).alloc (Nat.le_refl _) _, .inr ⟨rfl, rfl, HF.out⟩⟩
      · have hge : ¬ (k : Int) < T.size := by omega
        obtain rfl : k = T.size := by omega
        have hall : L.take T.size = L := List.take_of_length_le (by rw [HLL.out]; exact Nat.le_refl _)
        have hvL : u = val L := by rw [HV.out, hall]
        obtain ⟨m, hm⟩ : ∃ m : Int, m = if B then -(u : Int) else (u : Int) := ⟨_, rfl⟩
        have hnum : (∀ n, isNum s lo hi n → n = m) := fun n hn => by
          obtain ⟨a, b, c⟩ := HC.out.neg hn
          rw [← HL.out, ← hvL] at b
          cases B with
          | true => rw [if_pos rfl] at b hm; omega
          | false => rw [if_neg (by simp)] at b hm; omega
        have HM := Lib.hid hm
        have HNUM := Lib.hid hnum
        clear hall hvL hm hnum
        go_upto_if 72 with fail
        go_cut [10] (fun r wx => r = .int .i64 m ∧ -9223372036854775808 ≤ m ∧ m ≤ 9223372036854775807 ∧ wx = w.alloc (.cells #[.bool false, .string s, .slice a0 0 c0] 61))
        case first =>
          cases B with
          | true =>
            have hm : m = -(u : Int) := HM.out
            go_wp2_with fail
            go_meet
            case rel => exact ⟨by rw [hm], by omega, by omega, rfl⟩
          | false =>
            have hm : m = (u : Int) := HM.out
            by_cases hu63 : u = 9223372036854775808
            · have q1 : (-(u : Int) == -9223372036854775808) = true := by rw [beq_iff_eq]; omega
              have hn : ∀ n, ¬ isNum s lo hi n := fun n hn => by
                have := HNUM.out n hn
                have := hn.2.1
                omega
              have HF := Lib.hid hn
              clear hn
              go_wp2_with fail
              exact bodyPost_ret (v := .tuple #[.int .i64 0, .int .i64 5]) (by simp [results, Tryz.results86, go_sem]) rfl ⟨_, _, rfl, (Below.refl _ _).alloc (Nat.le_refl _) _, .inr ⟨rfl, rfl, HF.out⟩⟩
            · have q1 : (-(u : Int) == -9223372036854775808) = false := by rw [beq_eq_false_iff_ne]; omega
              go_wp2_with fail
              go_meet
              case rel => exact ⟨by rw [hm], by omega, by omega, rfl⟩
        case rest =>
          obtain ⟨rfl, m0, m1, rfl⟩ := hcut
          have hbad : (s = tx (itoa m) ∧ lo ≤ m ∧ m ≤ hi) ∨ ((∀ n, ¬ isNum s lo hi n) ∧ ¬ (s = tx (itoa m) ∧ lo ≤ m ∧ m ≤ hi)) := by
            by_cases h : s = tx (itoa m) ∧ lo ≤ m ∧ m ≤ hi
            · exact .inl h
            · refine .inr ⟨fun n hn => ?_, h⟩
              have := HNUM.out n hn
              subst this
              exact h ⟨hn.2.2.1, hn.2.2.2.1, hn.2.2.2.2⟩
          have hdig : ∀ wz, Calls Tryz.prog 110 #[.int .i64 m] wz fun e w' => e = .returned (.string (tx (itoa m))) ∧ Below wz.heap.size wz w' := fun wz => digits_any m wz m0 m1
          obtain ⟨X, hX⟩ : ∃ X, X = tx (itoa m) := ⟨_, rfl⟩
          rw [← hX] at hbad hdig
          have HDG := Lib.hid hdig
          have HX := Lib.hid hX
          clear hdig hX
          go_upto_region 20 with fail
          go_cut [91] (fun c wx => ∃ o : Bool, c = .bool o ∧ (o = true ↔ ¬ (s = X ∧ lo ≤ m ∧ m ≤ hi)) ∧ Below w.heap.size w wx ∧ wx.cell? ⟨w.heap.size, 1, none⟩ = some (.string s))
          case first =>
            by_cases hs1 : s = X
            · have q1 : (X.toList == s.toList) = true := by rw [hs1]; exact beq_self_eq_true _
              have HS1 := Lib.hid hs1
              clear hs1
              by_cases h1 : m < lo
              · have d1 : decide (m < lo) = true := decide_eq_true h1
                refine wp_region_held_drew (S := (fun W => W.cell? ⟨w.heap.size, 1, none⟩ = some (.string s) ∧ Below w.heap.size w W ∧ w.heap.size < W.heap.size)) (by kernel_rfl) ?_ (fun hHeld => ?_)
                · exact start_box _ _ _ _ _
                refine wpAnyH_take (i := 0) (oi := ⟨some 77, .move (.tmp 10), 3, "ref.go:174", #[], none⟩) (v := ?_) rfl (by kernel_rfl) (by kernel_rfl) (by kernel_rfl) (fun _ _ _ h => h) (Or.inl ⟨by rfl, ?_⟩) (by assumption) ?_; rotate_left; · (intro w hSw; (try dsimp only at hSw); go_simp; try with_reducible rfl)
                try simp only [Act.put, List.setIfInBounds_toArray, List.set_cons_zero, List.set_cons_succ]
                refine wpAnyH_take (i := 2) (oi := ⟨some 79, .fieldAddr 61 (.tmp 3) 1, 0, "ref.go:174", #[], none⟩) (v := ?_) rfl (by kernel_rfl) (by kernel_rfl) (by kernel_rfl) (fun _ _ _ h => h) (Or.inl ⟨by rfl, ?_⟩) (by assumption) ?_; rotate_left; · (intro w hSw; (try dsimp only at hSw); go_simp; try with_reducible rfl)
                try simp only [Act.put, List.setIfInBounds_toArray, List.set_cons_zero, List.set_cons_succ]
                refine wpAnyH_take (i := 3) (oi := ⟨some 80, .load 9 (.tmp 79), 9, "ref.go:174", #[⟨2, .data⟩], none⟩) (v := ?_) rfl (by kernel_rfl) (by kernel_rfl) (by kernel_rfl) (fun _ _ _ h => h) (Or.inl ⟨by rfl, ?_⟩) (by assumption) ?_; rotate_left; · (intro w hSw; (try dsimp only at hSw); go_simp; try with_reducible rfl)
                try simp only [Act.put, List.setIfInBounds_toArray, List.set_cons_zero, List.set_cons_succ]
                refine wpAnyH_ready (rs := [1]) (by kernel_rfl) (by simp) ?_
                refine AllReadyH.cons (o := ⟨some 78, .call { callee := Callee.value (Operand.func 110), args := #[.tmp 77], argTypes := #[3] }, 9, "ref.go:174", #[⟨0, .data⟩], none⟩) rfl (fun K hK => ?_) AllReadyH.nil
                go_simp
                go_at_call 110; (with_reducible refine (HDG.out _).mono ?_); rintro e w2 ⟨rfl, hb2⟩
                refine hK.out _ _ ?_ (fun hHeld => ?_)
                · exact keep_box hb2 (by assumption)
                clear hK K
                try simp only [Act.put, List.setIfInBounds_toArray, List.set_cons_zero, List.set_cons_succ]
                refine wpAnyH_take (i := 4) (oi := ⟨some 81, .binOp BinOp.neq 9 (.tmp 78) (.tmp 80) 9, 4, "ref.go:174", #[⟨1, .data⟩, ⟨3, .data⟩], none⟩) (v := ?_) rfl (by kernel_rfl) (by kernel_rfl) (by kernel_rfl) (fun _ _ _ h => h) (Or.inl ⟨by rfl, ?_⟩) (by assumption) ?_; rotate_left; · (intro w hSw; (try dsimp only at hSw); go_simp; try with_reducible rfl)
                try simp only [Act.put, List.setIfInBounds_toArray, List.set_cons_zero, List.set_cons_succ]
                refine wpAnyH_take (i := 5) (oi := ⟨some 82, .move (.tmp 81), 4, "ref.go:174", #[⟨4, .data⟩, ⟨1, .chain⟩], none⟩) (v := ?_) rfl (by kernel_rfl) (by kernel_rfl) (by kernel_rfl) (fun _ _ _ h => h) (Or.inl ⟨by rfl, ?_⟩) (by assumption) ?_; rotate_left; · (intro w hSw; (try dsimp only at hSw); go_simp; try with_reducible rfl)
                try simp only [Act.put, List.setIfInBounds_toArray, List.set_cons_zero, List.set_cons_succ]
                refine wpAnyH_take (i := 6) (oi := ⟨some 83, .move (.tmp 10), 3, "ref.go:174", #[⟨5, .guard⟩], some (5, false)⟩) (v := ?_) rfl (by kernel_rfl) (by kernel_rfl) (by kernel_rfl) (fun _ _ _ h => h) (Or.inl ⟨by rfl, ?_⟩) (by assumption) ?_; rotate_left; · (intro w hSw; (try dsimp only at hSw); go_simp; try with_reducible rfl)
                try simp only [Act.put, List.setIfInBounds_toArray, List.set_cons_zero, List.set_cons_succ]
                refine wpAnyH_take (i := 7) (oi := ⟨some 84, .move (.tmp 1), 3, "ref.go:174", #[⟨5, .guard⟩], some (5, false)⟩) (v := ?_) rfl (by kernel_rfl) (by kernel_rfl) (by kernel_rfl) (fun _ _ _ h => h) (Or.inl ⟨by rfl, ?_⟩) (by assumption) ?_; rotate_left; · (intro w hSw; (try dsimp only at hSw); go_simp; try with_reducible rfl)
                try simp only [Act.put, List.setIfInBounds_toArray, List.set_cons_zero, List.set_cons_succ]
                refine wpAnyH_take (i := 8) (oi := ⟨some 85, .binOp BinOp.lss 3 (.tmp 83) (.tmp 84) 3, 4, "ref.go:174", #[⟨6, .data⟩, ⟨7, .data⟩, ⟨5, .guard⟩], some (5, false)⟩) (v := ?_) rfl (by kernel_rfl) (by kernel_rfl) (by kernel_rfl) (fun _ _ _ h => h) (Or.inl ⟨by rfl, ?_⟩) (by assumption) ?_; rotate_left; · (intro w hSw; (try dsimp only at hSw); go_simp; try with_reducible rfl)
                try simp only [Act.put, List.setIfInBounds_toArray, List.set_cons_zero, List.set_cons_succ]
                refine wpAnyH_take (i := 9) (oi := ⟨some 86, .pick (.tmp 82) (.const (Value.bool true)) (.tmp 85), 4, "ref.go:174", #[⟨5, .data⟩, ⟨8, .data⟩], none⟩) (v := ?_) rfl (by kernel_rfl) (by kernel_rfl) (by kernel_rfl) (fun _ _ _ h => h) (Or.inl ⟨by rfl, ?_⟩) (by assumption) ?_; rotate_left; · (intro w hSw; (try dsimp only at hSw); go_simp; try with_reducible rfl)
                try simp only [Act.put, List.setIfInBounds_toArray, List.set_cons_zero, List.set_cons_succ]
                refine wpAnyH_take (i := 10) (oi := ⟨some 87, .move (.tmp 86), 4, "ref.go:174", #[⟨9, .data⟩, ⟨5, .chain⟩], none⟩) (v := ?_) rfl (by kernel_rfl) (by kernel_rfl) (by kernel_rfl) (fun _ _ _ h => h) (Or.inl ⟨by rfl, ?_⟩) (by assumption) ?_; rotate_left; · (intro w hSw; (try dsimp only at hSw); go_simp; try with_reducible rfl)
                try simp only [Act.put, List.setIfInBounds_toArray, List.set_cons_zero, List.set_cons_succ]
                refine wpAnyH_take (i := 11) (oi := ⟨some 88, .move (.tmp 10), 3, "ref.go:174", #[⟨10, .guard⟩], some (10, false)⟩) (v := undef) rfl (by kernel_rfl) (by kernel_rfl) (by kernel_rfl) (fun _ _ _ h => h) (Or.inr ⟨by rfl, rfl⟩) (by assumption) ?_
                try simp only [Act.put, List.setIfInBounds_toArray, List.set_cons_zero, List.set_cons_succ]
                refine wpAnyH_take (i := 12) (oi := ⟨some 89, .move (.tmp 2), 3, "ref.go:174", #[⟨10, .guard⟩], some (10, false)⟩) (v := undef) rfl (by kernel_rfl) (by kernel_rfl) (by kernel_rfl) (fun _ _ _ h => h) (Or.inr ⟨by rfl, rfl⟩) (by assumption) ?_
                try simp only [Act.put, List.setIfInBounds_toArray, List.set_cons_zero, List.set_cons_succ]
                refine wpAnyH_take (i := 13) (oi := ⟨some 90, .binOp BinOp.gtr 3 (.tmp 88) (.tmp 89) 3, 4, "ref.go:174", #[⟨11, .data⟩, ⟨12, .data⟩, ⟨10, .guard⟩], some (10, false)⟩) (v := undef) rfl (by kernel_rfl) (by kernel_rfl) (by kernel_rfl) (fun _ _ _ h => h) (Or.inr ⟨by rfl, rfl⟩) (by assumption) ?_
                try simp only [Act.put, List.setIfInBounds_toArray, List.set_cons_zero, List.set_cons_succ]
                refine wpAnyH_take (i := 14) (oi := ⟨some 91, .pick (.tmp 87) (.const (Value.bool true)) (.tmp 90), 4, "ref.go:174", #[⟨10, .data⟩, ⟨13, .data⟩], none⟩) (v := ?_) rfl (by kernel_rfl) (by kernel_rfl) (by kernel_rfl) (fun _ _ _ h => h) (Or.inl ⟨by rfl, ?_⟩) (by assumption) ?_; rotate_left; · (intro w hSw; (try dsimp only at hSw); go_simp; try with_reducible rfl)
                try simp only [Act.put, List.setIfInBounds_toArray, List.set_cons_zero, List.set_cons_succ]
                refine wpAnyH_done (by kernel_rfl) ?_ _
                go_wp2
                go_meet
                exact ⟨true, rfl, by simp; omega, And.left (And.right (by assumption)), And.left (by assumption)⟩
              · have d1 : decide (m < lo) = false := decide_eq_false h1
                by_cases h2 : hi < m
                · have d2 : decide (hi < m) = true := decide_eq_true h2
                  refine wp_region_held_drew (S := (fun W => W.cell? ⟨w.heap.size, 1, none⟩ = some (.string s) ∧ Below w.heap.size w W ∧ w.heap.size < W.heap.size)) (by kernel_rfl) ?_ (fun hHeld => ?_)
                  · exact start_box _ _ _ _ _
                  refine wpAnyH_take (i := 0) (oi := ⟨some 77, .move (.tmp 10), 3, "ref.go:174", #[], none⟩) (v := ?_) rfl (by kernel_rfl) (by kernel_rfl) (by kernel_rfl) (fun _ _ _ h => h) (Or.inl ⟨by rfl, ?_⟩) (by assumption) ?_; rotate_left; · (intro w hSw; (try dsimp only at hSw); go_simp; try with_reducible rfl)
                  try simp only [Act.put, List.setIfInBounds_toArray, List.set_cons_zero, List.set_cons_succ]
                  refine wpAnyH_take (i := 2) (oi := ⟨some 79, .fieldAddr 61 (.tmp 3) 1, 0, "ref.go:174", #[], none⟩) (v := ?_) rfl (by kernel_rfl) (by kernel_rfl) (by kernel_rfl) (fun _ _ _ h => h) (Or.inl ⟨by rfl, ?_⟩) (by assumption) ?_; rotate_left; · (intro w hSw; (try dsimp only at hSw); go_simp; try with_reducible rfl)
                  try simp only [Act.put, List.setIfInBounds_toArray, List.set_cons_zero, List.set_cons_succ]
                  refine wpAnyH_take (i := 3) (oi := ⟨some 80, .load 9 (.tmp 79), 9, "ref.go:174", #[⟨2, .data⟩], none⟩) (v := ?_) rfl (by kernel_rfl) (by kernel_rfl) (by kernel_rfl) (fun _ _ _ h => h) (Or.inl ⟨by rfl, ?_⟩) (by assumption) ?_; rotate_left; · (intro w hSw; (try dsimp only at hSw); go_simp; try with_reducible rfl)
                  try simp only [Act.put, List.setIfInBounds_toArray, List.set_cons_zero, List.set_cons_succ]
                  refine wpAnyH_ready (rs := [1]) (by kernel_rfl) (by simp) ?_
                  refine AllReadyH.cons (o := ⟨some 78, .call { callee := Callee.value (Operand.func 110), args := #[.tmp 77], argTypes := #[3] }, 9, "ref.go:174", #[⟨0, .data⟩], none⟩) rfl (fun K hK => ?_) AllReadyH.nil
                  go_simp
                  go_at_call 110; (with_reducible refine (HDG.out _).mono ?_); rintro e w2 ⟨rfl, hb2⟩
                  refine hK.out _ _ ?_ (fun hHeld => ?_)
                  · exact keep_box hb2 (by assumption)
                  clear hK K
                  try simp only [Act.put, List.setIfInBounds_toArray, List.set_cons_zero, List.set_cons_succ]
                  refine wpAnyH_take (i := 4) (oi := ⟨some 81, .binOp BinOp.neq 9 (.tmp 78) (.tmp 80) 9, 4, "ref.go:174", #[⟨1, .data⟩, ⟨3, .data⟩], none⟩) (v := ?_) rfl (by kernel_rfl) (by kernel_rfl) (by kernel_rfl) (fun _ _ _ h => h) (Or.inl ⟨by rfl, ?_⟩) (by assumption) ?_; rotate_left; · (intro w hSw; (try dsimp only at hSw); go_simp; try with_reducible rfl)
                  try simp only [Act.put, List.setIfInBounds_toArray, List.set_cons_zero, List.set_cons_succ]
                  refine wpAnyH_take (i := 5) (oi := ⟨some 82, .move (.tmp 81), 4, "ref.go:174", #[⟨4, .data⟩, ⟨1, .chain⟩], none⟩) (v := ?_) rfl (by kernel_rfl) (by kernel_rfl) (by kernel_rfl) (fun _ _ _ h => h) (Or.inl ⟨by rfl, ?_⟩) (by assumption) ?_; rotate_left; · (intro w hSw; (try dsimp only at hSw); go_simp; try with_reducible rfl)
                  try simp only [Act.put, List.setIfInBounds_toArray, List.set_cons_zero, List.set_cons_succ]
                  refine wpAnyH_take (i := 6) (oi := ⟨some 83, .move (.tmp 10), 3, "ref.go:174", #[⟨5, .guard⟩], some (5, false)⟩) (v := ?_) rfl (by kernel_rfl) (by kernel_rfl) (by kernel_rfl) (fun _ _ _ h => h) (Or.inl ⟨by rfl, ?_⟩) (by assumption) ?_; rotate_left; · (intro w hSw; (try dsimp only at hSw); go_simp; try with_reducible rfl)
                  try simp only [Act.put, List.setIfInBounds_toArray, List.set_cons_zero, List.set_cons_succ]
                  refine wpAnyH_take (i := 7) (oi := ⟨some 84, .move (.tmp 1), 3, "ref.go:174", #[⟨5, .guard⟩], some (5, false)⟩) (v := ?_) rfl (by kernel_rfl) (by kernel_rfl) (by kernel_rfl) (fun _ _ _ h => h) (Or.inl ⟨by rfl, ?_⟩) (by assumption) ?_; rotate_left; · (intro w hSw; (try dsimp only at hSw); go_simp; try with_reducible rfl)
                  try simp only [Act.put, List.setIfInBounds_toArray, List.set_cons_zero, List.set_cons_succ]
                  refine wpAnyH_take (i := 8) (oi := ⟨some 85, .binOp BinOp.lss 3 (.tmp 83) (.tmp 84) 3, 4, "ref.go:174", #[⟨6, .data⟩, ⟨7, .data⟩, ⟨5, .guard⟩], some (5, false)⟩) (v := ?_) rfl (by kernel_rfl) (by kernel_rfl) (by kernel_rfl) (fun _ _ _ h => h) (Or.inl ⟨by rfl, ?_⟩) (by assumption) ?_; rotate_left; · (intro w hSw; (try dsimp only at hSw); go_simp; try with_reducible rfl)
                  try simp only [Act.put, List.setIfInBounds_toArray, List.set_cons_zero, List.set_cons_succ]
                  refine wpAnyH_take (i := 9) (oi := ⟨some 86, .pick (.tmp 82) (.const (Value.bool true)) (.tmp 85), 4, "ref.go:174", #[⟨5, .data⟩, ⟨8, .data⟩], none⟩) (v := ?_) rfl (by kernel_rfl) (by kernel_rfl) (by kernel_rfl) (fun _ _ _ h => h) (Or.inl ⟨by rfl, ?_⟩) (by assumption) ?_; rotate_left; · (intro w hSw; (try dsimp only at hSw); go_simp; try with_reducible rfl)
                  try simp only [Act.put, List.setIfInBounds_toArray, List.set_cons_zero, List.set_cons_succ]
                  refine wpAnyH_take (i := 10) (oi := ⟨some 87, .move (.tmp 86), 4, "ref.go:174", #[⟨9, .data⟩, ⟨5, .chain⟩], none⟩) (v := ?_) rfl (by kernel_rfl) (by kernel_rfl) (by kernel_rfl) (fun _ _ _ h => h) (Or.inl ⟨by rfl, ?_⟩) (by assumption) ?_; rotate_left; · (intro w hSw; (try dsimp only at hSw); go_simp; try with_reducible rfl)
                  try simp only [Act.put, List.setIfInBounds_toArray, List.set_cons_zero, List.set_cons_succ]
                  refine wpAnyH_take (i := 11) (oi := ⟨some 88, .move (.tmp 10), 3, "ref.go:174", #[⟨10, .guard⟩], some (10, false)⟩) (v := ?_) rfl (by kernel_rfl) (by kernel_rfl) (by kernel_rfl) (fun _ _ _ h => h) (Or.inl ⟨by rfl, ?_⟩) (by assumption) ?_; rotate_left; · (intro w hSw; (try dsimp only at hSw); go_simp; try with_reducible rfl)
                  try simp only [Act.put, List.setIfInBounds_toArray, List.set_cons_zero, List.set_cons_succ]
                  refine wpAnyH_take (i := 12) (oi := ⟨some 89, .move (.tmp 2), 3, "ref.go:174", #[⟨10, .guard⟩], some (10, false)⟩) (v := ?_) rfl (by kernel_rfl) (by kernel_rfl) (by kernel_rfl) (fun _ _ _ h => h) (Or.inl ⟨by rfl, ?_⟩) (by assumption) ?_; rotate_left; · (intro w hSw; (try dsimp only at hSw); go_simp; try with_reducible rfl)
                  try simp only [Act.put, List.setIfInBounds_toArray, List.set_cons_zero, List.set_cons_succ]
                  refine wpAnyH_take (i := 13) (oi := ⟨some 90, .binOp BinOp.gtr 3 (.tmp 88) (.tmp 89) 3, 4, "ref.go:174", #[⟨11, .data⟩, ⟨12, .data⟩, ⟨10, .guard⟩], some (10, false)⟩) (v := ?_) rfl (by kernel_rfl) (by kernel_rfl) (by kernel_rfl) (fun _ _ _ h => h) (Or.inl ⟨by rfl, ?_⟩) (by assumption) ?_; rotate_left; · (intro w hSw; (try dsimp only at hSw); go_simp; try with_reducible rfl)
                  try simp only [Act.put, List.setIfInBounds_toArray, List.set_cons_zero, List.set_cons_succ]
                  refine wpAnyH_take (i := 14) (oi := ⟨some 91, .pick (.tmp 87) (.const (Value.bool true)) (.tmp 90), 4, "ref.go:174", #[⟨10, .data⟩, ⟨13, .data⟩], none⟩) (v := ?_) rfl (by kernel_rfl) (by kernel_rfl) (by kernel_rfl) (fun _ _ _ h => h) (Or.inl ⟨by rfl, ?_⟩) (by assumption) ?_; rotate_left; · (intro w hSw; (try dsimp only at hSw); go_simp; try with_reducible rfl)
                  try simp only [Act.put, List.setIfInBounds_toArray, List.set_cons_zero, List.set_cons_succ]
                  refine wpAnyH_done (by kernel_rfl) ?_ _
                  go_wp2
                  go_meet
                  exact ⟨true, rfl, by simp; omega, And.left (And.right (by assumption)), And.left (by assumption)⟩
                · have d2 : decide (hi < m) = false := decide_eq_false h2
                  refine wp_region_held_drew (S := (fun W => W.cell? ⟨w.heap.size, 1, none⟩ = some (.string s) ∧ Below w.heap.size w W ∧ w.heap.size < W.heap.size)) (by kernel_rfl) ?_ (fun hHeld => ?_)
                  · exact start_box _ _ _ _ _
                  refine wpAnyH_take (i := 0) (oi := ⟨some 77, .move (.tmp 10), 3, "ref.go:174", #[], none⟩) (v := ?_) rfl (by kernel_rfl) (by kernel_rfl) (by kernel_rfl) (fun _ _ _ h => h) (Or.inl ⟨by rfl, ?_⟩) (by assumption) ?_; rotate_left; · (intro w hSw; (try dsimp only at hSw); go_simp; try with_reducible rfl)
                  try simp only [Act.put, List.setIfInBounds_toArray, List.set_cons_zero, List.set_cons_succ]
                  refine wpAnyH_take (i := 2) (oi := ⟨some 79, .fieldAddr 61 (.tmp 3) 1, 0, "ref.go:174", #[], none⟩) (v := ?_) rfl (by kernel_rfl) (by kernel_rfl) (by kernel_rfl) (fun _ _ _ h => h) (Or.inl ⟨by rfl, ?_⟩) (by assumption) ?_; rotate_left; · (intro w hSw; (try dsimp only at hSw); go_simp; try with_reducible rfl)
                  try simp only [Act.put, List.setIfInBounds_toArray, List.set_cons_zero, List.set_cons_succ]
                  refine wpAnyH_take (i := 3) (oi := ⟨some 80, .load 9 (.tmp 79), 9, "ref.go:174", #[⟨2, .data⟩], none⟩) (v := ?_) rfl (by kernel_rfl) (by kernel_rfl) (by kernel_rfl) (fun _ _ _ h => h) (Or.inl ⟨by rfl, ?_⟩) (by assumption) ?_; rotate_left; · (intro w hSw; (try dsimp only at hSw); go_simp; try with_reducible rfl)
                  try simp only [Act.put, List.setIfInBounds_toArray, List.set_cons_zero, List.set_cons_succ]
                  refine wpAnyH_ready (rs := [1]) (by kernel_rfl) (by simp) ?_
                  refine AllReadyH.cons (o := ⟨some 78, .call { callee := Callee.value (Operand.func 110), args := #[.tmp 77], argTypes := #[3] }, 9, "ref.go:174", #[⟨0, .data⟩], none⟩) rfl (fun K hK => ?_) AllReadyH.nil
                  go_simp
                  go_at_call 110; (with_reducible refine (HDG.out _).mono ?_); rintro e w2 ⟨rfl, hb2⟩
                  refine hK.out _ _ ?_ (fun hHeld => ?_)
                  · exact keep_box hb2 (by assumption)
                  clear hK K
                  try simp only [Act.put, List.setIfInBounds_toArray, List.set_cons_zero, List.set_cons_succ]
                  refine wpAnyH_take (i := 4) (oi := ⟨some 81, .binOp BinOp.neq 9 (.tmp 78) (.tmp 80) 9, 4, "ref.go:174", #[⟨1, .data⟩, ⟨3, .data⟩], none⟩) (v := ?_) rfl (by kernel_rfl) (by kernel_rfl) (by kernel_rfl) (fun _ _ _ h => h) (Or.inl ⟨by rfl, ?_⟩) (by assumption) ?_; rotate_left; · (intro w hSw; (try dsimp only at hSw); go_simp; try with_reducible rfl)
                  try simp only [Act.put, List.setIfInBounds_toArray, List.set_cons_zero, List.set_cons_succ]
                  refine wpAnyH_take (i := 5) (oi := ⟨some 82, .move (.tmp 81), 4, "ref.go:174", #[⟨4, .data⟩, ⟨1, .chain⟩], none⟩) (v := ?_) rfl (by kernel_rfl) (by kernel_rfl) (by kernel_rfl) (fun _ _ _ h => h) (Or.inl ⟨by rfl, ?_⟩) (by assumption) ?_; rotate_left; · (intro w hSw; (try dsimp only at hSw); go_simp; try with_reducible rfl)
                  try simp only [Act.put, List.setIfInBounds_toArray, List.set_cons_zero, List.set_cons_succ]
                  refine wpAnyH_take (i := 6) (oi := ⟨some 83, .move (.tmp 10), 3, "ref.go:174", #[⟨5, .guard⟩], some (5, false)⟩) (v := ?_) rfl (by kernel_rfl) (by kernel_rfl) (by kernel_rfl) (fun _ _ _ h => h) (Or.inl ⟨by rfl, ?_⟩) (by assumption) ?_; rotate_left; · (intro w hSw; (try dsimp only at hSw); go_simp; try with_reducible rfl)
                  try simp only [Act.put, List.setIfInBounds_toArray, List.set_cons_zero, List.set_cons_succ]
                  refine wpAnyH_take (i := 7) (oi := ⟨some 84, .move (.tmp 1), 3, "ref.go:174", #[⟨5, .guard⟩], some (5, false)⟩) (v := ?_) rfl (by kernel_rfl) (by kernel_rfl) (by kernel_rfl) (fun _ _ _ h => h) (Or.inl ⟨by rfl, ?_⟩) (by assumption) ?_; rotate_left; · (intro w hSw; (try dsimp only at hSw); go_simp; try with_reducible rfl)
                  try simp only [Act.put, List.setIfInBounds_toArray, List.set_cons_zero, List.set_cons_succ]
                  refine wpAnyH_take (i := 8) (oi := ⟨some 85, .binOp BinOp.lss 3 (.tmp 83) (.tmp 84) 3, 4, "ref.go:174", #[⟨6, .data⟩, ⟨7, .data⟩, ⟨5, .guard⟩], some (5, false)⟩) (v := ?_) rfl (by kernel_rfl) (by kernel_rfl) (by kernel_rfl) (fun _ _ _ h => h) (Or.inl ⟨by rfl, ?_⟩) (by assumption) ?_; rotate_left; · (intro w hSw; (try dsimp only at hSw); go_simp; try with_reducible rfl)
                  try simp only [Act.put, List.setIfInBounds_toArray, List.set_cons_zero, List.set_cons_succ]
                  refine wpAnyH_take (i := 9) (oi := ⟨some 86, .pick (.tmp 82) (.const (Value.bool true)) (.tmp 85), 4, "ref.go:174", #[⟨5, .data⟩, ⟨8, .data⟩], none⟩) (v := ?_) rfl (by kernel_rfl) (by kernel_rfl) (by kernel_rfl) (fun _ _ _ h => h) (Or.inl ⟨by rfl, ?_⟩) (by assumption) ?_; rotate_left; · (intro w hSw; (try dsimp only at hSw); go_simp; try with_reducible rfl)
                  try simp only [Act.put, List.setIfInBounds_toArray, List.set_cons_zero, List.set_cons_succ]
                  refine wpAnyH_take (i := 10) (oi := ⟨some 87, .move (.tmp 86), 4, "ref.go:174", #[⟨9, .data⟩, ⟨5, .chain⟩], none⟩) (v := ?_) rfl (by kernel_rfl) (by kernel_rfl) (by kernel_rfl) (fun _ _ _ h => h) (Or.inl ⟨by rfl, ?_⟩) (by assumption) ?_; rotate_left; · (intro w hSw; (try dsimp only at hSw); go_simp; try with_reducible rfl)
                  try simp only [Act.put, List.setIfInBounds_toArray, List.set_cons_zero, List.set_cons_succ]
                  refine wpAnyH_take (i := 11) (oi := ⟨some 88, .move (.tmp 10), 3, "ref.go:174", #[⟨10, .guard⟩], some (10, false)⟩) (v := ?_) rfl (by kernel_rfl) (by kernel_rfl) (by kernel_rfl) (fun _ _ _ h => h) (Or.inl ⟨by rfl, ?_⟩) (by assumption) ?_; rotate_left; · (intro w hSw; (try dsimp only at hSw); go_simp; try with_reducible rfl)
                  try simp only [Act.put, List.setIfInBounds_toArray, List.set_cons_zero, List.set_cons_succ]
                  refine wpAnyH_take (i := 12) (oi := ⟨some 89, .move (.tmp 2), 3, "ref.go:174", #[⟨10, .guard⟩], some (10, false)⟩) (v := ?_) rfl (by kernel_rfl) (by kernel_rfl) (by kernel_rfl) (fun _ _ _ h => h) (Or.inl ⟨by rfl, ?_⟩) (by assumption) ?_; rotate_left; · (intro w hSw; (try dsimp only at hSw); go_simp; try with_reducible rfl)
                  try simp only [Act.put, List.setIfInBounds_toArray, List.set_cons_zero, List.set_cons_succ]
                  refine wpAnyH_take (i := 13) (oi := ⟨some 90, .binOp BinOp.gtr 3 (.tmp 88) (.tmp 89) 3, 4, "ref.go:174", #[⟨11, .data⟩, ⟨12, .data⟩, ⟨10, .guard⟩], some (10, false)⟩) (v := ?_) rfl (by kernel_rfl) (by kernel_rfl) (by kernel_rfl) (fun _ _ _ h => h) (Or.inl ⟨by rfl, ?_⟩) (by assumption) ?_; rotate_left; · (intro w hSw; (try dsimp only at hSw); go_simp; try with_reducible rfl)
                  try simp only [Act.put, List.setIfInBounds_toArray, List.set_cons_zero, List.set_cons_succ]
                  refine wpAnyH_take (i := 14) (oi := ⟨some 91, .pick (.tmp 87) (.const (Value.bool true)) (.tmp 90), 4, "ref.go:174", #[⟨10, .data⟩, ⟨13, .data⟩], none⟩) (v := ?_) rfl (by kernel_rfl) (by kernel_rfl) (by kernel_rfl) (fun _ _ _ h => h) (Or.inl ⟨by rfl, ?_⟩) (by assumption) ?_; rotate_left; · (intro w hSw; (try dsimp only at hSw); go_simp; try with_reducible rfl)
                  try simp only [Act.put, List.setIfInBounds_toArray, List.set_cons_zero, List.set_cons_succ]
                  refine wpAnyH_done (by kernel_rfl) ?_ _
                  go_wp2
                  go_meet
                  exact ⟨false, rfl, by simp [HS1.out]; omega, And.left (And.right (by assumption)), And.left (by assumption)⟩
            · have q1 : (X.toList == s.toList) = false := ba_neq fun e => hs1 e.symm
              refine wp_region_held_drew (S := (fun W => W.cell? ⟨w.heap.size, 1, none⟩ = some (.string s) ∧ Below w.heap.size w W ∧ w.heap.size < W.heap.size)) (by kernel_rfl) ?_ (fun hHeld => ?_)
              · exact start_box _ _ _ _ _
              refine wpAnyH_take (i := 0) (oi := ⟨some 77, .move (.tmp 10), 3, "ref.go:174", #[], none⟩) (v := ?_) rfl (by kernel_rfl) (by kernel_rfl) (by kernel_rfl) (fun _ _ _ h => h) (Or.inl ⟨by rfl, ?_⟩) (by assumption) ?_; rotate_left; · (intro w hSw; (try dsimp only at hSw); go_simp; try with_reducible rfl)
              try simp only [Act.put, List.setIfInBounds_toArray, List.set_cons_zero, List.set_cons_succ]
              refine wpAnyH_take (i := 2) (oi := ⟨some 79, .fieldAddr 61 (.tmp 3) 1, 0, "ref.go:174", #[], none⟩) (v := ?_) rfl (by kernel_rfl) (by kernel_rfl) (by kernel_rfl) (fun _ _ _ h => h) (Or.inl ⟨by rfl, ?_⟩) (by assumption) ?_; rotate_left; · (intro w hSw; (try dsimp only at hSw); go_simp; try with_reducible rfl)
              try simp only [Act.put, List.setIfInBounds_toArray, List.set_cons_zero, List.set_cons_succ]
              refine wpAnyH_take (i := 3) (oi := ⟨some 80, .load 9 (.tmp 79), 9, "ref.go:174", #[⟨2, .data⟩], none⟩) (v := ?_) rfl (by kernel_rfl) (by kernel_rfl) (by kernel_rfl) (fun _ _ _ h => h) (Or.inl ⟨by rfl, ?_⟩) (by assumption) ?_; rotate_left; · (intro w hSw; (try dsimp only at hSw); go_simp; try with_reducible rfl)
              try simp only [Act.put, List.setIfInBounds_toArray, List.set_cons_zero, List.set_cons_succ]
              refine wpAnyH_ready (rs := [1]) (by kernel_rfl) (by simp) ?_
              refine AllReadyH.cons (o := ⟨some 78, .call { callee := Callee.value (Operand.func 110), args := #[.tmp 77], argTypes := #[3] }, 9, "ref.go:174", #[⟨0, .data⟩], none⟩) rfl (fun K hK => ?_) AllReadyH.nil
              go_simp
              go_at_call 110; (with_reducible refine (HDG.out _).mono ?_); rintro e w2 ⟨rfl, hb2⟩
              refine hK.out _ _ ?_ (fun hHeld => ?_)
              · exact keep_box hb2 (by assumption)
              clear hK K
              try simp only [Act.put, List.setIfInBounds_toArray, List.set_cons_zero, List.set_cons_succ]
              refine wpAnyH_take (i := 4) (oi := ⟨some 81, .binOp BinOp.neq 9 (.tmp 78) (.tmp 80) 9, 4, "ref.go:174", #[⟨1, .data⟩, ⟨3, .data⟩], none⟩) (v := ?_) rfl (by kernel_rfl) (by kernel_rfl) (by kernel_rfl) (fun _ _ _ h => h) (Or.inl ⟨by rfl, ?_⟩) (by assumption) ?_; rotate_left; · (intro w hSw; (try dsimp only at hSw); go_simp; try with_reducible rfl)
              try simp only [Act.put, List.setIfInBounds_toArray, List.set_cons_zero, List.set_cons_succ]
              refine wpAnyH_take (i := 5) (oi := ⟨some 82, .move (.tmp 81), 4, "ref.go:174", #[⟨4, .data⟩, ⟨1, .chain⟩], none⟩) (v := ?_) rfl (by kernel_rfl) (by kernel_rfl) (by kernel_rfl) (fun _ _ _ h => h) (Or.inl ⟨by rfl, ?_⟩) (by assumption) ?_; rotate_left; · (intro w hSw; (try dsimp only at hSw); go_simp; try with_reducible rfl)
              try simp only [Act.put, List.setIfInBounds_toArray, List.set_cons_zero, List.set_cons_succ]
              refine wpAnyH_take (i := 6) (oi := ⟨some 83, .move (.tmp 10), 3, "ref.go:174", #[⟨5, .guard⟩], some (5, false)⟩) (v := undef) rfl (by kernel_rfl) (by kernel_rfl) (by kernel_rfl) (fun _ _ _ h => h) (Or.inr ⟨by rfl, rfl⟩) (by assumption) ?_
              try simp only [Act.put, List.setIfInBounds_toArray, List.set_cons_zero, List.set_cons_succ]
              refine wpAnyH_take (i := 7) (oi := ⟨some 84, .move (.tmp 1), 3, "ref.go:174", #[⟨5, .guard⟩], some (5, false)⟩) (v := undef) rfl (by kernel_rfl) (by kernel_rfl) (by kernel_rfl) (fun _ _ _ h => h) (Or.inr ⟨by rfl, rfl⟩) (by assumption) ?_
              try simp only [Act.put, List.setIfInBounds_toArray, List.set_cons_zero, List.set_cons_succ]
              refine wpAnyH_take (i := 8) (oi := ⟨some 85, .binOp BinOp.lss 3 (.tmp 83) (.tmp 84) 3, 4, "ref.go:174", #[⟨6, .data⟩, ⟨7, .data⟩, ⟨5, .guard⟩], some (5, false)⟩) (v := undef) rfl (by kernel_rfl) (by kernel_rfl) (by kernel_rfl) (fun _ _ _ h => h) (Or.inr ⟨by rfl, rfl⟩) (by assumption) ?_
              try simp only [Act.put, List.setIfInBounds_toArray, List.set_cons_zero, List.set_cons_succ]
              refine wpAnyH_take (i := 9) (oi := ⟨some 86, .pick (.tmp 82) (.const (Value.bool true)) (.tmp 85), 4, "ref.go:174", #[⟨5, .data⟩, ⟨8, .data⟩], none⟩) (v := ?_) rfl (by kernel_rfl) (by kernel_rfl) (by kernel_rfl) (fun _ _ _ h => h) (Or.inl ⟨by rfl, ?_⟩) (by assumption) ?_; rotate_left; · (intro w hSw; (try dsimp only at hSw); go_simp; try with_reducible rfl)
              try simp only [Act.put, List.setIfInBounds_toArray, List.set_cons_zero, List.set_cons_succ]
              refine wpAnyH_take (i := 10) (oi := ⟨some 87, .move (.tmp 86), 4, "ref.go:174", #[⟨9, .data⟩, ⟨5, .chain⟩], none⟩) (v := ?_) rfl (by kernel_rfl) (by kernel_rfl) (by kernel_rfl) (fun _ _ _ h => h) (Or.inl ⟨by rfl, ?_⟩) (by assumption) ?_; rotate_left; · (intro w hSw; (try dsimp only at hSw); go_simp; try with_reducible rfl)
              try simp only [Act.put, List.setIfInBounds_toArray, List.set_cons_zero, List.set_cons_succ]
              refine wpAnyH_take (i := 11) (oi := ⟨some 88, .move (.tmp 10), 3, "ref.go:174", #[⟨10, .guard⟩], some (10, false)⟩) (v := undef) rfl (by kernel_rfl) (by kernel_rfl) (by kernel_rfl) (fun _ _ _ h => h) (Or.inr ⟨by rfl, rfl⟩) (by assumption) ?_
              try simp only [Act.put, List.setIfInBounds_toArray, List.set_cons_zero, List.set_cons_succ]
              refine wpAnyH_take (i := 12) (oi := ⟨some 89, .move (.tmp 2), 3, "ref.go:174", #[⟨10, .guard⟩], some (10, false)⟩) (v := undef) rfl (by kernel_rfl) (by kernel_rfl) (by kernel_rfl) (fun _ _ _ h => h) (Or.inr ⟨by rfl, rfl⟩) (by assumption) ?_
              try simp only [Act.put, List.setIfInBounds_toArray, List.set_cons_zero, List.set_cons_succ]
              refine wpAnyH_take (i := 13) (oi := ⟨some 90, .binOp BinOp.gtr 3 (.tmp 88) (.tmp 89) 3, 4, "ref.go:174", #[⟨11, .data⟩, ⟨12, .data⟩, ⟨10, .guard⟩], some (10, false)⟩) (v := undef) rfl (by kernel_rfl) (by kernel_rfl) (by kernel_rfl) (fun _ _ _ h => h) (Or.inr ⟨by rfl, rfl⟩) (by assumption) ?_
              try simp only [Act.put, List.setIfInBounds_toArray, List.set_cons_zero, List.set_cons_succ]
              refine wpAnyH_take (i := 14) (oi := ⟨some 91, .pick (.tmp 87) (.const (Value.bool true)) (.tmp 90), 4, "ref.go:174", #[⟨10, .data⟩, ⟨13, .data⟩], none⟩) (v := ?_) rfl (by kernel_rfl) (by kernel_rfl) (by kernel_rfl) (fun _ _ _ h => h) (Or.inl ⟨by rfl, ?_⟩) (by assumption) ?_; rotate_left; · (intro w hSw; (try dsimp only at hSw); go_simp; try with_reducible rfl)
              try simp only [Act.put, List.setIfInBounds_toArray, List.set_cons_zero, List.set_cons_succ]
              refine wpAnyH_done (by kernel_rfl) ?_ _
              go_wp2
              go_meet
              exact ⟨true, rfl, by simp [hs1], And.left (And.right (by assumption)), And.left (by assumption)⟩
          case rest =>
            obtain ⟨o, rfl, ho, hb, hcell⟩ := hcut
            have HB := Lib.hid hb
            by_cases hgood : s = X ∧ lo ≤ m ∧ m ≤ hi
            · obtain rfl : o = false := by
                cases o with
                | false => rfl
                | true => exact absurd hgood (ho.1 rfl)
              have hn : isNum s lo hi m := ⟨m0, m1, by rw [hgood.1, HX.out], hgood.2.1, hgood.2.2⟩
              have HN := Lib.hid hn
              clear hb hn hgood hbad ho
              go_wp2_with fail
              exact bodyPost_ret (v := .tuple #[.int .i64 m, .int .i64 0]) (by simp [results, Tryz.results86, go_sem]) rfl ⟨_, _, rfl, HB.out, .inl ⟨HN.out, rfl⟩⟩
            · obtain rfl : o = true := ho.2 hgood
              have hn : ∀ n, ¬ isNum s lo hi n := by
                rcases hbad with h | h
                · exact absurd h hgood
                · exact h.1
              have HN := Lib.hid hn
              clear hb hn hgood hbad ho
              go_wp2_with fail
              exact bodyPost_ret (v := .tuple #[.int .i64 0, .int .i64 5]) (by simp [results, Tryz.results86, go_sem]) rfl ⟨_, _, rfl, HB.out, .inr ⟨rfl, rfl, HN.out⟩⟩
end Go.Proofs.YtgjcblginkdinaaGreatDoor
