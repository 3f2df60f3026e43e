/- The contract of the document's primes. The contracts of the document's roots. The contract of the document's table of roots: the chapter's H and K. -/
import Derived.Test.YtgjcblginkdinaaGreatDoorZ38
set_option linter.unusedVariables false
namespace Go.Proofs.YtgjcblginkdinaaGreatDoor
open Go.ChangeShapes Go.WideShapes Go.ChangeAt Go.RowKit

theorem Tryz.infoInt : (Tryz.prog.info? 3).map (fun i => (i.zero, i.size, i.bytes)) = some (some (.int .i64 0), 1, 8) := by kernel_rfl
def ivs (l : List Nat) : List Value := l.map fun (x : Nat) => Value.int .i64 (x : Int)
theorem is_len (l : List Nat) : (ivs l).length = l.length := by simp [ivs]
theorem is_app (l m : List Nat) : ivs (l ++ m) = ivs l ++ ivs m := by simp [ivs]
theorem is_at {l : List Nat} {i x : Nat} (h : l[i]? = some x) : (ivs l)[i]? = some (.int .i64 (x : Int)) := by simp [ivs, h]
theorem all_snoc {α : Type} {l : List α} {k : Nat} {x : α} (f : α → Bool) (h : l[k]? = some x) : (l.take (k + 1)).all f = ((l.take k).all f && f x) := by
  rw [take_snoc h, List.all_append]; simp

set_option maxHeartbeats 2000000 in
set_option maxRecDepth 100000 in
theorem primes_any (n : Nat) (w : World) (hn : n ≤ 64) :
    Calls Tryz.prog 113 #[.int .i64 (n : Int)] w fun e w' => ∃ v, e = .returned v ∧ Arr w.heap.size w' v (ivs (PL.take n)) ∧ Below w.heap.size w w' := by
  go_enter Tryz.func113, Tryz.ntmps113
  go_wp2
  go_loopw [3, 4] (fun v kv wr => ∃ j : Nat, j ≤ 310 ∧ kv = .int .i64 ((j : Int) + 2) ∧ Arr w.heap.size wr v (ivs (pf j)) ∧ (pf j).length ≤ n ∧ Below w.heap.size w wr) (fun _ kv _ => 400 - (intOf kv).toNat)
  case atStart => exact ⟨0, by omega, rfl, Arr.nil _ _, Nat.zero_le _, Below.refl _ _⟩
  case round =>
    obtain ⟨j, hj, rfl, harr, hle, hbel⟩ := hrel
    have hsz := hbel.size
    obtain ⟨a, c, hv⟩ := harr.form
    rw [is_len] at hv
    obtain ⟨N, hN⟩ : ∃ N, N = (pf j).length := ⟨_, rfl⟩
    rw [← hN] at hv hle
    subst hv
    have hN64 : N ≤ 64 := by rw [hN]; exact pf_le j
    have HA := Lib.hid harr
    have HB := Lib.hid hbel
    have HN := Lib.hid hN
    by_cases hlt : N < n
    · have hj2 : j < 310 := pf_more hj (by rw [← hN]; omega)
      have hst := pf_step j hj2
      have HST := Lib.hid hst
      clear harr hbel hN hst
      obtain ⟨w0, rfl⟩ : ∃ w0, w0 = wr := ⟨wr, rfl⟩
      go_wp2
      go_loopw [5, 6] (fun bv iv wr => ∃ i : Nat, i ≤ N ∧ iv = .int .i64 i ∧ bv = .bool (((pf j).take i).all fun p => (j + 2) % p != 0) ∧ wr = w0) (fun _ iv _ => N - (intOf iv).toNat)
      case atStart => exact ⟨0, Nat.zero_le _, rfl, rfl, rfl⟩
      case round =>
        obtain ⟨i, hi, rfl, rfl, rfl⟩ := hrel
        by_cases hil : i < N
        · obtain ⟨p, hp⟩ : ∃ p, (pf j)[i]? = some p := ⟨(pf j)[i]'(by rw [← HN.out]; exact hil), List.getElem?_eq_getElem _⟩
          obtain ⟨p2, p4⟩ := pf_pos (List.mem_of_getElem? hp)
          obtain ⟨b, cap, hs, hb1, hb2, hb3, hb4, hb5, hb6⟩ := HA.out.pos (by intro h; rw [← List.length_eq_zero_iff, is_len, ← HN.out] at h; omega)
          obtain ⟨rfl, rfl⟩ : a = some ⟨b, 0, none⟩ ∧ c = cap := by
            injection hs with e1 e2 e3
            exact ⟨e1, e3⟩
          have hcell := hb6 i _ (is_at hp)
          have hall := all_snoc (fun p => (j + 2) % p != 0) hp
          obtain ⟨B, hB⟩ : ∃ B, B = ((pf j).take i).all fun p => (j + 2) % p != 0 := ⟨_, rfl⟩
          rw [← hB] at hall ⊢
          have h01 : (0 : Int) ≤ i := by omega
          have h02 : (i : Int) < N := by omega
          have hpn : ¬ (p : Int) = 0 := by omega
          have hpp : (0 : Int) < p := by omega
          have HALL := Lib.hid hall
          have HBB := Lib.hid hB
          have HP := Lib.hid hp
          clear hall hB hp hs hb1 hb2 hb3 hb4 hb5 hb6 hi
          have hc : ((j : Int) + 2) % (p : Int) = (((j + 2) % p : Nat) : Int) := by rw [Int.natCast_emod]; rfl
          by_cases hm : (j + 2) % p = 0
          · have t2 : ((j : Int) + 2) % (p : Int) = 0 := by rw [hc, hm]; rfl
            have t1 : (((j : Int) + 2) % (p : Int) == 0) = true := by rw [t2]; rfl
            clear hc
            have HM := Lib.hid hm
            clear hm
            go_wp2
            refine ⟨⟨i + 1, hil, by go_num, ?_, trivial⟩, by simp [intOf]; omega⟩
            rw [HALL.out, HM.out]; simp
          · have t2 : ¬ ((j : Int) + 2) % (p : Int) = 0 := by rw [hc]; omega
            have t1 : (((j : Int) + 2) % (p : Int) == 0) = false := by rw [beq_eq_false_iff_ne]; exact t2
            clear hc
            have HM := Lib.hid hm
            clear hm
            go_wp2
            refine ⟨⟨i + 1, hil, by go_num, ?_, trivial⟩, by simp [intOf]; omega⟩
            have : ((j + 2) % p != 0) = true := by simpa using HM.out
            rw [HALL.out, this, Bool.and_true]
        · have hie : i = N := by omega
          have hfull : (pf j).take i = pf j := by rw [hie, HN.out, List.take_length]
          rw [hfull]
          have hst2 := HST.out
          cases hB : (pf j).all (fun p => (j + 2) % p != 0) with
          | true =>
            rw [hB, if_pos rfl] at hst2
            have HS2 := Lib.hid hst2
            clear hst2 hB hfull hie hi
            go_wp2_with (at_builtin; refine wpList_append_arr rfl _ _ 177 rfl 3 (.int .i64 0) 8 Tryz.underlying177 Tryz.infoInt rfl w.heap.size (.slice a N c) _ [.int .i64 ((j : Int) + 2)] rfl (HA.out.alloc _) _ _ _ rfl rfl news_new one1 (Nat.zero_lt_succ _) (by rw [sizeAl]; omega) (by rw [is_len, ← HN.out]; show _ + 1 ≤ _; omega) (by decide) ?_; rintro v4 w4 harr4 hb4)
            refine ⟨⟨j + 1, by omega, by go_num, ?_, ?_, (HB.out.alloc hsz _).trans hb4⟩, by simp [intOf]; omega⟩
            · rw [HS2.out, is_app]; exact harr4
            · rw [HS2.out, List.length_append, ← HN.out]; exact hlt
          | false =>
            rw [hB, if_neg (by decide)] at hst2
            have HS2 := Lib.hid hst2
            clear hst2 hB hfull hie hi
            go_wp2
            refine ⟨⟨j + 1, by omega, by go_num, ?_, ?_, HB.out⟩, by simp [intOf]; omega⟩
            · rw [HS2.out]; exact HA.out
            · rw [HS2.out, ← HN.out]; exact hle
    · have hne : N = n := by omega
      have hpt := pf_take j (by omega)
      rw [← hN, hne] at hpt
      have HPT := Lib.hid hpt
      clear harr hbel hN hpt
      go_wp2
      go_ret
      refine ⟨_, rfl, ?_, HB.out⟩
      rw [← HPT.out]; exact HA.out
end Go.Proofs.YtgjcblginkdinaaGreatDoor
set_option linter.unusedVariables false
namespace Go.Proofs.YtgjcblginkdinaaGreatDoor
open Go.ChangeShapes Go.WideShapes Go.ChangeAt Go.RowKit

def limbL (x : Nat) : List Nat := [x % 65536, x / 65536 % 65536, x / 4294967296]
theorem limb_len (x : Nat) : (limbL x).length = 3 := rfl
theorem limb_val (x : Nat) : valR (limbL x) = x := by simp only [limbL, valR]; omega
theorem limb_dig (x : Nat) (h : x < 281474976710656) : Dig (limbL x) := by
  intro y hy
  simp only [limbL, List.mem_cons, List.not_mem_nil, or_false] at hy
  rcases hy with rfl | rfl | rfl <;> omega

set_option maxHeartbeats 1000000 in
theorem limbs_any (x : Nat) (w : World) (hx : x ≤ 1099511627776) :
    Calls Tryz.prog 152 #[.int .u64 (x : Int)] w fun e w' => ∃ v, e = .returned v ∧ Arr w.heap.size w' v (uvs (limbL x)) ∧ Below w.heap.size w w' := by
  go_enter Tryz.func152, Tryz.ntmps152
  go_wp2
  go_ret
  refine ⟨_, rfl, ?_, (Below.refl _ _).alloc (Nat.le_refl _) _⟩
  exact arr_new (cs := uvs (limbL x)) (cap := 3) (xs := (uvs (limbL x)).toArray) (fr := (0, 0)) (Nat.le_refl _) (Nat.le_refl _) (by decide) rfl (.inl rfl) (fun j u hu => by simpa using hu)

theorem any_val : ∀ (l : List Nat), (l.any fun d => decide (0 < d)) = decide (0 < valR l)
  | [] => rfl
  | x :: l => by
    rw [List.any_cons, any_val l, valR]
    by_cases h : 0 < x
    · simp [h]; omega
    · have : x = 0 := by omega
      subst this
      by_cases h2 : 0 < valR l
      · simp [h2]
      · have : valR l = 0 := by omega
        simp [this]
theorem above_dec {p Q V T : Nat} (hV : V < Q) : p * Q < V + Q * T ↔ p < T ∨ (T = p ∧ 0 < V) := by
  rw [Nat.mul_comm p Q]
  rcases Nat.lt_trichotomy p T with h | h | h
  · have := Nat.mul_le_mul_left Q (show p + 1 ≤ T from h)
    rw [Nat.mul_add] at this
    exact ⟨fun _ => .inl h, fun _ => by omega⟩
  · subst h
    exact ⟨fun h => .inr ⟨rfl, by omega⟩, fun h => by omega⟩
  · have := Nat.mul_le_mul_left Q (show T + 1 ≤ p from h)
    rw [Nat.mul_add] at this
    exact ⟨fun h => by omega, fun h => by omega⟩
theorem drop_any {l : List Nat} {q d : Nat} (f : Nat → Bool) (h : l[q]? = some d) : (l.drop q).any f = (f d || (l.drop (q + 1)).any f) := by
  have hk : q < l.length := (List.getElem?_eq_some_iff.1 h).1
  rw [List.drop_eq_getElem_cons hk, List.any_cons]
  rw [List.getElem?_eq_getElem hk] at h
  rw [Option.some.inj h]

set_option maxHeartbeats 1000000 in
set_option maxRecDepth 100000 in
theorem above_any (x pw p : Nat) (w : World) (hx : x ≤ 1099511627776) (hpw : 2 ≤ pw ∧ pw ≤ 3) (hp : p < 400) :
    Calls Tryz.prog 134 #[.int .u64 (x : Int), .int .i64 (pw : Int), .int .i64 (p : Int)] w fun e w' => e = .returned (.bool (decide (p * 65536 ^ (2 * pw) < x ^ pw))) ∧ Below w.heap.size w w' := by
  obtain ⟨pw2, pw3⟩ := hpw
  have hlb := limbs_any x w hx
  have HLB := Lib.hid hlb
  have hdl := limb_dig x (by omega)
  have HDL := Lib.hid hdl
  clear hlb hdl
  go_enter Tryz.func134, Tryz.ntmps134
  go_wp2_with fail
  refine HLB.out.mono ?_
  rintro e w1 ⟨vl, rfl, harrl, hb1⟩
  obtain ⟨bl, cl, hvl, -⟩ := arr_u harrl (by rw [limb_len]; omega)
  rw [limb_len] at hvl
  subst hvl
  have HL := Lib.hid harrl
  have HB1 := Lib.hid hb1
  clear harrl hb1
  go_wp2
  go_loopw [8, 9] (fun mv iv wr => ∃ (i : Nat) (M : List Nat), 1 ≤ i ∧ i ≤ pw ∧ iv = .int .i64 i ∧ Arr w.heap.size wr mv (uvs M) ∧ M.length = 3 * i ∧ Hid (Dig M) ∧ Hid (valR M = x ^ i) ∧ Below w1.heap.size w1 wr) (fun _ iv _ => pw - (intOf iv).toNat)
  case atStart => exact ⟨1, limbL x, by omega, by omega, rfl, HL.out, rfl, HDL, Lib.hid (by rw [limb_val, Nat.pow_one]), Below.refl _ _⟩
  case round =>
    obtain ⟨i, M, hi1, hi, rfl, harr, hMl, HD, HV, hbel⟩ := hrel
    have hsz := hbel.size
    by_cases hlt : i < pw
    · have hc := times_any M (limbL x) _ _ w.heap.size w.heap.size wr harr (HL.out.below hbel) HD.out HDL.out (by omega) (by rw [limb_len]; omega)
      obtain ⟨bm, cm, hvm, -⟩ := arr_u harr (by omega)
      obtain ⟨mn, hmn⟩ : ∃ n, n = M.length := ⟨_, rfl⟩
      rw [← hmn] at hvm hMl
      subst hvm
      have hmn9 : mn ≤ 9 := by omega
      have hm3a : mn ≤ 3 * i := by omega
      have hm3b : 3 * i ≤ mn := by omega
      have HMN := Lib.hid hmn
      clear hmn hMl
      have HC := Lib.hid hc
      have HBEL := Lib.hid hbel
      clear hc harr hbel
      go_wp2_with fail
      refine HC.out.mono ?_
      rintro e w2 ⟨v, C, rfl, harr2, hlen, hD, hval, hb2⟩
      have HA2 := Lib.hid harr2
      have HV2 := Lib.hid hval
      have HD2 := Lib.hid hD
      have HB2 := Lib.hid hb2
      clear harr2 hval hD hb2
      go_wp2
      refine ⟨⟨i + 1, C, by omega, hlt, by go_num, HA2.out.mono (Nat.le_trans HB1.out.size hsz), by have := HMN.out; rw [hlen, limb_len]; omega, HD2, Lib.hid (by rw [HV2.out, HV.out, limb_val, Nat.pow_succ]), HBEL.out.trans (HB2.out.mono hsz)⟩, by simp [intOf]; omega⟩
    · have hie : i = pw := by omega
      rw [hie] at hMl HV
      obtain ⟨bm, cm, hvm, hbm, hlc, hcm, hbw, hcell⟩ := arr_u harr (by omega)
      subst hvm
      obtain ⟨n, hn⟩ : ∃ n, n = M.length := ⟨_, rfl⟩
      rw [← hn] at hMl hlc ⊢
      have HCELL := Lib.hid hcell
      have HN := Lib.hid hn
      have HBEL := Lib.hid hbel
      have hMl3 : n ≤ 3 * pw := by omega
      have hMl4 : 3 * pw ≤ n := by omega
      clear harr hcell hbel hn hie hMl
      obtain ⟨w0, rfl⟩ : ∃ w0, w0 = wr := ⟨wr, rfl⟩
      go_wp2
      go_loopw [10, 11, 12] (fun tv rv iv wr => ∃ (k : Nat), k ≤ n ∧ iv = .int .i64 ((k : Int) - 1) ∧ tv = .int .u64 (valR (M.drop (max k (2 * pw))) : Nat) ∧ rv = .bool (((M.take (2 * pw)).drop k).any fun d => decide (0 < d)) ∧ wr = w0) (fun _ _ iv _ => (intOf iv + 1).toNat)
      case atStart =>
        refine ⟨n, Nat.le_refl _, rfl, ?_, ?_, rfl⟩
        · rw [List.drop_eq_nil_of_le (by rw [← HN.out]; omega)]; rfl
        · rw [List.drop_eq_nil_of_le (by rw [List.length_take]; omega)]; rfl
      case round =>
        obtain ⟨k, hk, rfl, rfl, rfl, rfl⟩ := hrel
        cases k with
        | zero =>
          have e0 : max 0 (2 * pw) = 2 * pw := by omega
          rw [e0]
          obtain ⟨T, hT⟩ : ∃ T, T = valR (M.drop (2 * pw)) := ⟨_, rfl⟩
          rw [← hT]
          rw [List.drop_zero, any_val]
          obtain ⟨V, hVe⟩ : ∃ V, V = valR (M.take (2 * pw)) := ⟨_, rfl⟩
          rw [← hVe]
          have hvl : V < 65536 ^ (2 * pw) := by
            have := valR_lt (M.take (2 * pw)) (fun y hy => HD.out y (List.mem_of_mem_take hy))
            rw [List.length_take, ← HN.out, Nat.min_eq_left (by omega)] at this
            rw [hVe]; exact this
          have hsum : x ^ pw = V + 65536 ^ (2 * pw) * T := by
            have := valR_app (M.take (2 * pw)) (M.drop (2 * pw))
            rw [List.take_append_drop, List.length_take, ← HN.out, Nat.min_eq_left (by omega)] at this
            rw [← HV.out, this, hVe, hT]
          have hiff := above_dec (p := p) (T := T) hvl
          rw [← hsum] at hiff
          have hTl : T < 281474976710656 := by
            have := valR_lt (M.drop (2 * pw)) (fun y hy => HD.out y (List.mem_of_mem_drop hy))
            rw [List.length_drop, ← HN.out] at this
            have h2 : 65536 ^ (n - 2 * pw) ≤ 65536 ^ 3 := Nat.pow_le_pow_right (by decide) (by omega)
            have h3 : (65536 : Nat) ^ 3 = 281474976710656 := by decide
            rw [hT]; omega
          have HIFF := Lib.hid hiff
          clear hiff hsum hvl hVe hT hk
          by_cases h1 : p < T
          · have t1 : (p : Int) < T := by omega
            have hd : decide (p * 65536 ^ (2 * pw) < x ^ pw) = true := decide_eq_true (HIFF.out.2 (.inl h1))
            have HDD := Lib.hid hd
            clear hd
            go_wp2
            go_ret
            exact ⟨by rw [HDD.out]; rfl, HB1.out.trans (HBEL.out.mono HB1.out.size)⟩
          · by_cases h2 : T = p
            · have t1 : ¬ (p : Int) < T := by omega
              have t2 : ((T : Int) == (p : Int)) = true := by rw [beq_iff_eq]; omega
              have hd : decide (p * 65536 ^ (2 * pw) < x ^ pw) = decide (0 < V) := decide_eq_decide.2 ⟨fun h => by rcases HIFF.out.1 h with h | h; exact absurd h h1; exact h.2, fun h => HIFF.out.2 (.inr ⟨h2, h⟩)⟩
              have HDD := Lib.hid hd
              clear hd
              subst h2
              go_wp2
              go_ret
              refine ⟨?_, HB1.out.trans (HBEL.out.mono HB1.out.size)⟩
              rw [HDD.out]
              first | rfl | simp
            · have t1 : ¬ (p : Int) < T := by omega
              have t2 : ((T : Int) == (p : Int)) = false := by rw [beq_eq_false_iff_ne]; omega
              have hd : decide (p * 65536 ^ (2 * pw) < x ^ pw) = false := decide_eq_false (fun h => by rcases HIFF.out.1 h with h | h; exact absurd h h1; exact absurd h.1 h2)
              have HDD := Lib.hid hd
              clear hd
              go_wp2
              go_ret
              exact ⟨by rw [HDD.out]; rfl, HB1.out.trans (HBEL.out.mono HB1.out.size)⟩
        | succ q =>
          have eq1 : (((q + 1 : Nat) : Int) - 1) = (q : Int) := by omega
          rw [eq1]
          obtain ⟨d, hd⟩ : ∃ d, M[q]? = some d := ⟨M[q]'(by rw [← HN.out]; omega), List.getElem?_eq_getElem _⟩
          have hd6 := HD.out.at hd
          have cd := HCELL.out q d hd
          have h01 : (0 : Int) ≤ q := by omega
          have h02 : (q : Int) < n := by omega
          by_cases hq : 2 * pw ≤ q
          · have e1 : max (q + 1) (2 * pw) = q + 1 := by omega
            have e2 : max q (2 * pw) = q := by omega
            have e3 := val_drop hd
            have e4 : ((M.take (2 * pw)).drop (q + 1)) = [] := List.drop_eq_nil_of_le (by rw [List.length_take]; omega)
            have e5 : ((M.take (2 * pw)).drop q) = [] := List.drop_eq_nil_of_le (by rw [List.length_take]; omega)
            rw [e1, e4]
            obtain ⟨T, hT⟩ : ∃ T, T = valR (M.drop (q + 1)) := ⟨_, rfl⟩
            rw [← hT] at e3 ⊢
            have hTl : T < 4294967296 := by
              have := valR_lt (M.drop (q + 1)) (fun y hy => HD.out y (List.mem_of_mem_drop hy))
              rw [List.length_drop, ← HN.out] at this
              have h2 : 65536 ^ (n - (q + 1)) ≤ 65536 ^ 2 := Nat.pow_le_pow_right (by decide) (by omega)
              have h3 : (65536 : Nat) ^ 2 = 4294967296 := by decide
              rw [hT]; omega
            have HE3 := Lib.hid e3
            have HE5 := Lib.hid e5
            have HE2 := Lib.hid e2
            have h03 : 2 * (pw : Int) ≤ q := by omega
            clear e1 e2 e3 e4 e5 hT hd hk eq1
            go_wp2
            refine ⟨⟨q, by omega, by go_num, ?_, by rw [HE5.out]; try rfl, trivial⟩, by simp [intOf]; try omega⟩
            rw [HE2.out, HE3.out]
            exact congrArg (Value.int .u64) (by omega)
          · have e1 : max (q + 1) (2 * pw) = 2 * pw := by omega
            have e2 : max q (2 * pw) = 2 * pw := by omega
            have ht : (M.take (2 * pw))[q]? = some d := by rw [List.getElem?_take_of_lt (by omega)]; exact hd
            have e3 := drop_any (fun d => decide (0 < d)) ht
            rw [e1]
            obtain ⟨T, hT⟩ : ∃ T, T = valR (M.drop (2 * pw)) := ⟨_, rfl⟩
            obtain ⟨R, hR⟩ : ∃ R, R = ((M.take (2 * pw)).drop (q + 1)).any fun d => decide (0 < d) := ⟨_, rfl⟩
            rw [← hR] at e3 ⊢
            rw [← hT]
            have HE3 := Lib.hid e3
            have HE2 := Lib.hid e2
            have HT := Lib.hid hT
            have h03 : ¬ 2 * (pw : Int) ≤ q := by omega
            clear e1 e2 e3 hT hR hd ht hk eq1
            by_cases hd0 : 0 < d
            · have t1 : (0 : Int) < d := by omega
              go_wp2
              refine ⟨⟨q, by omega, by go_num, by rw [HE2.out, HT.out], by rw [HE3.out]; simp [hd0], trivial⟩, by simp [intOf]; try omega⟩
            · have t1 : ¬ (0 : Int) < d := by omega
              go_wp2
              refine ⟨⟨q, by omega, by go_num, by rw [HE2.out, HT.out], by rw [HE3.out]; simp [hd0], trivial⟩, by simp [intOf]; try omega⟩

set_option maxHeartbeats 1000000 in
set_option maxRecDepth 100000 in
theorem root_any (p pw r : Nat) (w : World) (hpw : 2 ≤ pw ∧ pw ≤ 3) (hp : p < 400) (hr : r < 1099511627776) (h1 : r ^ pw ≤ p * 65536 ^ (2 * pw)) (h2 : p * 65536 ^ (2 * pw) < (r + 1) ^ pw) :
    Calls Tryz.prog 114 #[.int .i64 (p : Int), .int .i64 (pw : Int)] w fun e w' => e = .returned (.int .u32 ((r % 4294967296 : Nat) : Int)) ∧ Below w.heap.size w w' := by
  have hab : ∀ (m : Nat) (wx : World), m ≤ 1099511627776 → Calls Tryz.prog 134 #[.int .u64 (m : Int), .int .i64 (pw : Int), .int .i64 (p : Int)] wx fun e w' => e = .returned (.bool (decide (r < m))) ∧ Below wx.heap.size wx w' := fun m wx hm => by
    have h := above_any m pw p wx hm hpw hp
    rw [decide_eq_decide.2 (root_iff (by omega) h1 h2)] at h
    exact h
  have HAB := Lib.hid hab
  clear hab h1 h2
  obtain ⟨pw2, pw3⟩ := hpw
  go_enter Tryz.func114, Tryz.ntmps114
  go_wp2
  go_loopw [5, 6, 7] (fun lv hv mv wr => ∃ (lo hi : Nat) (y : Value), lv = .int .u64 lo ∧ hv = .int .u64 hi ∧ mv = y ∧ lo ≤ r ∧ r < hi ∧ hi ≤ 1099511627776 ∧ Below w.heap.size w wr) (fun lv hv _ _ => (intOf hv - intOf lv).toNat)
  case atStart => exact ⟨0, 1099511627776, _, rfl, rfl, rfl, Nat.zero_le _, hr, Nat.le_refl _, Below.refl _ _⟩
  case round =>
    obtain ⟨lo, hi, y, rfl, rfl, rfl, hlo, hhi, hle, hbel⟩ := hrel
    have HB := Lib.hid hbel
    have hsz := hbel.size
    have hlh : (lo : Int) ≤ hi := by omega
    have hhi' : (hi : Int) ≤ 1099511627776 := by omega
    clear hbel
    by_cases hgt : hi - lo > 1
    · have t1 : (1 : Int) < (hi : Int) - lo := by omega
      obtain ⟨m, hm⟩ : ∃ m : Nat, ((lo : Int) + hi) / 2 = (m : Int) := ⟨(lo + hi) / 2, by omega⟩
      have hm1 : lo < m := by omega
      have hm2 : m < hi := by omega
      by_cases hrm : r < m
      · have hc := HAB.out m wr (by omega)
        rw [decide_eq_true hrm] at hc
        have HC := Lib.hid hc
        clear hc
        go_wp2_with fail
        with_reducible refine HC.out.mono ?_
        rintro e w2 ⟨rfl, hb2⟩
        have HB2 := Lib.hid (HB.out.trans (hb2.mono hsz))
        clear hb2
        go_wp2
        refine ⟨⟨lo, m, _, rfl, rfl, rfl, hlo, hrm, by omega, HB2.out⟩, by simp [intOf]; omega⟩
      · have hc := HAB.out m wr (by omega)
        rw [decide_eq_false hrm] at hc
        have HC := Lib.hid hc
        clear hc
        go_wp2_with fail
        with_reducible refine HC.out.mono ?_
        rintro e w2 ⟨rfl, hb2⟩
        have HB2 := Lib.hid (HB.out.trans (hb2.mono hsz))
        clear hb2
        go_wp2
        refine ⟨⟨m, hi, _, rfl, rfl, rfl, by omega, hhi, hle, HB2.out⟩, by simp [intOf]; omega⟩
    · have hrl : lo = r := by omega
      have t1 : ¬ (1 : Int) < (hi : Int) - lo := by omega
      have HRL := Lib.hid hrl
      have hv : IntKind.u32.wrap ((lo : Int) % 4294967296) = ((r % 4294967296 : Nat) : Int) := by rw [IntKind.wrap_u32', hrl]; omega
      have HV := Lib.hid hv
      clear hrl hv
      go_wp2
      go_ret
      refine ⟨?_, HB.out⟩
      show Ending.returned (Value.int .u32 _) = _
      refine congrArg (fun x => Ending.returned (Value.int .u32 x)) ?_
      have := HRL.out
      omega
end Go.Proofs.YtgjcblginkdinaaGreatDoor
set_option linter.unusedVariables false
namespace Go.Proofs.YtgjcblginkdinaaGreatDoor
open Go.ChangeShapes Go.WideShapes Go.ChangeAt Go.RowKit

theorem Tryz.infoU32 : (Tryz.prog.info? 122).map (fun i => (i.zero, i.size, i.bytes)) = some (some (.int .u32 0), 1, 4) := by kernel_rfl
def wvs (l : List Wd) : List Value := l.map fun (x : Wd) => Value.int .u32 (nv x)
theorem wvs_len (l : List Wd) : (wvs l).length = l.length := by simp [wvs]
theorem wvs_app (l m : List Wd) : wvs (l ++ m) = wvs l ++ wvs m := by simp [wvs]
theorem wvs_at {l : List Wd} {i : Nat} {x : Wd} (h : l[i]? = some x) : (wvs l)[i]? = some (.int .u32 (nv x)) := by simp [wvs, h]
theorem R2_lt : ∀ i, i < 8 → R2.getD i 0 < 1099511627776 := of_decide_eq_true (by kernel_rfl)
theorem R3_lt : ∀ i, i < 64 → R3.getD i 0 < 1099511627776 := of_decide_eq_true (by kernel_rfl)
theorem PL_getD {i : Nat} (h : i < 64) : PL.getD i 0 < 400 := by
  have hx : PL[i]? = some (PL.getD i 0) := getD_some 0 (by rw [PL_len]; exact h)
  exact (PL_pos _ (List.mem_of_getElem? hx)).2

set_option maxHeartbeats 1000000 in
set_option maxRecDepth 100000 in
theorem table_any (n pw : Nat) (W : List Wd) (w : World) (hn : 0 < n ∧ n ≤ 64) (hpw : 2 ≤ pw ∧ pw ≤ 3) (hW : W.length = n)
    (hR : ∀ i, i < n → ∃ r, r < 1099511627776 ∧ r ^ pw ≤ PL.getD i 0 * 65536 ^ (2 * pw) ∧ PL.getD i 0 * 65536 ^ (2 * pw) < (r + 1) ^ pw ∧ r % 4294967296 = (W.getD i 0).toNat) :
    Calls Tryz.prog 78 #[.int .i64 (n : Int), .int .i64 (pw : Int)] w fun e w' => ∃ v, e = .returned v ∧ Arr w.heap.size w' v (wvs W) ∧ Below w.heap.size w w' := by
  have hpr := primes_any n w hn.2
  have HPR := Lib.hid hpr
  have HR := Lib.hid hR
  have HW := Lib.hid hW
  obtain ⟨n1, n64⟩ := hn
  have HPW := Lib.hid hpw
  clear hpr hR hW hpw
  go_enter Tryz.func78, Tryz.ntmps78
  go_wp2_with fail
  refine HPR.out.mono ?_
  rintro e w1 ⟨vp, rfl, harr, hb1⟩
  obtain ⟨b, cap, hv, hb2, hb3, hb4, hb5, hb6, hb7⟩ := harr.pos (by intro e; have := is_len (PL.take n); rw [e, List.length_take, PL_len] at this; simp at this; omega)
  have hpl : (ivs (PL.take n)).length = n := by rw [is_len, List.length_take, PL_len]; omega
  rw [hpl] at hv
  subst hv
  have HC := Lib.hid hb7
  have HB1 := Lib.hid hb1
  clear harr hb7 hb1 hb2 hb4 hb5 hb6 hpl
  go_wp2
  go_loopw [5, 7] (fun v iv wr => ∃ i : Nat, i ≤ n ∧ iv = .int .i64 i ∧ Arr w1.heap.size wr v (wvs (W.take i)) ∧ Below w1.heap.size w1 wr) (fun _ iv _ => n - (intOf iv).toNat)
  case atStart => exact ⟨0, Nat.zero_le _, rfl, Arr.nil _ _, Below.refl _ _⟩
  case round =>
    obtain ⟨i, hi, rfl, harr, hbel⟩ := hrel
    have hsz := hbel.size
    have hsz1 := HB1.out.size
    obtain ⟨p0, q0, hv⟩ := harr.form
    obtain ⟨N, hN⟩ : ∃ N, N = (wvs (W.take i)).length := ⟨_, rfl⟩
    rw [← hN] at hv
    subst hv
    have hN2 : N ≤ 64 := by rw [hN, wvs_len, List.length_take]; omega
    have HA := Lib.hid harr
    have HB := Lib.hid hbel
    have HN := Lib.hid hN
    by_cases hlt : i < n
    · obtain ⟨r, r1, r2, r3, r4⟩ := HR.out i hlt
      have hroot := fun wx => root_any (PL.getD i 0) pw r wx HPW.out (PL_getD (by omega)) r1 r2 r3
      rw [r4] at hroot
      have hp : PL[i]? = some (PL.getD i 0) := getD_some 0 (by rw [PL_len]; omega)
      have hpt : (PL.take n)[i]? = some (PL.getD i 0) := by rw [List.getElem?_take_of_lt hlt]; exact hp
      have hw : W[i]? = some (W.getD i 0) := getD_some 0 (by rw [HW.out]; exact hlt)
      obtain ⟨x, hx⟩ : ∃ x, x = W.getD i 0 := ⟨_, rfl⟩
      obtain ⟨p, hpe⟩ : ∃ p, p = PL.getD i 0 := ⟨_, rfl⟩
      rw [← hx] at hroot hw
      rw [← hpe] at hroot hpt
      have hroot' : ∀ wx, Calls Tryz.prog 114 #[.int .i64 (p : Int), .int .i64 (pw : Int)] wx fun e w' => e = .returned (.int .u32 (nv x)) ∧ Below wx.heap.size wx w' := hroot
      have cp : wr.cell? ⟨b, i, none⟩ = some (.int .i64 (p : Int)) := (hbel.cell (p := ⟨b, i, none⟩) hb3).trans (HC.out i _ (is_at hpt))
      have h01 : (0 : Int) ≤ i := by omega
      have h02 : (i : Int) < n := by omega
      have HROOT := Lib.hid hroot'
      have HX := Lib.hid hw
      clear hroot hroot' hp hpt hw hx hpe r1 r2 r3 r4 harr hbel hN hi
      obtain ⟨w0, rfl⟩ : ∃ w0, w0 = wr := ⟨wr, rfl⟩
      go_wp2_with fail
      with_reducible refine (HROOT.out _).mono ?_
      rintro e w2 ⟨rfl, hb2⟩
      have HB2 := Lib.hid hb2
      have HA2 := Lib.hid (HA.out.below hb2)
      have hsz2 := hb2.size
      clear hb2
      go_wp2_with (at_builtin; refine wpList_append_arr rfl _ _ 119 rfl 122 (.int .u32 0) 4 Tryz.underlying119 Tryz.infoU32 rfl w1.heap.size (.slice p0 N q0) _ [.int .u32 (nv x)] rfl (HA2.out.alloc _) _ _ _ rfl rfl news_new one1 (Nat.zero_lt_succ _) (by rw [sizeAl]; omega) (by rw [← HN.out]; show _ + 1 ≤ _; omega) (by decide) ?_; rintro v4 w4 harr4 hb4)
      refine ⟨⟨i + 1, hlt, by go_num, by rw [take_snoc HX.out, wvs_app]; exact harr4, ((HB.out.trans (HB2.out.mono hsz)).alloc (by omega) _).trans hb4⟩, by simp [intOf]; omega⟩
    · have hie : i = n := by omega
      have hfull : W.take i = W := by rw [hie, ← HW.out, List.take_length]
      rw [hfull] at HA
      clear hfull hie harr hbel hN
      go_wp2
      go_ret
      exact ⟨_, rfl, HA.out.mono HB1.out.size, HB1.out.trans (HB.out.mono HB1.out.size)⟩
theorem tableH (w : World) : Calls Tryz.prog 78 #[.int .i64 8, .int .i64 2] w fun e w' => ∃ v, e = .returned v ∧ Arr w.heap.size w' v (wvs (stW H0)) ∧ Below w.heap.size w w' :=
  table_any 8 2 (stW H0) w (by omega) (by omega) rfl (fun i hi => ⟨_, R2_lt i hi, (R2_ok i hi).1, (R2_ok i hi).2.1, (R2_ok i hi).2.2⟩)
theorem tableK (w : World) : Calls Tryz.prog 78 #[.int .i64 64, .int .i64 3] w fun e w' => ∃ v, e = .returned v ∧ Arr w.heap.size w' v (wvs KK) ∧ Below w.heap.size w w' :=
  table_any 64 3 KK w (by omega) (by omega) rfl (fun i hi => ⟨_, R3_lt i hi, (R3_ok i hi).1, (R3_ok i hi).2.1, (R3_ok i hi).2.2⟩)
end Go.Proofs.YtgjcblginkdinaaGreatDoor
