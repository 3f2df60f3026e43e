/- The contracts of the document's roots. The contract of the document's table of roots: the chapter's H and K. The document's Sum: the rounds over one block. -/
import Derived.Deep.RegionHeld3
import Derived.StillTailTactics
import Derived.Test.YtgjcblginkdinaaGreatDoorV1
import Derived.Test.YtgjcblginkdinaaGreatDoorV13
import Derived.Test.YtgjcblginkdinaaGreatDoorV37
set_option linter.unusedVariables false
namespace Go.Proofs.YtgjcblginkdinaaGreatDoor
open Go.ChangeShapes Go.WideShapes Go.ChangeAt Go.RowKit

def limbL (x : Nat) : List Nat := [x % 65536, x / 65536 % 65536, x / 4294967296]
theorem limb_len (x : Nat) : (limbL x).length = 3 := rfl
theorem limb_val (x : Nat) : valR (limbL x) = x := by simp only [limbL, valR]; omega
theorem limb_dig (x : Nat) (h : x < 281474976710656) : Dig (limbL x) := by
  intro y hy
  simp only [limbL, List.mem_cons, List.not_mem_nil, or_false] at hy
  rcases hy with rfl | rfl | rfl <;> omega

set_option maxHeartbeats 1000000 in
theorem limbs_any (x : Nat) (w : World) (hx : x ≤ 1099511627776) :
    Calls Tryz.prog 152 #[.int .u64 (x : Int)] w fun e w' => ∃ v, e = .returned v ∧ Arr w.heap.size w' v (uvs (limbL x)) ∧ Below w.heap.size w w' := by
  go_enter Tryz.func152, Tryz.ntmps152
  go_wp2
  go_ret
  refine ⟨_, rfl, ?_, (Below.refl _ _).alloc (Nat.le_refl _) _⟩
  exact arr_new (cs := uvs (limbL x)) (cap := 3) (xs := (uvs (limbL x)).toArray) (fr := (0, 0)) (Nat.le_refl _) (Nat.le_refl _) (by decide) rfl (.inl rfl) (fun j u hu => by simpa using hu)

theorem any_val : ∀ (l : List Nat), (l.any fun d => decide (0 < d)) = decide (0 < valR l)
  | [] => rfl
  | x :: l => by
    rw [List.any_cons, any_val l, valR]
    by_cases h : 0 < x
    · simp [h]; omega
    · have : x = 0 := by omega
      subst this
      by_cases h2 : 0 < valR l
      · simp [h2]
      · have : valR l = 0 := by omega
        simp [this]
theorem above_dec {p Q V T : Nat} (hV : V < Q) : p * Q < V + Q * T ↔ p < T ∨ (T = p ∧ 0 < V) := by
  rw [Nat.mul_comm p Q]
  rcases Nat.lt_trichotomy p T with h | h | h
  · have := Nat.mul_le_mul_left Q (show p + 1 ≤ T from h)
    rw [Nat.mul_add] at this
    exact ⟨fun _ => .inl h, fun _ => by omega⟩
  · subst h
    exact ⟨fun h => .inr ⟨rfl, by omega⟩, fun h => by omega⟩
  · have := Nat.mul_le_mul_left Q (show T + 1 ≤ p from h)
    rw [Nat.mul_add] at this
    exact ⟨fun h => by omega, fun h => by omega⟩
theorem drop_any {l : List Nat} {q d : Nat} (f : Nat → Bool) (h : l[q]? = some d) : (l.drop q).any f = (f d || (l.drop (q + 1)).any f) := by
  have hk : q < l.length := (List.getElem?_eq_some_iff.1 h).1
  rw [List.drop_eq_getElem_cons hk, List.any_cons]
  rw [List.getElem?_eq_getElem hk] at h
  rw [Option.some.inj h]

set_option maxHeartbeats 1000000 in
set_option maxRecDepth 100000 in
theorem above_any (x pw p : Nat) (w : World) (hx : x ≤ 1099511627776) (hpw : 2 ≤ pw ∧ pw ≤ 3) (hp : p < 400) :
    Calls Tryz.prog 134 #[.int .u64 (x : Int), .int .i64 (pw : Int), .int .i64 (p : Int)] w fun e w' => e = .returned (.bool (decide (p * 65536 ^ (2 * pw) < x ^ pw))) ∧ Below w.heap.size w w' := by
  obtain ⟨pw2, pw3⟩ := hpw
  have hlb := limbs_any x w hx
  have HLB := Lib.hid hlb
  have hdl := limb_dig x (by omega)
  have HDL := Lib.hid hdl
  clear hlb hdl
  go_enter Tryz.func134, Tryz.ntmps134
  go_wp2_with fail
  refine HLB.out.mono ?_
  rintro e w1 ⟨vl, rfl, harrl, hb1⟩
  obtain ⟨bl, cl, hvl, -⟩ := arr_u harrl (by rw [limb_len]; omega)
  rw [limb_len] at hvl
  subst hvl
  have HL := Lib.hid harrl
  have HB1 := Lib.hid hb1
  clear harrl hb1
  go_wp2
  go_loopw [8, 9] (fun mv iv wr => ∃ (i : Nat) (M : List Nat), 1 ≤ i ∧ i ≤ pw ∧ iv = .int .i64 i ∧ Arr w.heap.size wr mv (uvs M) ∧ M.length = 3 * i ∧ Hid (Dig M) ∧ Hid (valR M = x ^ i) ∧ Below w1.heap.size w1 wr) (fun _ iv _ => pw - (intOf iv).toNat)
  case atStart => exact ⟨1, limbL x, by omega, by omega, rfl, HL.out, rfl, HDL, Lib.hid (by rw [limb_val, Nat.pow_one]), Below.refl _ _⟩
  case round =>
    obtain ⟨i, M, hi1, hi, rfl, harr, hMl, HD, HV, hbel⟩ := hrel
    have hsz := hbel.size
    by_cases hlt : i < pw
    · have hc := times_any M (limbL x) _ _ w.heap.size w.heap.size wr harr (HL.out.below hbel) HD.out HDL.out (by omega) (by rw [limb_len]; omega)
      obtain ⟨bm, cm, hvm, -⟩ := arr_u harr (by omega)
      obtain ⟨mn, hmn⟩ : ∃ n, n = M.length := ⟨_, rfl⟩
      rw [← hmn] at hvm hMl
      subst hvm
      have hmn9 : mn ≤ 9 := by omega
      have hm3a : mn ≤ 3 * i := by omega
      have hm3b : 3 * i ≤ mn := by omega
      have HMN := Lib.hid hmn
      clear hmn hMl
      have HC := Lib.hid hc
      have HBEL := Lib.hid hbel
      clear hc harr hbel
      go_wp2_with fail
      refine HC.out.mono ?_
      rintro e w2 ⟨v, C, rfl, harr2, hlen, hD, hval, hb2⟩
      have HA2 := Lib.hid harr2
      have HV2 := Lib.hid hval
      have HD2 := Lib.hid hD
      have HB2 := Lib.hid hb2
      clear harr2 hval hD hb2
      go_wp2
      refine ⟨⟨i + 1, C, by omega, hlt, by go_num, HA2.out.mono (Nat.le_trans HB1.out.size hsz), by have := HMN.out; rw [hlen, limb_len]; omega, HD2, Lib.hid (by rw [HV2.out, HV.out, limb_val, Nat.pow_succ]), HBEL.out.trans (HB2.out.mono hsz)⟩, by simp [intOf]; omega⟩
    · have hie : i = pw := by omega
      rw [hie] at hMl HV
      obtain ⟨bm, cm, hvm, hbm, hlc, hcm, hbw, hcell⟩ := arr_u harr (by omega)
      subst hvm
      obtain ⟨n, hn⟩ : ∃ n, n = M.length := ⟨_, rfl⟩
      rw [← hn] at hMl hlc ⊢
      have HCELL := Lib.hid hcell
      have HN := Lib.hid hn
      have HBEL := Lib.hid hbel
      have hMl3 : n ≤ 3 * pw := by omega
      have hMl4 : 3 * pw ≤ n := by omega
      clear harr hcell hbel hn hie hMl
      obtain ⟨w0, rfl⟩ : ∃ w0, w0 = wr := ⟨wr, rfl⟩
      go_wp2
      go_loopw [10, 11, 12] (fun tv rv iv wr => ∃ (k : Nat), k ≤ n ∧ iv = .int .i64 ((k : Int) - 1) ∧ tv = .int .u64 (valR (M.drop (max k (2 * pw))) : Nat) ∧ rv = .bool (((M.take (2 * pw)).drop k).any fun d => decide (0 < d)) ∧ wr = w0) (fun _ _ iv _ => (intOf iv + 1).toNat)
      case atStart =>
        refine ⟨n, Nat.le_refl _, rfl, ?_, ?_, rfl⟩
        · rw [List.drop_eq_nil_of_le (by rw [← HN.out]; omega)]; rfl
        · rw [List.drop_eq_nil_of_le (by rw [List.length_take]; omega)]; rfl
      case round =>
        obtain ⟨k, hk, rfl, rfl, rfl, rfl⟩ := hrel
        cases k with
        | zero =>
          have e0 : max 0 (2 * pw) = 2 * pw := by omega
          rw [e0]
          obtain ⟨T, hT⟩ : ∃ T, T = valR (M.drop (2 * pw)) := ⟨_, rfl⟩
          rw [← hT]
          rw [List.drop_zero, any_val]
          obtain ⟨V, hVe⟩ : ∃ V, V = valR (M.take (2 * pw)) := ⟨_, rfl⟩
          rw [← hVe]
          have hvl : V < 65536 ^ (2 * pw) := by
            have := valR_lt (M.take (2 * pw)) (fun y hy => HD.out y (List.mem_of_mem_take hy))
            rw [List.length_take, ← HN.out, Nat.min_eq_left (by omega)] at this
            rw [hVe]; exact this
          have hsum : x ^ pw = V + 65536 ^ (2 * pw) * T := by
            have := valR_app (M.take (2 * pw)) (M.drop (2 * pw))
            rw [List.take_append_drop, List.length_take, ← HN.out, Nat.min_eq_left (by omega)] at this
            rw [← HV.out, this, hVe, hT]
          have hiff := above_dec (p := p) (T := T) hvl
          rw [← hsum] at hiff
          have hTl : T < 281474976710656 := by
            have := valR_lt (M.drop (2 * pw)) (fun y hy => HD.out y (List.mem_of_mem_drop hy))
            rw [List.length_drop, ← HN.out] at this
            have h2 : 65536 ^ (n - 2 * pw) ≤ 65536 ^ 3 := Nat.pow_le_pow_right (by decide) (by omega)
            have h3 : (65536 : Nat) ^ 3 = 281474976710656 := by decide
            rw [hT]; omega
          have HIFF := Lib.hid hiff
          clear hiff hsum hvl hVe hT hk
          by_cases h1 : p < T
          · have t1 : (p : Int) < T := by omega
            have hd : decide (p * 65536 ^ (2 * pw) < x ^ pw) = true := decide_eq_true (HIFF.out.2 (.inl h1))
            have HDD := Lib.hid hd
            clear hd
            go_wp2
            go_ret
            exact ⟨by rw [HDD.out]; rfl, HB1.out.trans (HBEL.out.mono HB1.out.size)⟩
          · by_cases h2 : T = p
            · have t1 : ¬ (p : Int) < T := by omega
              have t2 : ((T : Int) == (p : Int)) = true := by rw [beq_iff_eq]; omega
              have hd : decide (p * 65536 ^ (2 * pw) < x ^ pw) = decide (0 < V) := decide_eq_decide.2 ⟨fun h => by rcases HIFF.out.1 h with h | h; exact absurd h h1; exact h.2, fun h => HIFF.out.2 (.inr ⟨h2, h⟩)⟩
              have HDD := Lib.hid hd
              clear hd
              subst h2
              go_wp2
              go_ret
              refine ⟨?_, HB1.out.trans (HBEL.out.mono HB1.out.size)⟩
              rw [HDD.out]
              first | rfl | simp
            · have t1 : ¬ (p : Int) < T := by omega
              have t2 : ((T : Int) == (p : Int)) = false := by rw [beq_eq_false_iff_ne]; omega
              have hd : decide (p * 65536 ^ (2 * pw) < x ^ pw) = false := decide_eq_false (fun h => by rcases HIFF.out.1 h with h | h; exact absurd h h1; exact absurd h.1 h2)
              have HDD := Lib.hid hd
              clear hd
              go_wp2
              go_ret
              exact ⟨by rw [HDD.out]; rfl, HB1.out.trans (HBEL.out.mono HB1.out.size)⟩
        | succ q =>
          have eq1 : (((q + 1 : Nat) : Int) - 1) = (q : Int) := by omega
          rw [eq1]
          obtain ⟨d, hd⟩ : ∃ d, M[q]? = some d := ⟨M[q]'(by rw [← HN.out]; omega), List.getElem?_eq_getElem _⟩
          have hd6 := HD.out.at hd
          have cd := HCELL.out q d hd
          have h01 : (0 : Int) ≤ q := by omega
          have h02 : (q : Int) < n := by omega
          by_cases hq : 2 * pw ≤ q
          · have e1 : max (q + 1) (2 * pw) = q + 1 := by omega
            have e2 : max q (2 * pw) = q := by omega
            have e3 := val_drop hd
            have e4 : ((M.take (2 * pw)).drop (q + 1)) = [] := List.drop_eq_nil_of_le (by rw [List.length_take]; omega)
            have e5 : ((M.take (2 * pw)).drop q) = [] := List.drop_eq_nil_of_le (by rw [List.length_take]; omega)
            rw [e1, e4]
            obtain ⟨T, hT⟩ : ∃ T, T = valR (M.drop (q + 1)) := ⟨_, rfl⟩
            rw [← hT] at e3 ⊢
            have hTl : T < 4294967296 := by
              have := valR_lt (M.drop (q + 1)) (fun y hy => HD.out y (List.mem_of_mem_drop hy))
              rw [List.length_drop, ← HN.out] at this
              have h2 : 65536 ^ (n - (q + 1)) ≤ 65536 ^ 2 := Nat.pow_le_pow_right (by decide) (by omega)
              have h3 : (65536 : Nat) ^ 2 = 4294967296 := by decide
              rw [hT]; omega
            have HE3 := Lib.hid e3
            have HE5 := Lib.hid e5
            have HE2 := Lib.hid e2
            have h03 : 2 * (pw : Int) ≤ q := by omega
            clear e1 e2 e3 e4 e5 hT hd hk eq1
            go_wp2
            refine ⟨⟨q, by omega, by go_num, ?_, by rw [HE5.out]; try rfl, trivial⟩, by simp [intOf]; try omega⟩
            rw [HE2.out, HE3.out]
            exact congrArg (Value.int .u64) (by omega)
          · have e1 : max (q + 1) (2 * pw) = 2 * pw := by omega
            have e2 : max q (2 * pw) = 2 * pw := by omega
            have ht : (M.take (2 * pw))[q]? = some d := by rw [List.getElem?_take_of_lt (by omega)]; exact hd
            have e3 := drop_any (fun d => decide (0 < d)) ht
            rw [e1]
            obtain ⟨T, hT⟩ : ∃ T, T = valR (M.drop (2 * pw)) := ⟨_, rfl⟩
            obtain ⟨R, hR⟩ : ∃ R, R = ((M.take (2 * pw)).drop (q + 1)).any fun d => decide (0 < d) := ⟨_, rfl⟩
            rw [← hR] at e3 ⊢
            rw [← hT]
            have HE3 := Lib.hid e3
            have HE2 := Lib.hid e2
            have HT := Lib.hid hT
            have h03 : ¬ 2 * (pw : Int) ≤ q := by omega
            clear e1 e2 e3 hT hR hd ht hk eq1
            by_cases hd0 : 0 < d
            · have t1 : (0 : Int) < d := by omega
              go_wp2
              refine ⟨⟨q, by omega, by go_num, by rw [HE2.out, HT.out], by rw [HE3.out]; simp [hd0], trivial⟩, by simp [intOf]; try omega⟩
            · have t1 : ¬ (0 : Int) < d := by omega
              go_wp2
              refine ⟨⟨q, by omega, by go_num, by rw [HE2.out, HT.out], by rw [HE3.out]; simp [hd0], trivial⟩, by simp [intOf]; try omega⟩

set_option maxHeartbeats 1000000 in
set_option maxRecDepth 100000 in
theorem root_any (p pw r : Nat) (w : World) (hpw : 2 ≤ pw ∧ pw ≤ 3) (hp : p < 400) (hr : r < 1099511627776) (h1 : r ^ pw ≤ p * 65536 ^ (2 * pw)) (h2 : p * 65536 ^ (2 * pw) < (r + 1) ^ pw) :
    Calls Tryz.prog 114 #[.int .i64 (p : Int), .int .i64 (pw : Int)] w fun e w' => e = .returned (.int .u32 ((r % 4294967296 : Nat) : Int)) ∧ Below w.heap.size w w' := by
  have hab : ∀ (m : Nat) (wx : World), m ≤ 1099511627776 → Calls Tryz.prog 134 #[.int .u64 (m : Int), .int .i64 (pw : Int), .int .i64 (p : Int)] wx fun e w' => e = .returned (.bool (decide (r < m))) ∧ Below wx.heap.size wx w' := fun m wx hm => by
    have h := above_any m pw p wx hm hpw hp
    rw [decide_eq_decide.2 (root_iff (by omega) h1 h2)] at h
    exact h
  have HAB := Lib.hid hab
  clear hab h1 h2
  obtain ⟨pw2, pw3⟩ := hpw
  go_enter Tryz.func114, Tryz.ntmps114
  go_wp2
  go_loopw [5, 6, 7] (fun lv hv mv wr => ∃ (lo hi : Nat) (y : Value), lv = .int .u64 lo ∧ hv = .int .u64 hi ∧ mv = y ∧ lo ≤ r ∧ r < hi ∧ hi ≤ 1099511627776 ∧ Below w.heap.size w wr) (fun lv hv _ _ => (intOf hv - intOf lv).toNat)
  case atStart => exact ⟨0, 1099511627776, _, rfl, rfl, rfl, Nat.zero_le _, hr, Nat.le_refl _, Below.refl _ _⟩
  case round =>
    obtain ⟨lo, hi, y, rfl, rfl, rfl, hlo, hhi, hle, hbel⟩ := hrel
    have HB := Lib.hid hbel
    have hsz := hbel.size
    have hlh : (lo : Int) ≤ hi := by omega
    have hhi' : (hi : Int) ≤ 1099511627776 := by omega
    clear hbel
    by_cases hgt : hi - lo > 1
    · have t1 : (1 : Int) < (hi : Int) - lo := by omega
      obtain ⟨m, hm⟩ : ∃ m : Nat, ((lo : Int) + hi) / 2 = (m : Int) := ⟨(lo + hi) / 2, by omega⟩
      have hm1 : lo < m := by omega
      have hm2 : m < hi := by omega
      by_cases hrm : r < m
      · have hc := HAB.out m wr (by omega)
        rw [decide_eq_true hrm] at hc
        have HC := Lib.hid hc
        clear hc
        go_wp2_with fail
        with_reducible refine HC.out.mono ?_
        rintro e w2 ⟨rfl, hb2⟩
        have HB2 := Lib.hid (HB.out.trans (hb2.mono hsz))
        clear hb2
        go_wp2
        refine ⟨⟨lo, m, _, rfl, rfl, rfl, hlo, hrm, by omega, HB2.out⟩, by simp [intOf]; omega⟩
      · have hc := HAB.out m wr (by omega)
        rw [decide_eq_false hrm] at hc
        have HC := Lib.hid hc
        clear hc
        go_wp2_with fail
        with_reducible refine HC.out.mono ?_
        rintro e w2 ⟨rfl, hb2⟩
        have HB2 := Lib.hid (HB.out.trans (hb2.mono hsz))
        clear hb2
        go_wp2
        refine ⟨⟨m, hi, _, rfl, rfl, rfl, by omega, hhi, hle, HB2.out⟩, by simp [intOf]; omega⟩
    · have hrl : lo = r := by omega
      have t1 : ¬ (1 : Int) < (hi : Int) - lo := by omega
      have HRL := Lib.hid hrl
      have hv : IntKind.u32.wrap ((lo : Int) % 4294967296) = ((r % 4294967296 : Nat) : Int) := by rw [IntKind.wrap_u32', hrl]; omega
      have HV := Lib.hid hv
      clear hrl hv
      go_wp2
      go_ret
      refine ⟨?_, HB.out⟩
      show Ending.returned (Value.int .u32 _) = _
      refine congrArg (fun x => Ending.returned (Value.int .u32 x)) ?_
      have := HRL.out
      omega
end Go.Proofs.YtgjcblginkdinaaGreatDoor
set_option linter.unusedVariables false
namespace Go.Proofs.YtgjcblginkdinaaGreatDoor
open Go.ChangeShapes Go.WideShapes Go.ChangeAt Go.RowKit

theorem Tryz.infoU32 : (Tryz.prog.info? 122).map (fun i => (i.zero, i.size, i.bytes)) = some (some (.int .u32 0), 1, 4) := by kernel_rfl
def wvs (l : List Wd) : List Value := l.map fun (x : Wd) => Value.int .u32 (nv x)
theorem wvs_len (l : List Wd) : (wvs l).length = l.length := by simp [wvs]
theorem wvs_app (l m : List Wd) : wvs (l ++ m) = wvs l ++ wvs m := by simp [wvs]
theorem wvs_at {l : List Wd} {i : Nat} {x : Wd} (h : l[i]? = some x) : (wvs l)[i]? = some (.int .u32 (nv x)) := by simp [wvs, h]
theorem R2_lt : ∀ i, i < 8 → R2.getD i 0 < 1099511627776 := of_decide_eq_true (by kernel_rfl)
theorem R3_lt : ∀ i, i < 64 → R3.getD i 0 < 1099511627776 := of_decide_eq_true (by kernel_rfl)
theorem PL_getD {i : Nat} (h : i < 64) : PL.getD i 0 < 400 := by
  have hx : PL[i]? = some (PL.getD i 0) := getD_some 0 (by rw [PL_len]; exact h)
  exact (PL_pos _ (List.mem_of_getElem? hx)).2

set_option maxHeartbeats 1000000 in
set_option maxRecDepth 100000 in
theorem table_any (n pw : Nat) (W : List Wd) (w : World) (hn : 0 < n ∧ n ≤ 64) (hpw : 2 ≤ pw ∧ pw ≤ 3) (hW : W.length = n)
    (hR : ∀ i, i < n → ∃ r, r < 1099511627776 ∧ r ^ pw ≤ PL.getD i 0 * 65536 ^ (2 * pw) ∧ PL.getD i 0 * 65536 ^ (2 * pw) < (r + 1) ^ pw ∧ r % 4294967296 = (W.getD i 0).toNat) :
    Calls Tryz.prog 78 #[.int .i64 (n : Int), .int .i64 (pw : Int)] w fun e w' => ∃ v, e = .returned v ∧ Arr w.heap.size w' v (wvs W) ∧ Below w.heap.size w w' := by
  have hpr := primes_any n w hn.2
  have HPR := Lib.hid hpr
  have HR := Lib.hid hR
  have HW := Lib.hid hW
  obtain ⟨n1, n64⟩ := hn
  have HPW := Lib.hid hpw
  clear hpr hR hW hpw
  go_enter Tryz.func78, Tryz.ntmps78
  go_wp2_with fail
  refine HPR.out.mono ?_
  rintro e w1 ⟨vp, rfl, harr, hb1⟩
  obtain ⟨b, cap, hv, hb2, hb3, hb4, hb5, hb6, hb7⟩ := harr.pos (by intro e; have := is_len (PL.take n); rw [e, List.length_take, PL_len] at this; simp at this; omega)
  have hpl : (ivs (PL.take n)).length = n := by rw [is_len, List.length_take, PL_len]; omega
  rw [hpl] at hv
  subst hv
  have HC := Lib.hid hb7
  have HB1 := Lib.hid hb1
  clear harr hb7 hb1 hb2 hb4 hb5 hb6 hpl
  go_wp2
  go_loopw [5, 7] (fun v iv wr => ∃ i : Nat, i ≤ n ∧ iv = .int .i64 i ∧ Arr w1.heap.size wr v (wvs (W.take i)) ∧ Below w1.heap.size w1 wr) (fun _ iv _ => n - (intOf iv).toNat)
  case atStart => exact ⟨0, Nat.zero_le _, rfl, Arr.nil _ _, Below.refl _ _⟩
  case round =>
    obtain ⟨i, hi, rfl, harr, hbel⟩ := hrel
    have hsz := hbel.size
    have hsz1 := HB1.out.size
    obtain ⟨p0, q0, hv⟩ := harr.form
    obtain ⟨N, hN⟩ : ∃ N, N = (wvs (W.take i)).length := ⟨_, rfl⟩
    rw [← hN] at hv
    subst hv
    have hN2 : N ≤ 64 := by rw [hN, wvs_len, List.length_take]; omega
    have HA := Lib.hid harr
    have HB := Lib.hid hbel
    have HN := Lib.hid hN
    by_cases hlt : i < n
    · obtain ⟨r, r1, r2, r3, r4⟩ := HR.out i hlt
      have hroot := fun wx => root_any (PL.getD i 0) pw r wx HPW.out (PL_getD (by omega)) r1 r2 r3
      rw [r4] at hroot
      have hp : PL[i]? = some (PL.getD i 0) := getD_some 0 (by rw [PL_len]; omega)
      have hpt : (PL.take n)[i]? = some (PL.getD i 0) := by rw [List.getElem?_take_of_lt hlt]; exact hp
      have hw : W[i]? = some (W.getD i 0) := getD_some 0 (by rw [HW.out]; exact hlt)
      obtain ⟨x, hx⟩ : ∃ x, x = W.getD i 0 := ⟨_, rfl⟩
      obtain ⟨p, hpe⟩ : ∃ p, p = PL.getD i 0 := ⟨_, rfl⟩
      rw [← hx] at hroot hw
      rw [← hpe] at hroot hpt
      have hroot' : ∀ wx, Calls Tryz.prog 114 #[.int .i64 (p : Int), .int .i64 (pw : Int)] wx fun e w' => e = .returned (.int .u32 (nv x)) ∧ Below wx.heap.size wx w' := hroot
      have cp : wr.cell? ⟨b, i, none⟩ = some (.int .i64 (p : Int)) := (hbel.cell (p := ⟨b, i, none⟩) hb3).trans (HC.out i _ (is_at hpt))
      have h01 : (0 : Int) ≤ i := by omega
      have h02 : (i : Int) < n := by omega
      have HROOT := Lib.hid hroot'
      have HX := Lib.hid hw
      clear hroot hroot' hp hpt hw hx hpe r1 r2 r3 r4 harr hbel hN hi
      obtain ⟨w0, rfl⟩ : ∃ w0, w0 = wr := ⟨wr, rfl⟩
      go_wp2_with fail
      with_reducible refine (HROOT.out _).mono ?_
      rintro e w2 ⟨rfl, hb2⟩
      have HB2 := Lib.hid hb2
      have HA2 := Lib.hid (HA.out.below hb2)
      have hsz2 := hb2.size
      clear hb2
      go_wp2_with (at_builtin; refine wpList_append_arr rfl _ _ 119 rfl 122 (.int .u32 0) 4 Tryz.underlying119 Tryz.infoU32 rfl w1.heap.size (.slice p0 N q0) _ [.int .u32 (nv x)] rfl (HA2.out.alloc _) _ _ _ rfl rfl news_new one1 (Nat.zero_lt_succ _) (by rw [sizeAl]; omega) (by rw [← HN.out]; show _ + 1 ≤ _; omega) (by decide) ?_; rintro v4 w4 harr4 hb4)
      refine ⟨⟨i + 1, hlt, by go_num, by rw [take_snoc HX.out, wvs_app]; exact harr4, ((HB.out.trans (HB2.out.mono hsz)).alloc (by omega) _).trans hb4⟩, by simp [intOf]; omega⟩
    · have hie : i = n := by omega
      have hfull : W.take i = W := by rw [hie, ← HW.out, List.take_length]
      rw [hfull] at HA
      clear hfull hie harr hbel hN
      go_wp2
      go_ret
      exact ⟨_, rfl, HA.out.mono HB1.out.size, HB1.out.trans (HB.out.mono HB1.out.size)⟩
theorem tableH (w : World) : Calls Tryz.prog 78 #[.int .i64 8, .int .i64 2] w fun e w' => ∃ v, e = .returned v ∧ Arr w.heap.size w' v (wvs (stW H0)) ∧ Below w.heap.size w w' :=
  table_any 8 2 (stW H0) w (by omega) (by omega) rfl (fun i hi => ⟨_, R2_lt i hi, (R2_ok i hi).1, (R2_ok i hi).2.1, (R2_ok i hi).2.2⟩)
theorem tableK (w : World) : Calls Tryz.prog 78 #[.int .i64 64, .int .i64 3] w fun e w' => ∃ v, e = .returned v ∧ Arr w.heap.size w' v (wvs KK) ∧ Below w.heap.size w w' :=
  table_any 64 3 KK w (by omega) (by omega) rfl (fun i hi => ⟨_, R3_lt i hi, (R3_ok i hi).1, (R3_ok i hi).2.1, (R3_ok i hi).2.2⟩)
end Go.Proofs.YtgjcblginkdinaaGreatDoor
set_option linter.unusedVariables false
namespace Go.Proofs.YtgjcblginkdinaaGreatDoor
open Go.ChangeShapes Go.WideShapes Go.ChangeAt Go.RowKit

attribute [local go_sem] bv_u8 wd_add wd_xor wd_and wd_or wd_ofByte wd_shl24 wd_shl16 wd_shl8 wd_shr3 wd_shr10

def mixd (l m : List Wd) (i : Nat) : List Wd := (List.zipWith (· + ·) l m).take i ++ l.drop i
theorem mixd_len (l m : List Wd) {i : Nat} (hl : l.length = 8) (hm : m.length = 8) : (mixd l m i).length = 8 := by
  rw [mixd, List.length_append, List.length_take, List.length_zipWith, List.length_drop, hl, hm]; omega
theorem mixd_at (l m : List Wd) {i : Nat} (hl : l.length = 8) (hm : m.length = 8) (hi : i < 8) : (mixd l m i)[i]? = l[i]? := by
  have hz : ((List.zipWith (· + ·) l m).take i).length = i := by rw [List.length_take, List.length_zipWith, hl, hm]; omega
  rw [mixd, List.getElem?_append_right (by omega), hz, Nat.sub_self, List.getElem?_drop]; rfl
theorem mixd_set (l m : List Wd) {i : Nat} {x y : Wd} (hl : l.length = 8) (hm : m.length = 8) (hx : l[i]? = some x) (hy : m[i]? = some y) : (mixd l m i).set i (x + y) = mixd l m (i + 1) := by
  have hi : i < l.length := (List.getElem?_eq_some_iff.1 hx).1
  have hz : ((List.zipWith (· + ·) l m).take i).length = i := by rw [List.length_take, List.length_zipWith, hl, hm]; omega
  have hzi : (List.zipWith (· + ·) l m)[i]? = some (x + y) := by rw [List.getElem?_zipWith, hx, hy]
  rw [mixd, List.set_append_right _ _ (by omega), hz, Nat.sub_self, List.drop_eq_getElem_cons hi, List.set_cons_zero, mixd, take_snoc hzi, List.append_assoc]; rfl
theorem wvs_set (l : List Wd) (i : Nat) (x : Wd) : wvs (l.set i x) = (wvs l).set i (.int .u32 (nv x)) := by simp [wvs, List.map_set]
theorem endL_pos (L : List UInt8) (n : Nat) : 1 ≤ (endL L n).length := by
  simp only [endL, List.length_append, List.length_cons, List.length_nil, List.length_replicate, bitsB_len]
  omega
theorem wd_not (x : Wd) : bits .xor .u32 4294967295 (nv x) = nv (~~~x) := by
  have e : (4294967295 : Int) = nv (BitVec.allOnes 32) := rfl
  rw [e, wd_xor, BitVec.allOnes_xor]
attribute [local go_sem] wd_not wd_byte wd_shr24 wd_shr16 wd_shr8
def Keep (b : Nat) (w w' : World) : Prop := w.heap.size ≤ w'.heap.size ∧ ∀ k, k < w.heap.size → k ≠ b → w'.heap[k]? = w.heap[k]?
theorem Keep.cell {b : Nat} {w w' : World} (h : Keep b w w') {k j : Nat} (hk : k < w.heap.size) (hb : k ≠ b) : w'.cell? ⟨k, j, none⟩ = w.cell? ⟨k, j, none⟩ := World.cell?_of_block (h.2 k hk hb)
theorem Keep.refl (b : Nat) (w : World) : Keep b w w := ⟨Nat.le_refl _, fun _ _ _ => rfl⟩
theorem Keep.below {b : Nat} {w w' w'' : World} (h : Keep b w w') (hb : Below w'.heap.size w' w'') : Keep b w w'' :=
  ⟨Nat.le_trans h.1 hb.size, fun k hk hn => (hb.block k (Nat.lt_of_lt_of_le hk h.1)).trans (h.2 k hk hn)⟩

theorem Keep.trans {b : Nat} {w w' w'' : World} (h : Keep b w w') (k : Keep b w' w'') : Keep b w w'' :=
  ⟨Nat.le_trans h.1 k.1, fun i hi hn => (k.2 i (Nat.lt_of_lt_of_le hi h.1) hn).trans (h.2 i hi hn)⟩
theorem Below.same' {B : Nat} {a w w' : World} (h : Below B a w) (h1 : w'.heap = w.heap) (h2 : w'.os = w.os) (h3 : w'.tape = w.tape) (h4 : w'.output = w.output) : Below B a w' :=
  ⟨h2.trans h.os, h3.trans h.tape, h4.trans h.output, by rw [h1]; exact h.size, fun k hk => by rw [h1]; exact h.block k hk⟩
theorem bys_at {l : List UInt8} {k : Nat} {x : UInt8} (h : l[k]? = some x) : (bys l)[k]? = some (.int .u8 (bv x)) := by simp [bys, h]
theorem bk_at {E : List UInt8} {a k : Nat} {x : UInt8} (hk : k < 64) (h : E[a + k]? = some x) : ((E.drop a).take 64).getD k 0 = x := by
  rw [List.getD_eq_getElem?_getD, List.getElem?_take_of_lt hk, List.getElem?_drop, h]; rfl

theorem Keep.setCell {b : Nat} {w w' : World} (h : Keep b w w') (i : Nat) (v : Value) : Keep b w (w'.setCell ⟨b, i, none⟩ v) :=
  ⟨by simpa [World.setCell] using h.1, fun k hk hn => (Below.heap_setCell w' ⟨b, i, none⟩ v k hn).trans (h.2 k hk hn)⟩
theorem Keep.drew {b : Nat} {w w' : World} (h : Keep b w w') : Keep b w w'.drew := h

def loops : Code → List Code
  | .loop c => c :: loops c
  | .seq a b => loops a ++ loops b
  | .block _ c => loops c
  | .scope c => loops c
  | .cond _ a b => loops a ++ loops b
  | _ => []
noncomputable def bodyR : Code := ((Tryz.f37.body.map loops).getD []).getD 4 .skip

set_option maxHeartbeats 2000000 in
set_option maxRecDepth 1000000 in
theorem rounds {B : Nat} (S : St) (Wl : List Wd) (bk ck wb : Nat) (v8 : Value) (w8 : World) (Q0 : Exit → Act → World → Prop)
    (HV8 : Hid (Arr B w8 v8 (wvs (stW S)))) (hB : B ≤ w8.heap.size)
    (HKC : Hid (∀ t, t < 64 → w8.cell? ⟨bk, t, none⟩ = some (.int .u32 (nv (KK.getD t 0)))))
    (HWC : Hid (∀ t, t < 64 → w8.cell? ⟨wb, t, none⟩ = some (.int .u32 (nv (Wl.getD t 0)))))
    (hbk : bk < w8.heap.size) (hwb : wb < w8.heap.size)
    (c0 c1 c2 c3 c5 c6 c7 c8 c10 c11 c12 c13 c16 c17 c18 c19 c20 c21 c22 c23 c24 c25 c26 c27 c28 c29 c30 c31 c32 c33 c34 c35 c36 c37 c38 c39 c40 c41 c42 c43 c44 c45 c46 c47 c48 c49 c50 c51 c52 c53 c54 c55 c56 c57 c58 c59 c60 c61 c62 c63 c64 c65 c66 c67 c68 c69 c70 c71 c72 c73 c74 c75 c76 c77 c78 c79 c80 c81 c82 c83 c84 c85 c86 c87 c88 c89 c90 c91 c92 c93 c94 c95 c96 c97 c98 c99 c100 c101 c102 c103 c104 c105 c106 c107 c108 c109 c110 c111 c112 c113 c114 c115 c116 c117 c118 c119 c120 c121 c122 c123 c124 c125 c126 c127 c128 c129 c130 c131 c132 c133 c134 c135 c136 c137 c138 c139 c140 c141 c142 c143 c144 c145 c146 c147 c148 c149 c150 c151 c152 c153 c154 c155 c156 c157 c158 c159 c160 c161 c162 c163 c164 c165 c166 c167 c168 c169 c170 c171 c172 c173 c174 c175 c176 c177 c178 c179 c180 c181 c182 c183 c184 c185 c186 c187 c188 c189 c190 c191 c192 c193 c194 c195 c196 c197 c198 c199 c200 c201 c202 c203 c204 c205 c206 c207 c208 c209 c210 c211 c212 c213 c214 c215 c216 c217 c218 c219 c220 c221 c222 c223 c224 c225 c226 c227 c228 c229 c230 c231 c232 c233 c234 c235 c236 c237 c238 c239 c240 c241 c242 c243 c244 c245 c246 c247 c248 c249 c250 c251 c252 c253 c254 c255 c256 c257 c258 c259 c260 c261 c262 c263 c264 c265 c266 c267 c268 c269 c270 c271 c272 c273 c274 c275 c276 c277 c278 c279 c280 c281 c282 c283 c284 c285 c286 c287 c288 c289 c290 c291 c292 : Value)
    (HEX : Hid (∀ (u14 u15 u16 u17 u18 u19 u145 u146 u147 u148 u149 u150 u151 u152 u153 u154 u155 u156 u157 u158 u159 u160 u161 u162 u163 u164 u165 u166 u167 u168 u169 u170 u171 u172 u173 u174 u175 u176 u177 u178 u179 u180 u181 u182 u183 u184 u185 u186 u187 u188 u189 u190 u191 u192 u193 u194 u195 u196 u197 u198 u199 u200 u201 u202 u203 u204 u205 u206 u207 u208 u209 u210 u211 u212 u213 u214 u215 u216 u217 u218 u219 u220 u221 u222 u223 u224 u225 u226 u227 u228 u229 u230 u231 u232 u233 u234 u235 u236 u237 u238 u239 u240 u241 u242 u243 u244 : Value) (w' : World), Arr B w' u14 (wvs (stW (runs KK Wl S 64))) → Below w8.heap.size w8 w' → Q0 (.exit 8) ⟨(c0 :: c1 :: c2 :: c3 :: .slice (some ⟨bk, 0, none⟩) 64 ck :: c5 :: c6 :: c7 :: c8 :: .slice (some ⟨wb, 0, none⟩) 64 64 :: c10 :: c11 :: c12 :: c13 :: u14 :: u15 :: u16 :: u17 :: u18 :: u19 :: c20 :: c21 :: c22 :: c23 :: c24 :: c25 :: c26 :: c27 :: c28 :: c29 :: c30 :: c31 :: c32 :: c33 :: c34 :: c35 :: c36 :: c37 :: c38 :: c39 :: c40 :: c41 :: c42 :: c43 :: c44 :: c45 :: c46 :: c47 :: c48 :: c49 :: c50 :: c51 :: c52 :: c53 :: c54 :: c55 :: c56 :: c57 :: c58 :: c59 :: c60 :: c61 :: c62 :: c63 :: c64 :: c65 :: c66 :: c67 :: c68 :: c69 :: c70 :: c71 :: c72 :: c73 :: c74 :: c75 :: c76 :: c77 :: c78 :: c79 :: c80 :: c81 :: c82 :: c83 :: c84 :: c85 :: c86 :: c87 :: c88 :: c89 :: c90 :: c91 :: c92 :: c93 :: c94 :: c95 :: c96 :: c97 :: c98 :: c99 :: c100 :: c101 :: c102 :: c103 :: c104 :: c105 :: c106 :: c107 :: c108 :: c109 :: c110 :: c111 :: c112 :: c113 :: c114 :: c115 :: c116 :: c117 :: c118 :: c119 :: c120 :: c121 :: c122 :: c123 :: c124 :: c125 :: c126 :: c127 :: c128 :: c129 :: c130 :: c131 :: c132 :: c133 :: c134 :: c135 :: c136 :: c137 :: c138 :: c139 :: c140 :: c141 :: c142 :: c143 :: c144 :: u145 :: u146 :: u147 :: u148 :: u149 :: u150 :: u151 :: u152 :: u153 :: u154 :: u155 :: u156 :: u157 :: u158 :: u159 :: u160 :: u161 :: u162 :: u163 :: u164 :: u165 :: u166 :: u167 :: u168 :: u169 :: u170 :: u171 :: u172 :: u173 :: u174 :: u175 :: u176 :: u177 :: u178 :: u179 :: u180 :: u181 :: u182 :: u183 :: u184 :: u185 :: u186 :: u187 :: u188 :: u189 :: u190 :: u191 :: u192 :: u193 :: u194 :: u195 :: u196 :: u197 :: u198 :: u199 :: u200 :: u201 :: u202 :: u203 :: u204 :: u205 :: u206 :: u207 :: u208 :: u209 :: u210 :: u211 :: u212 :: u213 :: u214 :: u215 :: u216 :: u217 :: u218 :: u219 :: u220 :: u221 :: u222 :: u223 :: u224 :: u225 :: u226 :: u227 :: u228 :: u229 :: u230 :: u231 :: u232 :: u233 :: u234 :: u235 :: u236 :: u237 :: u238 :: u239 :: u240 :: u241 :: u242 :: u243 :: u244 :: c245 :: c246 :: c247 :: c248 :: c249 :: c250 :: c251 :: c252 :: c253 :: c254 :: c255 :: c256 :: c257 :: c258 :: c259 :: c260 :: c261 :: c262 :: c263 :: c264 :: c265 :: c266 :: c267 :: c268 :: c269 :: c270 :: c271 :: c272 :: c273 :: c274 :: c275 :: c276 :: c277 :: c278 :: c279 :: c280 :: c281 :: c282 :: c283 :: c284 :: c285 :: c286 :: c287 :: c288 :: c289 :: c290 :: c291 :: c292 :: []).toArray, []⟩ w')) :
    Code.wp Tryz.prog (Code.loop bodyR) Q0 ⟨(c0 :: c1 :: c2 :: c3 :: .slice (some ⟨bk, 0, none⟩) 64 ck :: c5 :: c6 :: c7 :: c8 :: .slice (some ⟨wb, 0, none⟩) 64 64 :: c10 :: c11 :: c12 :: c13 :: v8 :: .int .i64 0 :: c16 :: c17 :: c18 :: c19 :: c20 :: c21 :: c22 :: c23 :: c24 :: c25 :: c26 :: c27 :: c28 :: c29 :: c30 :: c31 :: c32 :: c33 :: c34 :: c35 :: c36 :: c37 :: c38 :: c39 :: c40 :: c41 :: c42 :: c43 :: c44 :: c45 :: c46 :: c47 :: c48 :: c49 :: c50 :: c51 :: c52 :: c53 :: c54 :: c55 :: c56 :: c57 :: c58 :: c59 :: c60 :: c61 :: c62 :: c63 :: c64 :: c65 :: c66 :: c67 :: c68 :: c69 :: c70 :: c71 :: c72 :: c73 :: c74 :: c75 :: c76 :: c77 :: c78 :: c79 :: c80 :: c81 :: c82 :: c83 :: c84 :: c85 :: c86 :: c87 :: c88 :: c89 :: c90 :: c91 :: c92 :: c93 :: c94 :: c95 :: c96 :: c97 :: c98 :: c99 :: c100 :: c101 :: c102 :: c103 :: c104 :: c105 :: c106 :: c107 :: c108 :: c109 :: c110 :: c111 :: c112 :: c113 :: c114 :: c115 :: c116 :: c117 :: c118 :: c119 :: c120 :: c121 :: c122 :: c123 :: c124 :: c125 :: c126 :: c127 :: c128 :: c129 :: c130 :: c131 :: c132 :: c133 :: c134 :: c135 :: c136 :: c137 :: c138 :: c139 :: c140 :: c141 :: c142 :: c143 :: c144 :: c145 :: c146 :: c147 :: c148 :: c149 :: c150 :: c151 :: c152 :: c153 :: c154 :: c155 :: c156 :: c157 :: c158 :: c159 :: c160 :: c161 :: c162 :: c163 :: c164 :: c165 :: c166 :: c167 :: c168 :: c169 :: c170 :: c171 :: c172 :: c173 :: c174 :: c175 :: c176 :: c177 :: c178 :: c179 :: c180 :: c181 :: c182 :: c183 :: c184 :: c185 :: c186 :: c187 :: c188 :: c189 :: c190 :: c191 :: c192 :: c193 :: c194 :: c195 :: c196 :: c197 :: c198 :: c199 :: c200 :: c201 :: c202 :: c203 :: c204 :: c205 :: c206 :: c207 :: c208 :: c209 :: c210 :: c211 :: c212 :: c213 :: c214 :: c215 :: c216 :: c217 :: c218 :: c219 :: c220 :: c221 :: c222 :: c223 :: c224 :: c225 :: c226 :: c227 :: c228 :: c229 :: c230 :: c231 :: c232 :: c233 :: c234 :: c235 :: c236 :: c237 :: c238 :: c239 :: c240 :: c241 :: c242 :: c243 :: c244 :: c245 :: c246 :: c247 :: c248 :: c249 :: c250 :: c251 :: c252 :: c253 :: c254 :: c255 :: c256 :: c257 :: c258 :: c259 :: c260 :: c261 :: c262 :: c263 :: c264 :: c265 :: c266 :: c267 :: c268 :: c269 :: c270 :: c271 :: c272 :: c273 :: c274 :: c275 :: c276 :: c277 :: c278 :: c279 :: c280 :: c281 :: c282 :: c283 :: c284 :: c285 :: c286 :: c287 :: c288 :: c289 :: c290 :: c291 :: c292 :: []).toArray, []⟩ w8 := by
  conv => arg 2; arg 1; whnf
  go_loopw [14, 15] (fun vv tv wt => ∃ (t : Nat) (V : St), t ≤ 64 ∧ tv = .int .i64 t ∧ Hid (runs KK Wl S t = V) ∧ Arr B wt vv (wvs (stW V)) ∧ Below w8.heap.size w8 wt) (fun _ tv _ => 64 - (intOf tv).toNat)
  case atStart => exact ⟨0, S, Nat.zero_le _, rfl, Lib.hid rfl, HV8.out, Below.refl _ _⟩
  case round =>
    obtain ⟨t, V, ht, rfl, HVV, harr, hbel⟩ := hrel
    obtain ⟨bq, cq, hvq, hbq1, hbq2, hcq1, hcq2, hcq3, hcq4⟩ := harr.pos (by simp [wvs, stW])
    rw [wvs_len, stW_len] at hvq hcq1
    subst hvq
    have hszq := hbel.size
    by_cases ht64 : t < 64
    · have h01 : (0 : Int) ≤ t := by omega
      have h02 : (t : Int) < 64 := by omega
      obtain ⟨a', b', c', d', e', f', g', h'⟩ := V
      have q0 : wr.cell? ⟨bq, 0, none⟩ = some (.int .u32 (nv a')) := hcq4 0 _ rfl
      have q1 : wr.cell? ⟨bq, 1, none⟩ = some (.int .u32 (nv b')) := hcq4 1 _ rfl
      have q2 : wr.cell? ⟨bq, 2, none⟩ = some (.int .u32 (nv c')) := hcq4 2 _ rfl
      have q3 : wr.cell? ⟨bq, 3, none⟩ = some (.int .u32 (nv d')) := hcq4 3 _ rfl
      have q4 : wr.cell? ⟨bq, 4, none⟩ = some (.int .u32 (nv e')) := hcq4 4 _ rfl
      have q5 : wr.cell? ⟨bq, 5, none⟩ = some (.int .u32 (nv f')) := hcq4 5 _ rfl
      have q6 : wr.cell? ⟨bq, 6, none⟩ = some (.int .u32 (nv g')) := hcq4 6 _ rfl
      have q7 : wr.cell? ⟨bq, 7, none⟩ = some (.int .u32 (nv h')) := hcq4 7 _ rfl
      obtain ⟨kk, hkk⟩ : ∃ x, x = KK.getD t 0 := ⟨_, rfl⟩
      obtain ⟨wk, hwk⟩ : ∃ x, x = (Wl).getD t 0 := ⟨_, rfl⟩
      have ckc : wr.cell? ⟨bk, t, none⟩ = some (.int .u32 (nv kk)) := by
        rw [hkk]
        exact (hbel.cell (p := ⟨bk, t, none⟩) hbk).trans (HKC.out t ht64)
      have cwc : wr.cell? ⟨wb, t, none⟩ = some (.int .u32 (nv wk)) := by
        rw [hwk]
        exact (hbel.cell (p := ⟨wb, t, none⟩) hwb).trans (HWC.out t ht64)
      have hnext : runs KK (Wl) S (t + 1) = rnd ⟨a', b', c', d', e', f', g', h'⟩ kk wk := by rw [runs, HVV.out, hkk, hwk]
      have HNXT := Lib.hid hnext
      have HBELq := Lib.hid hbel
      have hmax : IntKind.u32.max = 4294967295 := rfl
      clear hbel harr hcq3 hcq4 hcq1 hcq2 hkk hwk hnext ht HVV
      obtain ⟨w0, rfl⟩ : ∃ w0, w0 = wr := ⟨wr, rfl⟩
      go_wp2
      go_quiet ((go_at_call 79; exact Calls.quiet_of (rturn_any _ _ _ (by decide) (by decide))))
      generalize hwz : w0.drewN nq = wz
      have HWZ := Lib.hid hwz
      have r0 : wz.cell? ⟨bq, 0, none⟩ = some (.int .u32 (nv a')) := by rw [← hwz]; exact q0
      have r1 : wz.cell? ⟨bq, 1, none⟩ = some (.int .u32 (nv b')) := by rw [← hwz]; exact q1
      have r2 : wz.cell? ⟨bq, 2, none⟩ = some (.int .u32 (nv c')) := by rw [← hwz]; exact q2
      have r3 : wz.cell? ⟨bq, 3, none⟩ = some (.int .u32 (nv d')) := by rw [← hwz]; exact q3
      have r4 : wz.cell? ⟨bq, 4, none⟩ = some (.int .u32 (nv e')) := by rw [← hwz]; exact q4
      have r5 : wz.cell? ⟨bq, 5, none⟩ = some (.int .u32 (nv f')) := by rw [← hwz]; exact q5
      have r6 : wz.cell? ⟨bq, 6, none⟩ = some (.int .u32 (nv g')) := by rw [← hwz]; exact q6
      clear hwz q0 q1 q2 q3 q4 q5 q6 q7 ckc cwc
      go_wp2
      go_quiet ((go_at_call 79; exact Calls.quiet_of (rturn_any _ _ _ (by decide) (by decide))))
      generalize hwy : wz.drewN nq = wy
      have HWY := Lib.hid hwy
      have s0 : wy.cell? ⟨bq, 0, none⟩ = some (.int .u32 (nv a')) := by rw [← hwy]; exact r0
      have s1 : wy.cell? ⟨bq, 1, none⟩ = some (.int .u32 (nv b')) := by rw [← hwy]; exact r1
      have s2' : wy.cell? ⟨bq, 2, none⟩ = some (.int .u32 (nv c')) := by rw [← hwy]; exact r2
      have s3 : wy.cell? ⟨bq, 3, none⟩ = some (.int .u32 (nv d')) := by rw [← hwy]; exact r3
      have s4 : wy.cell? ⟨bq, 4, none⟩ = some (.int .u32 (nv e')) := by rw [← hwy]; exact r4
      have s5 : wy.cell? ⟨bq, 5, none⟩ = some (.int .u32 (nv f')) := by rw [← hwy]; exact r5
      have s6 : wy.cell? ⟨bq, 6, none⟩ = some (.int .u32 (nv g')) := by rw [← hwy]; exact r6
      clear hwy r0 r1 r2 r3 r4 r5 r6
      go_wp2
      have hnextP := HNXT.out
      obtain ⟨one, h1⟩ : ∃ x : Wd, x = h' + (rotr e' 6 ^^^ rotr e' 11 ^^^ rotr e' 25) + (e' &&& f' ||| ~~~e' &&& g') + kk + wk := ⟨_, rfl⟩
      obtain ⟨two, h2⟩ : ∃ x : Wd, x = (rotr a' 2 ^^^ rotr a' 13 ^^^ rotr a' 22) + (a' &&& b' ||| a' &&& c' ||| b' &&& c') := ⟨_, rfl⟩
      have e1 : (nv (h' + (rotr e' 6 ^^^ rotr e' 11 ^^^ rotr e' 25)) + nv (e' &&& f' ||| ~~~e' &&& g') + nv kk + nv wk) % (4294967296 : Int) = nv one := by rw [h1, wd_add4]
      have hrnd : rnd ⟨a', b', c', d', e', f', g', h'⟩ kk wk = ⟨one + two, a', b', c', d' + one, e', f', g'⟩ := by rw [h1, h2, BitVec.and_comm (~~~e') g']; rfl
      rw [e1, ← h2]
      rw [hrnd] at hnextP
      have HNEXT := Lib.hid hnextP
      clear h1 h2 e1 hrnd hnextP
      have hsy : wy.heap.size = w0.heap.size := by rw [← HWY.out, ← HWZ.out]; rfl
      have hbqy : bq < wy.heap.size := by rw [hsy]; exact hbq2
      go_still_tail 26, (by kernel_rfl)
      change wpList _ _ _ _ _ wy.drew
      generalize hwx : wy.drew = wx
      have hbx : Below w8.heap.size w8 wx := by rw [← hwx, ← HWY.out, ← HWZ.out]; exact Below.drew (Below.drewN (Below.drewN HBELq.out))
      have hsx : w8.heap.size ≤ wx.heap.size := hbx.size
      have HBX := Lib.hid hbx
      clear hwx hbx s0 s1 s2' s3 s4 s5 s6 hbqy hsy
      go_wp2
      refine ⟨⟨t + 1, _, ht64, by go_num, HNEXT, arr_new (cs := wvs (stW ⟨one + two, a', b', c', d' + one, e', f', g'⟩)) (cap := 8) (fr := (0, 0)) (Nat.le_trans hB hsx) (Nat.le_refl _) (by decide) rfl (.inl rfl) (fun j u hu => by rw [List.getElem?_toArray]; exact hu), HBX.out.alloc hsx _⟩, by simp [intOf]; omega⟩
    · have hte : t = 64 := by omega
      rw [hte] at HVV
      have ht9 : ¬ (t : Int) < 64 := by omega
      have HBELq := Lib.hid hbel
      have HARq := Lib.hid harr
      clear hbel harr hcq3 hcq4 hcq1 hcq2 ht hte ht64
      go_wp2
      refine HEX.out _ _ _ _ _ _ _ _ _ _ _ _ _ _ _ _ _ _ _ _ _ _ _ _ _ _ _ _ _ _ _ _ _ _ _ _ _ _ _ _ _ _ _ _ _ _ _ _ _ _ _ _ _ _ _ _ _ _ _ _ _ _ _ _ _ _ _ _ _ _ _ _ _ _ _ _ _ _ _ _ _ _ _ _ _ _ _ _ _ _ _ _ _ _ _ _ _ _ _ _ _ _ _ _ _ _ _ ?_ HBELq.out
      rw [HVV.out]
      exact HARq.out
end Go.Proofs.YtgjcblginkdinaaGreatDoor
