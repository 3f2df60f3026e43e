/- Plain mathematics of the document's constants: the primes, numbers of base 65536, and the roots. No program is named here. The contract of the document's primes. The contract of the document's product of numbers of base 65536. -/
import Derived.Test.YtgjcblginkdinaaGreatDoorV13
set_option linter.unusedVariables false
namespace Go.Proofs.YtgjcblginkdinaaGreatDoor

def PL : List Nat := [2, 3, 5, 7, 11, 13, 17, 19, 23, 29, 31, 37, 41, 43, 47, 53,
  59, 61, 67, 71, 73, 79, 83, 89, 97, 101, 103, 107, 109, 113, 127, 131,
  137, 139, 149, 151, 157, 163, 167, 173, 179, 181, 191, 193, 197, 199, 211, 223,
  227, 229, 233, 239, 241, 251, 257, 263, 269, 271, 277, 281, 283, 293, 307, 311]
def pf (j : Nat) : List Nat := PL.filter fun p => decide (p < j + 2)
theorem pf_step : ∀ j, j < 310 → pf (j + 1) = if (pf j).all (fun p => (j + 2) % p != 0) then pf j ++ [j + 2] else pf j := of_decide_eq_true (by kernel_rfl)
theorem pf_take : ∀ j, j < 311 → pf j = PL.take (pf j).length := of_decide_eq_true (by kernel_rfl)
theorem pf_end : (pf 310).length = 64 := by kernel_rfl
theorem PL_len : PL.length = 64 := rfl
theorem PL_pos : ∀ p ∈ PL, 2 ≤ p ∧ p < 400 := of_decide_eq_true (by kernel_rfl)
theorem pf_pos {j p : Nat} (h : p ∈ pf j) : 2 ≤ p ∧ p < 400 := PL_pos p (List.mem_filter.1 h).1
theorem pf_le (j : Nat) : (pf j).length ≤ 64 := Nat.le_trans (List.length_filter_le _ _) (by decide)
theorem pf_more {j : Nat} (h : j ≤ 310) (h2 : (pf j).length < 64) : j < 310 := by
  rcases Nat.lt_or_ge j 310 with h' | h'
  · exact h'
  · have : j = 310 := by omega
    subst this
    rw [pf_end] at h2
    omega

def valR : List Nat → Nat
  | [] => 0
  | x :: r => x + 65536 * valR r
theorem valR_app : ∀ (a b : List Nat), valR (a ++ b) = valR a + 65536 ^ a.length * valR b
  | [], b => by simp [valR]
  | x :: a, b => by
    rw [List.cons_append, valR, valR, valR_app a b, List.length_cons, Nat.pow_succ, Nat.mul_add, Nat.mul_comm (65536 ^ a.length) 65536, Nat.mul_assoc]
    omega
theorem valR_lt : ∀ (l : List Nat), (∀ x ∈ l, x < 65536) → valR l < 65536 ^ l.length
  | [], _ => by decide
  | x :: l, h => by
    have ih := valR_lt l (fun y hy => h y (by simp [hy]))
    have hx := h x (by simp)
    rw [valR, List.length_cons, Nat.pow_succ]
    omega
theorem valR_snoc (l : List Nat) (x : Nat) : valR (l ++ [x]) = valR l + 65536 ^ l.length * x := by rw [valR_app]; simp [valR]
theorem val_take {l : List Nat} {k x : Nat} (h : l[k]? = some x) : valR (l.take (k + 1)) = valR (l.take k) + 65536 ^ k * x := by
  have hk : k < l.length := (List.getElem?_eq_some_iff.1 h).1
  rw [List.take_add_one, h]
  show valR (l.take k ++ [x]) = _
  rw [valR_snoc, List.length_take, Nat.min_eq_left (by omega)]
theorem val_set : ∀ (l : List Nat) (k x y : Nat), l[k]? = some y → valR (l.set k x) + 65536 ^ k * y = valR l + 65536 ^ k * x
  | [], k, x, y, h => by simp at h
  | z :: l, 0, x, y, h => by
    have : z = y := by simpa using h
    subst this
    show x + 65536 * valR l + 65536 ^ 0 * z = z + 65536 * valR l + 65536 ^ 0 * x
    omega
  | z :: l, k + 1, x, y, h => by
    have ih := val_set l k x y (by simpa using h)
    show z + 65536 * valR (l.set k x) + 65536 ^ (k + 1) * y = z + 65536 * valR l + 65536 ^ (k + 1) * x
    rw [Nat.pow_succ, Nat.mul_comm (65536 ^ k) 65536, Nat.mul_assoc, Nat.mul_assoc]
    omega
theorem val_drop {l : List Nat} {k x : Nat} (h : l[k]? = some x) : valR (l.drop k) = x + 65536 * valR (l.drop (k + 1)) := by
  have hk : k < l.length := (List.getElem?_eq_some_iff.1 h).1
  rw [List.drop_eq_getElem_cons hk, valR]
  rw [List.getElem?_eq_getElem hk] at h
  rw [Option.some.inj h]

theorem times_step {O B : List Nat} {V a b c o i j x : Nat} (h2 : valR O + 65536 ^ (i + j) * c = V + a * (65536 ^ i * valR (B.take j))) (ho : O[i + j]? = some o) (hb : B[j]? = some b) (hx : x = o + a * b + c) :
    valR (O.set (i + j) (x % 65536)) + 65536 ^ (i + (j + 1)) * (x / 65536) = V + a * (65536 ^ i * valR (B.take (j + 1))) := by
  have h1 := val_set O (i + j) (x % 65536) o ho
  rw [val_take hb]
  have hQ : 65536 ^ (i + j) = 65536 ^ i * 65536 ^ j := Nat.pow_add _ _ _
  have h5 : 65536 ^ (i + (j + 1)) = 65536 ^ (i + j) * 65536 := by rw [← Nat.add_assoc, Nat.pow_succ]
  rw [h5]
  have h6 : a * (65536 ^ i * (valR (B.take j) + 65536 ^ j * b)) = a * (65536 ^ i * valR (B.take j)) + 65536 ^ (i + j) * (a * b) := by
    rw [hQ, Nat.mul_add, Nat.mul_add]
    congr 1
    rw [Nat.mul_comm a b, ← Nat.mul_assoc (65536 ^ i), ← Nat.mul_assoc _ b a, Nat.mul_comm a]
  rw [h6]
  obtain ⟨Q, hQe⟩ : ∃ Q, Q = 65536 ^ (i + j) := ⟨_, rfl⟩
  rw [← hQe] at h1 h2 ⊢
  have h3 : Q * x = Q * (x % 65536) + Q * 65536 * (x / 65536) := by
    rw [Nat.mul_assoc, ← Nat.mul_add, Nat.mod_add_div]
  have h4 : Q * x = Q * o + Q * (a * b) + Q * c := by rw [hx, Nat.mul_add, Nat.mul_add]
  omega

def R2 : List Nat := [6074000999, 7439101573, 9603838834, 11363415354, 14244795007,
  15485724812, 17708603819, 18721328409]
def R3 : List Nat := [5411319704, 6194414737, 7344290767, 8215976869, 9551921755,
  10098905585, 11043570340, 11460697813, 12214315672, 13195500289,
  13492127166, 14311783875, 14809980276, 15046980094, 15499789991,
  16133124468, 16720292289, 16907126662, 17444216262, 17784676812,
  17950125167, 18429019306, 18734950876, 19175934170, 19734090066,
  20001703533, 20132865992, 20390182855, 20516441075, 20764397895,
  21588763473, 21813078375, 22141143685, 22248366392, 22769593852,
  22871018771, 23170020180, 23461497531, 23651862830, 23931792517,
  24205322401, 24295138891, 24734567280, 24820601251, 24990902297,
  25075189284, 25569408389, 26045227120, 26200031510, 26276752392,
  26428864332, 26653801653, 26727943347, 27092625994, 27306805839,
  27517677555, 27725365998, 27793908591, 27997534228, 28131656200,
  28198240250, 28526537963, 28973835255, 29099129074]
theorem R2_ok : ∀ i, i < 8 → (R2.getD i 0) ^ 2 ≤ PL.getD i 0 * 65536 ^ 4 ∧ PL.getD i 0 * 65536 ^ 4 < (R2.getD i 0 + 1) ^ 2 ∧ R2.getD i 0 % 4294967296 = ((stW H0).getD i 0).toNat := of_decide_eq_true (by kernel_rfl)
theorem R3_ok : ∀ i, i < 64 → (R3.getD i 0) ^ 3 ≤ PL.getD i 0 * 65536 ^ 6 ∧ PL.getD i 0 * 65536 ^ 6 < (R3.getD i 0 + 1) ^ 3 ∧ R3.getD i 0 % 4294967296 = (KK.getD i 0).toNat := of_decide_eq_true (by kernel_rfl)
theorem root_iff {r N k mid : Nat} (hk : 0 < k) (h1 : r ^ k ≤ N) (h2 : N < (r + 1) ^ k) : N < mid ^ k ↔ r < mid := by
  constructor
  · intro h
    rcases Nat.lt_or_ge r mid with h' | h'
    · exact h'
    · have := Nat.pow_le_pow_left h' k
      omega
  · intro h
    exact Nat.lt_of_lt_of_le h2 (Nat.pow_le_pow_left h k)
end Go.Proofs.YtgjcblginkdinaaGreatDoor
set_option linter.unusedVariables false
namespace Go.Proofs.YtgjcblginkdinaaGreatDoor
open Go.ChangeShapes Go.WideShapes Go.ChangeAt Go.RowKit

theorem Tryz.infoInt : (Tryz.prog.info? 3).map (fun i => (i.zero, i.size, i.bytes)) = some (some (.int .i64 0), 1, 8) := by kernel_rfl
def ivs (l : List Nat) : List Value := l.map fun (x : Nat) => Value.int .i64 (x : Int)
theorem is_len (l : List Nat) : (ivs l).length = l.length := by simp [ivs]
theorem is_app (l m : List Nat) : ivs (l ++ m) = ivs l ++ ivs m := by simp [ivs]
theorem is_at {l : List Nat} {i x : Nat} (h : l[i]? = some x) : (ivs l)[i]? = some (.int .i64 (x : Int)) := by simp [ivs, h]
theorem all_snoc {α : Type} {l : List α} {k : Nat} {x : α} (f : α → Bool) (h : l[k]? = some x) : (l.take (k + 1)).all f = ((l.take k).all f && f x) := by
  rw [take_snoc h, List.all_append]; simp

set_option maxHeartbeats 2000000 in
set_option maxRecDepth 100000 in
theorem primes_any (n : Nat) (w : World) (hn : n ≤ 64) :
    Calls Tryz.prog 113 #[.int .i64 (n : Int)] w fun e w' => ∃ v, e = .returned v ∧ Arr w.heap.size w' v (ivs (PL.take n)) ∧ Below w.heap.size w w' := by
  go_enter Tryz.func113, Tryz.ntmps113
  go_wp2
  go_loopw [3, 4] (fun v kv wr => ∃ j : Nat, j ≤ 310 ∧ kv = .int .i64 ((j : Int) + 2) ∧ Arr w.heap.size wr v (ivs (pf j)) ∧ (pf j).length ≤ n ∧ Below w.heap.size w wr) (fun _ kv _ => 400 - (intOf kv).toNat)
  case atStart => exact ⟨0, by omega, rfl, Arr.nil _ _, Nat.zero_le _, Below.refl _ _⟩
  case round =>
    obtain ⟨j, hj, rfl, harr, hle, hbel⟩ := hrel
    have hsz := hbel.size
    obtain ⟨a, c, hv⟩ := harr.form
    rw [is_len] at hv
    obtain ⟨N, hN⟩ : ∃ N, N = (pf j).length := ⟨_, rfl⟩
    rw [← hN] at hv hle
    subst hv
    have hN64 : N ≤ 64 := by rw [hN]; exact pf_le j
    have HA := Lib.hid harr
    have HB := Lib.hid hbel
    have HN := Lib.hid hN
    by_cases hlt : N < n
    · have hj2 : j < 310 := pf_more hj (by rw [← hN]; omega)
      have hst := pf_step j hj2
      have HST := Lib.hid hst
      clear harr hbel hN hst
      obtain ⟨w0, rfl⟩ : ∃ w0, w0 = wr := ⟨wr, rfl⟩
      go_wp2
      go_loopw [5, 6] (fun bv iv wr => ∃ i : Nat, i ≤ N ∧ iv = .int .i64 i ∧ bv = .bool (((pf j).take i).all fun p => (j + 2) % p != 0) ∧ wr = w0) (fun _ iv _ => N - (intOf iv).toNat)
      case atStart => exact ⟨0, Nat.zero_le _, rfl, rfl, rfl⟩
      case round =>
        obtain ⟨i, hi, rfl, rfl, rfl⟩ := hrel
        by_cases hil : i < N
        · obtain ⟨p, hp⟩ : ∃ p, (pf j)[i]? = some p := ⟨(pf j)[i]'(by rw [← HN.out]; exact hil), List.getElem?_eq_getElem _⟩
          obtain ⟨p2, p4⟩ := pf_pos (List.mem_of_getElem? hp)
          obtain ⟨b, cap, hs, hb1, hb2, hb3, hb4, hb5, hb6⟩ := HA.out.pos (by intro h; rw [← List.length_eq_zero_iff, is_len, ← HN.out] at h; omega)
          obtain ⟨rfl, rfl⟩ : a = some ⟨b, 0, none⟩ ∧ c = cap := by
            injection hs with e1 e2 e3
            exact ⟨e1, e3⟩
          have hcell := hb6 i _ (is_at hp)
          have hall := all_snoc (fun p => (j + 2) % p != 0) hp
          obtain ⟨B, hB⟩ : ∃ B, B = ((pf j).take i).all fun p => (j + 2) % p != 0 := ⟨_, rfl⟩
          rw [← hB] at hall ⊢
          have h01 : (0 : Int) ≤ i := by omega
          have h02 : (i : Int) < N := by omega
          have hpn : ¬ (p : Int) = 0 := by omega
          have hpp : (0 : Int) < p := by omega
          have HALL := Lib.hid hall
          have HBB := Lib.hid hB
          have HP := Lib.hid hp
          clear hall hB hp hs hb1 hb2 hb3 hb4 hb5 hb6 hi
          have hc : ((j : Int) + 2) % (p : Int) = (((j + 2) % p : Nat) : Int) := by rw [Int.natCast_emod]; rfl
          by_cases hm : (j + 2) % p = 0
          · have t2 : ((j : Int) + 2) % (p : Int) = 0 := by rw [hc, hm]; rfl
            have t1 : (((j : Int) + 2) % (p : Int) == 0) = true := by rw [t2]; rfl
            clear hc
            have HM := Lib.hid hm
            clear hm
            go_wp2
            refine ⟨⟨i + 1, hil, by go_num, ?_, trivial⟩, by simp [intOf]; omega⟩
            rw [HALL.out, HM.out]; simp
          · have t2 : ¬ ((j : Int) + 2) % (p : Int) = 0 := by rw [hc]; omega
            have t1 : (((j : Int) + 2) % (p : Int) == 0) = false := by rw [beq_eq_false_iff_ne]; exact t2
            clear hc
            have HM := Lib.hid hm
            clear hm
            go_wp2
            refine ⟨⟨i + 1, hil, by go_num, ?_, trivial⟩, by simp [intOf]; omega⟩
            have : ((j + 2) % p != 0) = true := by simpa using HM.out
            rw [HALL.out, this, Bool.and_true]
        · have hie : i = N := by omega
          have hfull : (pf j).take i = pf j := by rw [hie, HN.out, List.take_length]
          rw [hfull]
          have hst2 := HST.out
          cases hB : (pf j).all (fun p => (j + 2) % p != 0) with
          | true =>
            rw [hB, if_pos rfl] at hst2
            have HS2 := Lib.hid hst2
            clear hst2 hB hfull hie hi
            go_wp2_with (at_builtin; refine wpList_append_arr rfl _ _ 177 rfl 3 (.int .i64 0) 8 Tryz.underlying177 Tryz.infoInt rfl w.heap.size (.slice a N c) _ [.int .i64 ((j : Int) + 2)] rfl (HA.out.alloc _) _ _ _ rfl rfl news_new one1 (Nat.zero_lt_succ _) (by rw [sizeAl]; omega) (by rw [is_len, ← HN.out]; show _ + 1 ≤ _; omega) (by decide) ?_; rintro v4 w4 harr4 hb4)
            refine ⟨⟨j + 1, by omega, by go_num, ?_, ?_, (HB.out.alloc hsz _).trans hb4⟩, by simp [intOf]; omega⟩
            · rw [HS2.out, is_app]; exact harr4
            · rw [HS2.out, List.length_append, ← HN.out]; exact hlt
          | false =>
            rw [hB, if_neg (by decide)] at hst2
            have HS2 := Lib.hid hst2
            clear hst2 hB hfull hie hi
            go_wp2
            refine ⟨⟨j + 1, by omega, by go_num, ?_, ?_, HB.out⟩, by simp [intOf]; omega⟩
            · rw [HS2.out]; exact HA.out
            · rw [HS2.out, ← HN.out]; exact hle
    · have hne : N = n := by omega
      have hpt := pf_take j (by omega)
      rw [← hN, hne] at hpt
      have HPT := Lib.hid hpt
      clear harr hbel hN hpt
      go_wp2
      go_ret
      refine ⟨_, rfl, ?_, HB.out⟩
      rw [← HPT.out]; exact HA.out
end Go.Proofs.YtgjcblginkdinaaGreatDoor
set_option linter.unusedVariables false
namespace Go.Proofs.YtgjcblginkdinaaGreatDoor
open Go.ChangeShapes Go.WideShapes Go.ChangeAt Go.RowKit

theorem Tryz.infoU64 : (Tryz.prog.info? 121).map (fun i => (i.zero, i.size, i.bytes)) = some (some (.int .u64 0), 1, 8) := by kernel_rfl
def uvs (l : List Nat) : List Value := l.map fun (x : Nat) => Value.int .u64 (x : Int)
theorem uvs_len (l : List Nat) : (uvs l).length = l.length := by simp [uvs]
theorem uvs_at {l : List Nat} {i x : Nat} (h : l[i]? = some x) : (uvs l)[i]? = some (.int .u64 (x : Int)) := by simp [uvs, h]
theorem uvs_set (l : List Nat) (i x : Nat) : uvs (l.set i x) = (uvs l).set i (.int .u64 (x : Int)) := by simp [uvs, List.map_set]
def Dig (l : List Nat) : Prop := ∀ x ∈ l, x < 65536
theorem Dig.set {l : List Nat} (h : Dig l) (i x : Nat) (hx : x < 65536) : Dig (l.set i x) := by
  intro y hy
  rcases List.mem_or_eq_of_mem_set hy with h' | rfl
  · exact h y h'
  · exact hx
theorem Dig.at {l : List Nat} (h : Dig l) {i x : Nat} (hx : l[i]? = some x) : x < 65536 := h x (List.mem_of_getElem? hx)

theorem arr_u {B : Nat} {w : World} {v : Value} {l : List Nat} (h : Arr B w v (uvs l)) (hl : 0 < l.length) : ∃ b cap, v = .slice (some ⟨b, 0, none⟩) l.length cap ∧ B ≤ b ∧ l.length ≤ cap ∧ cap ≤ maxLen ∧ b < w.heap.size ∧ ∀ (i x : Nat), l[i]? = some x → w.cell? ⟨b, i, none⟩ = some (.int .u64 (x : Int)) := by
  obtain ⟨b, cap, h1, h2, h3, h4, h5, h6, h7⟩ := h.pos (by intro e; have := uvs_len l; rw [e] at this; simp at this; omega)
  rw [uvs_len] at h1 h4
  exact ⟨b, cap, h1, h2, h4, h5, h3, fun i x hx => h7 i _ (uvs_at hx)⟩
theorem repl_at (n i : Nat) (h : i < n) : (List.replicate n 0)[i]? = some 0 := by rw [List.getElem?_replicate, if_pos h]
theorem val_zero (n : Nat) : valR (List.replicate n 0) = 0 := by
  induction n with
  | zero => rfl
  | succ n ih => rw [List.replicate_succ, valR, ih]

set_option maxHeartbeats 4000000 in
set_option maxRecDepth 100000 in
theorem times_any (A B : List Nat) (va vb : Value) (ba bb : Nat) (w : World) (hA : Arr ba w va (uvs A)) (hB : Arr bb w vb (uvs B)) (dA : Dig A) (dB : Dig B) (la : 0 < A.length ∧ A.length ≤ 10) (lb : 0 < B.length ∧ B.length ≤ 10) :
    Calls Tryz.prog 153 #[va, vb] w fun e w' => ∃ v C, e = .returned v ∧ Arr w.heap.size w' v (uvs C) ∧ C.length = A.length + B.length ∧ Dig C ∧ valR C = valR A * valR B ∧ Below w.heap.size w w' := by
  obtain ⟨xa, ca, rfl, -, hca, hma, hxa, hcA⟩ := arr_u hA la.1
  obtain ⟨xb, cb, rfl, -, hcb, hmb, hxb, hcB⟩ := arr_u hB lb.1
  obtain ⟨nA, hnA⟩ : ∃ n, n = A.length := ⟨_, rfl⟩
  obtain ⟨nB, hnB⟩ : ∃ n, n = B.length := ⟨_, rfl⟩
  rw [← hnA] at la hca ⊢
  rw [← hnB] at lb hcb ⊢
  obtain ⟨la1, la2⟩ := la
  obtain ⟨lb1, lb2⟩ := lb
  have hmk := run_make_row' (P := Tryz.prog) 211 121 (.int .u64 0) 8 Tryz.underlying211 Tryz.infoU64 rfl .i64 .i64 (nA + nB) (by omega) (by omega) w
  rw [show ((nA + nB : Nat) : Int) = (nA : Int) + (nB : Int) by omega] at hmk
  have HCA := Lib.hid hcA
  have HCB := Lib.hid hcB
  have HNA := Lib.hid hnA
  have HNB := Lib.hid hnB
  have HDA := Lib.hid dA
  have HDB := Lib.hid dB
  have HXA := Lib.hid hxa
  have HXB := Lib.hid hxb
  clear hcA hcB hnA hnB hA hB dA dB
  go_enter Tryz.func153, Tryz.ntmps153
  go_wp2
  go_loopw [6] (fun iv wr => ∃ (i : Nat) (O : List Nat), i ≤ nA ∧ iv = .int .i64 i ∧ O.length = nA + nB ∧ Hid (Dig O) ∧ Hid (valR O = valR (A.take i) * valR B) ∧ Hid (∀ k, i + nB ≤ k → k < nA + nB → O[k]? = some 0) ∧ Arr w.heap.size wr (.slice (some ⟨w.heap.size, 0, none⟩) (nA + nB) (nA + nB)) (uvs O) ∧ Below w.heap.size w wr) (fun iv _ => nA - (intOf iv).toNat)
  case atStart =>
    refine ⟨0, List.replicate (nA + nB) 0, Nat.zero_le _, rfl, by simp, Lib.hid ?_, Lib.hid ?_, Lib.hid (fun k _ hk => repl_at _ _ hk), ?_, (Below.refl _ _).alloc (Nat.le_refl _) _⟩
    · intro x hx
      rw [List.eq_of_mem_replicate hx]; omega
    · rw [val_zero]; simp [valR]
    · have := arr_new (B := w.heap.size) (w := w) (e := 121) (cs := uvs (List.replicate (nA + nB) 0)) (cap := nA + nB) (xs := madeCells #[.int .u64 0] (nA + nB)) (fr := (0, 0)) (Nat.le_refl _) (by rw [uvs_len]; simp) (by unfold maxLen; omega) (size_madeCells _ _) (.inl rfl) (fun j u hu => by
        have hj : j < nA + nB := by
          have := (List.getElem?_eq_some_iff.1 hu).1
          rw [uvs_len, List.length_replicate] at this
          exact this
        rw [uvs_at (repl_at _ _ hj)] at hu
        rw [← Option.some.inj hu]
        simp [madeCells, hj, Nat.mod_one])
      rw [uvs_len, List.length_replicate] at this
      exact this
  case round =>
    obtain ⟨i, O, hi, rfl, hOl, HD, HV, HZ, harr, hbel⟩ := hrel
    by_cases hlt : i < nA
    · obtain ⟨a, ha⟩ : ∃ a, A[i]? = some a := ⟨A[i]'(by rw [← HNA.out]; exact hlt), List.getElem?_eq_getElem _⟩
      have ha6 := HDA.out.at ha
      have HAi := Lib.hid ha
      have HARR := Lib.hid harr
      have HBEL := Lib.hid hbel
      clear harr hbel ha
      obtain ⟨V, hV⟩ : ∃ V, V = valR O := ⟨_, rfl⟩
      have HVV := Lib.hid hV
      clear hV
      go_wp2
      go_loopw [7, 8, 9] (fun cv jv xv wr => ∃ (j c : Nat) (O' : List Nat) (y : Value), j ≤ nB ∧ jv = .int .i64 j ∧ cv = .int .u64 c ∧ xv = y ∧ c < 65536 ∧ O'.length = nA + nB ∧ Hid (Dig O') ∧ Hid (valR O' + 65536 ^ (i + j) * c = V + a * (65536 ^ i * valR (B.take j))) ∧ Hid (∀ k, i + nB ≤ k → k < nA + nB → O'[k]? = some 0) ∧ Arr w.heap.size wr (.slice (some ⟨w.heap.size, 0, none⟩) (nA + nB) (nA + nB)) (uvs O') ∧ Below w.heap.size w wr) (fun _ jv _ _ => nB - (intOf jv).toNat)
      case atStart => exact ⟨0, 0, O, _, Nat.zero_le _, rfl, rfl, rfl, by omega, hOl, HD, Lib.hid (by rw [HVV.out]; simp [valR]), HZ, HARR.out, HBEL.out⟩
      case round =>
        obtain ⟨j, c, O', y, hj, rfl, rfl, rfl, hc, hOl', HD', HV', HZ', harr, hbel⟩ := hrel
        have hsz := hbel.size
        obtain ⟨_, cap', hs, _, _, _, _, hth, hcl⟩ := harr.pos (by intro e; have := uvs_len O'; rw [e] at this; simp at this; omega)
        obtain ⟨rfl, rfl⟩ := (by injection hs with e1 e2 e3; injection e1 with e1; injection e1 with e1; exact ⟨e1, e3⟩ : w.heap.size = _ ∧ nA + nB = cap')
        by_cases hjl : j < nB
        · obtain ⟨o, ho⟩ : ∃ o, O'[i + j]? = some o := ⟨O'[i + j]'(by omega), List.getElem?_eq_getElem _⟩
          obtain ⟨b, hb⟩ : ∃ b, B[j]? = some b := ⟨B[j]'(by rw [← HNB.out]; exact hjl), List.getElem?_eq_getElem _⟩
          have ho6 := HD'.out.at ho
          have hb6 := HDB.out.at hb
          have cO := hcl (i + j) _ (uvs_at ho)
          have fO := (hth (i + j) (by omega)).2
          have cA : wr.cell? ⟨xa, i, none⟩ = some (.int .u64 (a : Int)) := (hbel.cell (p := ⟨xa, i, none⟩) HXA.out).trans (HCA.out i a HAi.out)
          have cB : wr.cell? ⟨xb, j, none⟩ = some (.int .u64 (b : Int)) := (hbel.cell (p := ⟨xb, j, none⟩) HXB.out).trans (HCB.out j b hb)
          have hab : a * b ≤ 65535 * 65535 := Nat.mul_le_mul (by omega) (by omega)
          obtain ⟨ab, habe⟩ : ∃ ab, ab = a * b := ⟨_, rfl⟩
          rw [← habe] at hab
          have habi : (a : Int) * (b : Int) = (ab : Int) := by rw [habe]; simp
          have hst := times_step HV'.out ho hb (rfl : o + a * b + c = _)
          rw [← habe] at hst
          have h00 : (0 : Int) ≤ i := by omega
          have h01 : (i : Int) < nA := by omega
          have h02 : (0 : Int) ≤ j := by omega
          have h03 : (j : Int) < nB := by omega
          have h04 : (i : Int) + j < nA + nB := by omega
          have HO := Lib.hid ho
          have HST := Lib.hid hst
          have HARR' := Lib.hid harr
          have HBEL' := Lib.hid hbel
          have HAB := Lib.hid habe
          clear ho hb hst harr hbel hcl hth hs habe hj hi
          obtain ⟨w0, rfl⟩ : ∃ w0, w0 = wr := ⟨wr, rfl⟩
          go_wp2
          go_quiet (fail)
          generalize hwz : w0.drewN nq = wz
          have HWZ := Lib.hid hwz
          have cO' : wz.cell? ⟨w.heap.size, i + j, none⟩ = some (.int .u64 (o : Int)) := by rw [← hwz]; exact cO
          have fO' : wz.frozen? ⟨w.heap.size, i + j, none⟩ = false := by rw [← hwz]; exact fO
          clear hwz cO fO cA cB
          go_wp2
          have hx6 : (o + ab + c) / 65536 < 65536 := by omega
          have hr6 : (o + ab + c) % 65536 < 65536 := by omega
          have hv : ((o : Int) + (ab : Int) + (c : Int)) % 65536 = (((o + ab + c) % 65536 : Nat) : Int) := by omega
          have hq : ((o : Int) + (ab : Int) + (c : Int)) / 65536 = (((o + ab + c) / 65536 : Nat) : Int) := by omega
          rw [hv, hq]
          refine ⟨⟨j + 1, (o + ab + c) / 65536, O'.set (i + j) ((o + ab + c) % 65536), _, hjl, by go_num, rfl, rfl, hx6, by rw [List.length_set]; exact hOl', Lib.hid (HD'.out.set _ _ hr6), Lib.hid HST.out, Lib.hid (fun k h1 h2 => by rw [List.getElem?_set_ne (by omega)]; exact HZ'.out k h1 h2), ?_, ?_⟩, by simp [intOf]; omega⟩
          · rw [uvs_set]
            exact Arr.set (by rw [← HWZ.out]; exact HARR'.out) (by rw [uvs_len]; omega) _
          · exact Below.setCell (by rw [← HWZ.out]; exact Below.drewN HBEL'.out) (p := ⟨w.heap.size, i + j, none⟩) (Nat.le_refl _) _
        · have hje : j = nB := by omega
          have ho := HZ'.out (i + nB) (Nat.le_refl _) (by omega)
          have cO := hcl (i + nB) _ (uvs_at ho)
          have fO := (hth (i + nB) (by omega)).2
          have hsv := val_set O' (i + nB) c 0 ho
          have hfull : B.take nB = B := by rw [HNB.out, List.take_length]
          have hval : valR (O'.set (i + nB) c) = valR (A.take (i + 1)) * valR B := by
            have h2 := HV'.out
            rw [hje, hfull, HVV.out, HV.out] at h2
            rw [val_take HAi.out, Nat.add_mul]
            have e1 : 65536 ^ i * a * valR B = a * (65536 ^ i * valR B) := by rw [Nat.mul_comm (65536 ^ i) a, Nat.mul_assoc]
            rw [e1]
            omega
          have HVAL := Lib.hid hval
          have HARR' := Lib.hid harr
          have HBEL' := Lib.hid hbel
          have HO := Lib.hid ho
          have h00 : (0 : Int) ≤ i := by omega
          have h01 : (i : Int) < nA := by omega
          have h04 : (i : Int) + nB < nA + nB := by omega
          subst hje
          clear harr hbel hcl hth hs ho hsv hfull hval
          go_wp2
          trace_state
          refine ⟨⟨i + 1, O'.set (i + j) c, hlt, by go_num, by rw [List.length_set]; exact hOl', Lib.hid (HD'.out.set _ _ hc), Lib.hid HVAL.out, Lib.hid (fun k h1 h2 => by rw [List.getElem?_set_ne (by omega)]; exact HZ'.out k (by omega) h2), ?_, ?_⟩, by simp [intOf]; omega⟩
          · rw [uvs_set]
            exact Arr.set HARR'.out (by rw [uvs_len]; omega) _
          · exact Below.setCell HBEL'.out (p := ⟨w.heap.size, i + j, none⟩) (Nat.le_refl _) _
    · have hie : i = nA := by omega
      have hfull : A.take i = A := by rw [hie, HNA.out, List.take_length]
      rw [hfull] at HV
      clear hfull hie
      have HARR := Lib.hid harr
      have HBEL := Lib.hid hbel
      clear harr hbel
      go_wp2
      go_ret
      exact ⟨_, O, rfl, HARR.out, by rw [hOl], HD.out, HV.out, HBEL.out⟩
end Go.Proofs.YtgjcblginkdinaaGreatDoor
