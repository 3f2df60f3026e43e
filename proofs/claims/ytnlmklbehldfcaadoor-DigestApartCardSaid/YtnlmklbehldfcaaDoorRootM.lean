/- Plain mathematics of the document's constants: the primes, numbers of base 65536, and the roots. No program is named here. -/
import Derived.Test.YtnlmklbehldfcaaDoorSumP
set_option linter.unusedVariables false
namespace Go.Proofs.YtnlmklbehldfcaaDoor

/-! ### The primes -/
def PL : List Nat := [2, 3, 5, 7, 11, 13, 17, 19, 23, 29, 31, 37, 41, 43, 47, 53,
  59, 61, 67, 71, 73, 79, 83, 89, 97, 101, 103, 107, 109, 113, 127, 131,
  137, 139, 149, 151, 157, 163, 167, 173, 179, 181, 191, 193, 197, 199, 211, 223,
  227, 229, 233, 239, 241, 251, 257, 263, 269, 271, 277, 281, 283, 293, 307, 311]
/-- Those below j + 2. -/
def pf (j : Nat) : List Nat := PL.filter fun p => decide (p < j + 2)
theorem pf_step : ∀ j, j < 310 → pf (j + 1) = if (pf j).all (fun p => (j + 2) % p != 0) then pf j ++ [j + 2] else pf j := of_decide_eq_true (by kernel_rfl)
theorem pf_take : ∀ j, j < 311 → pf j = PL.take (pf j).length := of_decide_eq_true (by kernel_rfl)
theorem pf_end : (pf 310).length = 64 := by kernel_rfl
theorem PL_len : PL.length = 64 := rfl
theorem PL_pos : ∀ p ∈ PL, 2 ≤ p ∧ p < 400 := of_decide_eq_true (by kernel_rfl)
theorem pf_pos {j p : Nat} (h : p ∈ pf j) : 2 ≤ p ∧ p < 400 := PL_pos p (List.mem_filter.1 h).1
theorem pf_le (j : Nat) : (pf j).length ≤ 64 := Nat.le_trans (List.length_filter_le _ _) (by decide)
theorem pf_more {j : Nat} (h : j ≤ 310) (h2 : (pf j).length < 64) : j < 310 := by
  rcases Nat.lt_or_ge j 310 with h' | h'
  · exact h'
  · have : j = 310 := by omega
    subst this
    rw [pf_end] at h2
    omega

/-! ### Numbers of base 65536, the lowest first -/
def val : List Nat → Nat
  | [] => 0
  | x :: r => x + 65536 * val r
theorem val_app : ∀ (a b : List Nat), val (a ++ b) = val a + 65536 ^ a.length * val b
  | [], b => by simp [val]
  | x :: a, b => by
    rw [List.cons_append, val, val, val_app a b, List.length_cons, Nat.pow_succ, Nat.mul_add, Nat.mul_comm (65536 ^ a.length) 65536, Nat.mul_assoc]
    omega
theorem val_lt : ∀ (l : List Nat), (∀ x ∈ l, x < 65536) → val l < 65536 ^ l.length
  | [], _ => by decide
  | x :: l, h => by
    have ih := val_lt l (fun y hy => h y (by simp [hy]))
    have hx := h x (by simp)
    rw [val, List.length_cons, Nat.pow_succ]
    omega
theorem val_snoc (l : List Nat) (x : Nat) : val (l ++ [x]) = val l + 65536 ^ l.length * x := by rw [val_app]; simp [val]
theorem val_take {l : List Nat} {k x : Nat} (h : l[k]? = some x) : val (l.take (k + 1)) = val (l.take k) + 65536 ^ k * x := by
  have hk : k < l.length := (List.getElem?_eq_some_iff.1 h).1
  rw [List.take_add_one, h]
  show val (l.take k ++ [x]) = _
  rw [val_snoc, List.length_take, Nat.min_eq_left (by omega)]
theorem val_set : ∀ (l : List Nat) (k x y : Nat), l[k]? = some y → val (l.set k x) + 65536 ^ k * y = val l + 65536 ^ k * x
  | [], k, x, y, h => by simp at h
  | z :: l, 0, x, y, h => by
    have : z = y := by simpa using h
    subst this
    show x + 65536 * val l + 65536 ^ 0 * z = z + 65536 * val l + 65536 ^ 0 * x
    omega
  | z :: l, k + 1, x, y, h => by
    have ih := val_set l k x y (by simpa using h)
    show z + 65536 * val (l.set k x) + 65536 ^ (k + 1) * y = z + 65536 * val l + 65536 ^ (k + 1) * x
    rw [Nat.pow_succ, Nat.mul_comm (65536 ^ k) 65536, Nat.mul_assoc, Nat.mul_assoc]
    omega
theorem val_drop {l : List Nat} {k x : Nat} (h : l[k]? = some x) : val (l.drop k) = x + 65536 * val (l.drop (k + 1)) := by
  have hk : k < l.length := (List.getElem?_eq_some_iff.1 h).1
  rw [List.drop_eq_getElem_cons hk, val]
  rw [List.getElem?_eq_getElem hk] at h
  rw [Option.some.inj h]

/-- One step of the inner loop. -/
theorem times_step {O B : List Nat} {V a b c o i j x : Nat} (h2 : val O + 65536 ^ (i + j) * c = V + a * (65536 ^ i * val (B.take j))) (ho : O[i + j]? = some o) (hb : B[j]? = some b) (hx : x = o + a * b + c) :
    val (O.set (i + j) (x % 65536)) + 65536 ^ (i + (j + 1)) * (x / 65536) = V + a * (65536 ^ i * val (B.take (j + 1))) := by
  have h1 := val_set O (i + j) (x % 65536) o ho
  rw [val_take hb]
  have hQ : 65536 ^ (i + j) = 65536 ^ i * 65536 ^ j := Nat.pow_add _ _ _
  have h5 : 65536 ^ (i + (j + 1)) = 65536 ^ (i + j) * 65536 := by rw [← Nat.add_assoc, Nat.pow_succ]
  rw [h5]
  have h6 : a * (65536 ^ i * (val (B.take j) + 65536 ^ j * b)) = a * (65536 ^ i * val (B.take j)) + 65536 ^ (i + j) * (a * b) := by
    rw [hQ, Nat.mul_add, Nat.mul_add]
    congr 1
    rw [Nat.mul_comm a b, ← Nat.mul_assoc (65536 ^ i), ← Nat.mul_assoc _ b a, Nat.mul_comm a]
  rw [h6]
  obtain ⟨Q, hQe⟩ : ∃ Q, Q = 65536 ^ (i + j) := ⟨_, rfl⟩
  rw [← hQe] at h1 h2 ⊢
  have h3 : Q * x = Q * (x % 65536) + Q * 65536 * (x / 65536) := by
    rw [Nat.mul_assoc, ← Nat.mul_add, Nat.mod_add_div]
  have h4 : Q * x = Q * o + Q * (a * b) + Q * c := by rw [hx, Nat.mul_add, Nat.mul_add]
  omega

/-! ### The roots -/
def R2 : List Nat := [6074000999, 7439101573, 9603838834, 11363415354, 14244795007,
  15485724812, 17708603819, 18721328409]
def R3 : List Nat := [5411319704, 6194414737, 7344290767, 8215976869, 9551921755,
  10098905585, 11043570340, 11460697813, 12214315672, 13195500289,
  13492127166, 14311783875, 14809980276, 15046980094, 15499789991,
  16133124468, 16720292289, 16907126662, 17444216262, 17784676812,
  17950125167, 18429019306, 18734950876, 19175934170, 19734090066,
  20001703533, 20132865992, 20390182855, 20516441075, 20764397895,
  21588763473, 21813078375, 22141143685, 22248366392, 22769593852,
  22871018771, 23170020180, 23461497531, 23651862830, 23931792517,
  24205322401, 24295138891, 24734567280, 24820601251, 24990902297,
  25075189284, 25569408389, 26045227120, 26200031510, 26276752392,
  26428864332, 26653801653, 26727943347, 27092625994, 27306805839,
  27517677555, 27725365998, 27793908591, 27997534228, 28131656200,
  28198240250, 28526537963, 28973835255, 29099129074]
theorem R2_ok : ∀ i, i < 8 → (R2.getD i 0) ^ 2 ≤ PL.getD i 0 * 65536 ^ 4 ∧ PL.getD i 0 * 65536 ^ 4 < (R2.getD i 0 + 1) ^ 2 ∧ R2.getD i 0 % 4294967296 = ((stW H0).getD i 0).toNat := of_decide_eq_true (by kernel_rfl)
theorem R3_ok : ∀ i, i < 64 → (R3.getD i 0) ^ 3 ≤ PL.getD i 0 * 65536 ^ 6 ∧ PL.getD i 0 * 65536 ^ 6 < (R3.getD i 0 + 1) ^ 3 ∧ R3.getD i 0 % 4294967296 = (KK.getD i 0).toNat := of_decide_eq_true (by kernel_rfl)
theorem root_iff {r N k mid : Nat} (hk : 0 < k) (h1 : r ^ k ≤ N) (h2 : N < (r + 1) ^ k) : N < mid ^ k ↔ r < mid := by
  constructor
  · intro h
    rcases Nat.lt_or_ge r mid with h' | h'
    · exact h'
    · have := Nat.pow_le_pow_left h' k
      omega
  · intro h
    exact Nat.lt_of_lt_of_le h2 (Nat.pow_le_pow_left h k)
end Go.Proofs.YtnlmklbehldfcaaDoor
