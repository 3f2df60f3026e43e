/- Disks of sectors: mathematics. No function of the program is named here. The head of a commit: its bytes. Mathematics alone. -/
import Derived.Test.YthamfbfeokmhgaaGreatDoorU0
import Derived.Test.YthamfbfeokmhgaaGreatDoorU12
import Derived.Test.YthamfbfeokmhgaaGreatDoorU4
import Derived.Test.YthamfbfeokmhgaaGreatDoorU6
set_option linter.unusedVariables false
namespace Go.Proofs.YthamfbfeokmhgaaGreatDoor

abbrev Pnd := List (Nat × ByteArray)
def sk (kp : Nat → Bool) (S : List ByteArray) (Q : Pnd) : Nat → List ByteArray
  | 0 => S
  | j + 1 => match Q[j]? with
    | some q => if kp j = true then (sk kp S Q j).set q.1 q.2 else sk kp S Q j
    | none => sk kp S Q j
theorem sk_len (kp : Nat → Bool) (S : List ByteArray) (Q : Pnd) : ∀ j, (sk kp S Q j).length = S.length
  | 0 => rfl
  | j + 1 => by
    have ih := sk_len kp S Q j
    unfold sk
    cases Q[j]? with
    | none => exact ih
    | some q =>
      simp only
      split
      · rw [List.length_set]; exact ih
      · exact ih
theorem sk_succ {kp : Nat → Bool} {S : List ByteArray} {Q : Pnd} {j : Nat} {q : Nat × ByteArray} (h : Q[j]? = some q) : sk kp S Q (j + 1) = if kp j = true then (sk kp S Q j).set q.1 q.2 else sk kp S Q j := by
  rw [sk, h]
def pk (T : List ByteArray) (A : List ByteArray) (Q : Pnd) : Nat → List ByteArray
  | 0 => A
  | j + 1 => match Q[j]? with
    | some q => (pk T A Q j).set q.1 (T.getD q.1 ByteArray.empty)
    | none => pk T A Q j
theorem pk_succ {T A : List ByteArray} {Q : Pnd} {j : Nat} {q : Nat × ByteArray} (h : Q[j]? = some q) : pk T A Q (j + 1) = (pk T A Q j).set q.1 (T.getD q.1 ByteArray.empty) := by
  rw [pk, h]
theorem pk_len (T A : List ByteArray) (Q : Pnd) : ∀ j, (pk T A Q j).length = A.length
  | 0 => rfl
  | j + 1 => by
    have ih := pk_len T A Q j
    unfold pk
    cases Q[j]? with
    | none => exact ih
    | some q => simp only; rw [List.length_set]; exact ih
theorem getD_at {T : List ByteArray} {i : Nat} (h : i < T.length) : T[i]? = some (T.getD i ByteArray.empty) := by
  rw [List.getD_eq_getElem?_getD, List.getElem?_eq_getElem h]; rfl
theorem pk_at {T A : List ByteArray} {Q : Pnd} (hT : T.length = A.length) (i : Nat) : ∀ j, ((∃ k < j, ∃ q, Q[k]? = some q ∧ q.1 = i) → (pk T A Q j)[i]? = T[i]?) ∧ ((¬ ∃ k < j, ∃ q, Q[k]? = some q ∧ q.1 = i) → (pk T A Q j)[i]? = A[i]?)
  | 0 => ⟨fun ⟨k, hk, _⟩ => absurd hk (Nat.not_lt_zero _), fun _ => rfl⟩
  | j + 1 => by
    obtain ⟨h1, h2⟩ := pk_at (Q := Q) hT i j
    have hl := pk_len T A Q j
    cases hq : Q[j]? with
    | none =>
      have e : pk T A Q (j + 1) = pk T A Q j := by rw [pk, hq]
      rw [e]
      refine ⟨fun ⟨k, hk, q, hq', hi⟩ => h1 ⟨k, ?_, q, hq', hi⟩, fun hn => h2 (fun ⟨k, hk, r⟩ => hn ⟨k, by omega, r⟩)⟩
      rcases Nat.lt_or_ge k j with h | h
      · exact h
      · obtain rfl : k = j := by omega
        rw [hq] at hq'; cases hq'
    | some q =>
      rw [pk_succ hq]
      by_cases e : q.1 = i
      · refine ⟨fun _ => ?_, fun hn => absurd ⟨j, by omega, q, hq, e⟩ hn⟩
        rw [e]
        by_cases hi : i < T.length
        · rw [List.getElem?_set_self (by omega), getD_at hi]
        · rw [List.getElem?_eq_none (by rw [List.length_set]; omega), List.getElem?_eq_none (by omega)]
      · rw [List.getElem?_set_ne e]
        refine ⟨fun ⟨k, hk, q', hq', hi⟩ => h1 ⟨k, ?_, q', hq', hi⟩, fun hn => h2 (fun ⟨k, hk, r⟩ => hn ⟨k, by omega, r⟩)⟩
        rcases Nat.lt_or_ge k j with h | h
        · exact h
        · obtain rfl : k = j := by omega
          rw [hq] at hq'; cases hq'
          exact absurd hi e
theorem sk_miss {kp : Nat → Bool} {S : List ByteArray} {Q : Pnd} {i : Nat} : ∀ {j : Nat}, (¬ ∃ k < j, ∃ q, Q[k]? = some q ∧ q.1 = i) → (sk kp S Q j)[i]? = S[i]?
  | 0, _ => rfl
  | j + 1, h => by
    have ih := sk_miss (kp := kp) (S := S) (Q := Q) (i := i) (j := j) (fun ⟨k, hk, r⟩ => h ⟨k, by omega, r⟩)
    cases hq : Q[j]? with
    | none => rw [sk, hq]; exact ih
    | some q =>
      rw [sk_succ hq]
      split
      · rw [List.getElem?_set_ne (fun e => h ⟨j, by omega, q, hq, e⟩)]; exact ih
      · exact ih
theorem pk_all (kp kq : Nat → Bool) (S : List ByteArray) (Q : Pnd) : pk (sk kp S Q Q.length) (sk kq S Q Q.length) Q Q.length = sk kp S Q Q.length := by
  apply List.ext_getElem?
  intro i
  obtain ⟨h1, h2⟩ := pk_at (T := sk kp S Q Q.length) (A := sk kq S Q Q.length) (Q := Q) (by rw [sk_len, sk_len]) i Q.length
  by_cases e : ∃ k < Q.length, ∃ q, Q[k]? = some q ∧ q.1 = i
  · exact h1 e
  · rw [h2 e, sk_miss e, sk_miss e]
theorem sk_app {kp : Nat → Bool} {S : List ByteArray} {Q R : Pnd} : ∀ {j : Nat}, j ≤ Q.length → sk kp S (Q ++ R) j = sk kp S Q j
  | 0, _ => rfl
  | j + 1, h => by
    have ih := sk_app (kp := kp) (S := S) (Q := Q) (R := R) (j := j) (by omega)
    obtain ⟨q, hq⟩ : ∃ q, Q[j]? = some q := ⟨Q[j]'(by omega), by simp⟩
    have hq2 : (Q ++ R)[j]? = some q := by rw [List.getElem?_append_left (by omega)]; exact hq
    rw [sk_succ hq, sk_succ hq2, ih]
abbrev allK : Nat → Bool := fun _ => true
theorem shown_push (S : List ByteArray) (Q : Pnd) (q : Nat × ByteArray) : sk allK S (Q ++ [q]) (Q ++ [q]).length = (sk allK S Q Q.length).set q.1 q.2 := by
  have h : (Q ++ [q])[Q.length]? = some q := by simp
  rw [List.length_append, List.length_singleton, sk_succ h, if_pos rfl, sk_app (Nat.le_refl _)]
theorem sk_all {kp : Nat → Bool} {S : List ByteArray} {Q : Pnd} {P : ByteArray → Prop} (hS : ∀ s ∈ S, P s) (hQ : ∀ q ∈ Q, P q.2) : ∀ j, ∀ s ∈ sk kp S Q j, P s
  | 0 => hS
  | j + 1 => by
    have ih := sk_all (kp := kp) hS hQ j
    cases hq : Q[j]? with
    | none => rw [sk, hq]; exact ih
    | some q =>
      rw [sk_succ hq]
      split
      · intro s hs
        rcases List.mem_or_eq_of_mem_set hs with h | h
        · exact ih s h
        · rw [h]; exact hQ q (List.mem_of_getElem? hq)
      · exact ih
theorem sk_from {kp : Nat → Bool} {S : List ByteArray} {Q : Pnd} {i : Nat} {s : ByteArray} : ∀ {j : Nat}, (sk kp S Q j)[i]? = some s → S[i]? = some s ∨ ∃ q ∈ Q, q.1 = i ∧ q.2 = s
  | 0, h => .inl h
  | j + 1, h => by
    cases hq : Q[j]? with
    | none =>
      rw [sk, hq] at h
      exact sk_from h
    | some q =>
      rw [sk_succ hq] at h
      split at h
      · by_cases e : q.1 = i
        · subst e
          by_cases hl : q.1 < (sk kp S Q j).length
          · rw [List.getElem?_set_self hl] at h
            exact .inr ⟨q, List.mem_of_getElem? hq, rfl, Option.some.inj h⟩
          · rw [List.getElem?_eq_none (by rw [List.length_set]; omega)] at h
            cases h
        · rw [List.getElem?_set_ne e] at h
          exact sk_from h
      · exact sk_from h

structure Dk where
  sure : List ByteArray
  pend : Pnd
  fuel : Int
  off : Bool
def Dk.shown (D : Dk) : List ByteArray := sk allK D.sure D.pend D.pend.length
theorem Dk.shown_len (D : Dk) : D.shown.length = D.sure.length := sk_len _ _ _ _
structure Dk.Ok (D : Dk) : Prop where
  n1 : 1 ≤ D.sure.length
  n2 : D.sure.length ≤ 4096
  pl : ∀ q ∈ D.pend, q.1 < D.sure.length ∧ q.2.size ≤ 512
  sl : ∀ s ∈ D.sure, s.size ≤ 512
  f1 : -1 ≤ D.fuel
  f2 : D.fuel ≤ 9223372036854775807
theorem Dk.Ok.shown {D : Dk} (h : D.Ok) : ∀ s ∈ D.shown, s.size ≤ 512 := sk_all h.sl (fun q hq => (h.pl q hq).2) _
def stepF (f : Int) : Int := if 0 < f then f - 1 else f
def writeD (D : Dk) (i : Int) (s : ByteArray) : Dk × Int :=
  if D.off = true then (D, 20) else if i < 0 ∨ (D.sure.length : Int) ≤ i ∨ 512 < s.size then (D, 1) else if D.fuel = 0 then ({ D with off := true }, 20)
  else ({ D with fuel := stepF D.fuel, pend := D.pend ++ [(i.toNat, s)] }, 0)
def flushD (D : Dk) : Dk × Int :=
  if D.off = true then (D, 20) else if D.fuel = 0 then ({ D with off := true }, 20)
  else ({ sure := D.shown, pend := [], fuel := stepF D.fuel, off := D.off }, 0)
def fuelD (D : Dk) (n : Int) : Dk := { D with fuel := max n (-1) }
def fallD (kp : Nat → Bool) (D : Dk) : Dk := { sure := sk kp D.sure D.pend D.pend.length, pend := [], fuel := -1, off := false }
theorem write_ok {D : Dk} (h : D.Ok) (i : Int) (s : ByteArray) : (writeD D i s).1.Ok := by
  unfold writeD
  split
  · exact h
  · split
    · exact h
    · rename_i _ hr
      split
      · exact ⟨h.n1, h.n2, h.pl, h.sl, h.f1, h.f2⟩
      · have h1 := h.f1
        have h2 := h.f2
        refine ⟨h.n1, h.n2, fun q hq => ?_, h.sl, ?_, ?_⟩
        · rcases List.mem_append.1 hq with hq | hq
          · exact h.pl q hq
          · rw [List.mem_singleton] at hq
            subst hq
            simp only
            omega
        · show -1 ≤ stepF D.fuel; unfold stepF; split <;> omega
        · show stepF D.fuel ≤ _; unfold stepF; split <;> omega
theorem flush_ok {D : Dk} (h : D.Ok) : (flushD D).1.Ok := by
  unfold flushD
  split
  · exact h
  · split
    · exact ⟨h.n1, h.n2, h.pl, h.sl, h.f1, h.f2⟩
    · have h1 := h.f1
      have h2 := h.f2
      refine ⟨by rw [D.shown_len]; exact h.n1, by rw [D.shown_len]; exact h.n2, fun q hq => (by cases hq), h.shown, ?_, ?_⟩
      · show -1 ≤ stepF D.fuel; unfold stepF; split <;> omega
      · show stepF D.fuel ≤ _; unfold stepF; split <;> omega
theorem fuel_ok {D : Dk} (h : D.Ok) {n : Int} (hn : n ≤ 9223372036854775807) : (fuelD D n).Ok :=
  ⟨h.n1, h.n2, h.pl, h.sl, by show -1 ≤ max n (-1); omega, by show max n (-1) ≤ _; omega⟩
theorem fall_ok {D : Dk} (h : D.Ok) (kp : Nat → Bool) : (fallD kp D).Ok :=
  ⟨by show 1 ≤ (sk _ _ _ _).length; rw [sk_len]; exact h.n1, by show (sk _ _ _ _).length ≤ _; rw [sk_len]; exact h.n2, fun q hq => (by cases hq), sk_all h.sl (fun q hq => (h.pl q hq).2) _, by show (-1 : Int) ≤ -1; omega, by show (-1 : Int) ≤ _; omega⟩
def fullB (s : ByteArray) : ByteArray := ⟨(s.data.toList ++ List.replicate (512 - s.size) 0).toArray⟩
theorem fullB_size {s : ByteArray} (h : s.size ≤ 512) : (fullB s).size = 512 := by
  have : s.data.toList.length = s.size := by rw [Array.length_toList]; rfl
  show (s.data.toList ++ List.replicate (512 - s.size) 0).toArray.size = 512
  simp only [List.size_toArray, List.length_append, List.length_replicate, this]
  omega
def readD (D : Dk) (i : Int) : ByteArray × Int :=
  if D.off = true then (⟨#[]⟩, 20) else if i < 0 ∨ (D.sure.length : Int) ≤ i then (⟨#[]⟩, 1) else (fullB (D.shown.getD i.toNat ByteArray.empty), 0)
def newD (n : Nat) : Dk := { sure := List.replicate n ByteArray.empty, pend := [], fuel := -1, off := false }
theorem new_ok {n : Nat} (h1 : 1 ≤ n) (h2 : n ≤ 4096) : (newD n).Ok :=
  ⟨by show 1 ≤ (List.replicate _ _).length; rw [List.length_replicate]; exact h1, by show (List.replicate _ _).length ≤ _; rw [List.length_replicate]; exact h2, fun q hq => (by cases hq), fun s hs => by rw [(List.mem_replicate.1 hs).2]; exact Nat.zero_le _, by show (-1 : Int) ≤ -1; omega, by show (-1 : Int) ≤ _; omega⟩
end Go.Proofs.YthamfbfeokmhgaaGreatDoor
set_option linter.unusedVariables false
namespace Go.Proofs.YthamfbfeokmhgaaGreatDoor
open Go.Lib (decDigits itoa)

abbrev Pgs := Pnd
def rnT (n : Nat) : Tm := .mk false (tx (itoa n)) []
def numL (l : Pgs) : List Tm := l.map fun p => rnT p.1
def numsT (l : Pgs) : Tm := .mk true noText (numL l)
def dataL (l : Pgs) : List UInt8 := l.flatMap fun p => (fullB p.2).data.toList
abbrev redoB : ByteArray := ⟨#[114, 101, 100, 111]⟩
def digL3 (l : Pgs) : List UInt8 := sumL ((numsT l).bytes ++ dataL l)
def headT (l : Pgs) : Tm := .mk true noText [.mk false redoB [], numsT l, .mk false (tx (digL3 l)) []]
def headB (l : Pgs) : ByteArray := tx (headT l).bytes
theorem digL3_len (l : Pgs) : (digL3 l).length = 32 := by rw [digL3, sumL, sha_same, shaR_len]
theorem tx_lenR (l : List UInt8) : (tx l).size = l.length := by show l.toArray.size = _; simp
theorem dig_len {n : Nat} (h : n < 10000) : (itoa (n : Int)).length ≤ 4 := by
  rw [itoa_nat]
  exact dec_len 3 n (by omega)
theorem rnT_len {n : Nat} (h : n < 10000) : (rnT n).bytes.length ≤ 6 := by
  rw [rnT, Tm.bytes, if_neg (by decide), List.length_append, List.length_cons, tx_lenR, tx_toList]
  have h1 := dig_len h
  have h2 := dec_len 0 (itoa (n : Int)).length (by omega)
  omega
theorem rnT_ok (n : Nat) : (rnT n).ok = true := rfl
theorem rnT_depth (n : Nat) : (rnT n).depth = 0 := rfl
theorem nums_len : ∀ {l : Pgs}, (∀ p ∈ l, p.1 < 10000) → (Tm.bytess (numL l)).length ≤ 6 * l.length
  | [], h => by simp [numL, Tm.bytess]
  | p :: r, h => by
    have ih := nums_len (l := r) fun q hq => h q (by simp [hq])
    have h1 := rnT_len (h p (by simp))
    have e : numL (p :: r) = rnT p.1 :: numL r := rfl
    rw [e, Tm.bytess, List.length_append, List.length_cons]
    omega
theorem nums_ok : ∀ (l : Pgs), Tm.oks (numL l) = true
  | [] => rfl
  | p :: r => by
    have e : numL (p :: r) = rnT p.1 :: numL r := rfl
    rw [e, Tm.oks, rnT_ok, nums_ok r]; rfl
theorem nums_depth : ∀ (l : Pgs), Tm.depths (numL l) = 0
  | [] => rfl
  | p :: r => by
    have e : numL (p :: r) = rnT p.1 :: numL r := rfl
    rw [e, Tm.depths, rnT_depth, nums_depth r]; rfl
theorem numsT_bytes (l : Pgs) : (numsT l).bytes = 40 :: (Tm.bytess (numL l) ++ [41]) := by rw [numsT, Tm.bytes, if_pos rfl]
theorem numsT_ok (l : Pgs) : (numsT l).ok = true := by
  rw [numsT, Tm.ok, if_pos rfl, nums_ok]; rfl
theorem numsT_depth (l : Pgs) : (numsT l).depth = 1 := by rw [numsT, Tm.depth, if_pos rfl, nums_depth]
theorem headT_ok (l : Pgs) : (headT l).ok = true := by
  rw [headT, Tm.ok, if_pos rfl]
  simp [Tm.oks, Tm.ok, numsT_ok, noText]
  rfl
theorem headT_depth (l : Pgs) : (headT l).depth = 2 := by
  rw [headT, Tm.depth, if_pos rfl]
  simp [Tm.depths, Tm.depth, numsT_depth]
theorem headT_bytes (l : Pgs) : (headT l).bytes = [40, 52, 58, 114, 101, 100, 111] ++ (numsT l).bytes ++ ([51, 50, 58] ++ digL3 l) ++ [41] := by
  rw [headT, Tm.bytes, if_pos rfl]
  simp only [Tm.bytess, Tm.bytes, if_neg (show ¬ (false = true) by decide), tx_lenR, digL3_len]
  have e0 : [(114 : UInt8), 101, 100, 111].length = 4 := rfl
  have e1 : decDigits 4 = [52] := by rw [decDigits, dif_pos (by decide)]; rfl
  have e2 : decDigits 32 = [51, 50] := by rw [decDigits, dif_neg (by decide), show 32 / 10 = 3 from rfl, decDigits, dif_pos (by decide)]; rfl
  rw [e0, e1, e2]
  simp
theorem headT_len {l : Pgs} (h : ∀ p ∈ l, p.1 < 10000) (hl : l.length ≤ 63) : (headT l).bytes.length ≤ 512 := by
  have := nums_len h
  rw [headT_bytes, numsT_bytes]
  simp only [List.length_append, List.length_cons, List.length_nil, digL3_len]
  omega
theorem headB_size {l : Pgs} (h : ∀ p ∈ l, p.1 < 10000) (hl : l.length ≤ 63) : (headB l).size ≤ 512 := by rw [headB, tx_lenR]; exact headT_len h hl
theorem headB_ne (l : Pgs) : headB l ≠ ByteArray.empty := fun e => by
  have h1 : (headB l).data.toList = (ByteArray.empty).data.toList := by rw [e]
  rw [headB, tx_toList, headT_bytes] at h1
  simp at h1
theorem head_same {l m : Pgs} (h : l.map (fun p => (p.1, fullB p.2)) = m.map (fun p => (p.1, fullB p.2))) : headT l = headT m := by
  have h1 : numL l = numL m := by
    have := congrArg (List.map fun q : Nat × ByteArray => rnT q.1) h
    simpa [numL, List.map_map, Function.comp_def] using this
  have h2 : dataL l = dataL m := by
    have := congrArg (List.flatMap fun q : Nat × ByteArray => q.2.data.toList) h
    simpa [dataL, List.flatMap_map] using this
  simp only [headT, digL3, numsT, h1, h2]
def trimZ (l : List UInt8) : List UInt8 := (l.reverse.dropWhile (· == 0)).reverse
theorem trimZ_zero (l : List UInt8) : trimZ (l ++ [0]) = trimZ l := by simp [trimZ]
theorem trimZ_end {l : List UInt8} {c : UInt8} (h : c ≠ 0) : trimZ (l ++ [c]) = l ++ [c] := by
  have : (c == 0) = false := by simpa using h
  simp [trimZ, this]
theorem trimZ_zeros (l : List UInt8) : ∀ k, trimZ (l ++ List.replicate k 0) = trimZ l
  | 0 => by simp
  | k + 1 => by
    rw [List.replicate_succ', ← List.append_assoc, trimZ_zero]
    exact trimZ_zeros l k
theorem trim_full (s : ByteArray) : trimZ (fullB s).data.toList = trimZ s.data.toList := by
  unfold fullB
  simp only
  exact trimZ_zeros _ _
theorem trim_head (l : Pgs) : trimZ (fullB (headB l)).data.toList = (headT l).bytes := by
  rw [trim_full, headB, tx_toList, headT_bytes]
  exact trimZ_end (by decide)
theorem trim_empty : trimZ (fullB ByteArray.empty).data.toList = [] := by
  rw [trim_full]; rfl
theorem dataL_len {l : Pgs} (h : ∀ p ∈ l, p.2.size ≤ 512) : (dataL l).length = 512 * l.length := by
  induction l with
  | nil => rfl
  | cons p r ih =>
    have e : dataL (p :: r) = (fullB p.2).data.toList ++ dataL r := rfl
    have h1 := fullB_size (h p (by simp))
    have h2 : (fullB p.2).data.toList.length = (fullB p.2).size := Array.length_toList
    rw [e, List.length_append, ih fun q hq => h q (by simp [hq]), h2, h1, List.length_cons]
    omega
end Go.Proofs.YthamfbfeokmhgaaGreatDoor
