/- Disks of sectors: mathematics. No function of the program is named here. A disk in memory: its box, its rows, what is pending. No function of the program is named here. -/
import Derived.Test.YthamfbfeokmhgaaGreatDoorV6
set_option linter.unusedVariables false
namespace Go.Proofs.YthamfbfeokmhgaaGreatDoor

abbrev Pnd := List (Nat × ByteArray)
def sk (kp : Nat → Bool) (S : List ByteArray) (Q : Pnd) : Nat → List ByteArray
  | 0 => S
  | j + 1 => match Q[j]? with
    | some q => if kp j = true then (sk kp S Q j).set q.1 q.2 else sk kp S Q j
    | none => sk kp S Q j
theorem sk_len (kp : Nat → Bool) (S : List ByteArray) (Q : Pnd) : ∀ j, (sk kp S Q j).length = S.length
  | 0 => rfl
  | j + 1 => by
    have ih := sk_len kp S Q j
    unfold sk
    cases Q[j]? with
    | none => exact ih
    | some q =>
      simp only
      split
      · rw [List.length_set]; exact ih
      · exact ih
theorem sk_succ {kp : Nat → Bool} {S : List ByteArray} {Q : Pnd} {j : Nat} {q : Nat × ByteArray} (h : Q[j]? = some q) : sk kp S Q (j + 1) = if kp j = true then (sk kp S Q j).set q.1 q.2 else sk kp S Q j := by
  rw [sk, h]
def pk (T : List ByteArray) (A : List ByteArray) (Q : Pnd) : Nat → List ByteArray
  | 0 => A
  | j + 1 => match Q[j]? with
    | some q => (pk T A Q j).set q.1 (T.getD q.1 ByteArray.empty)
    | none => pk T A Q j
theorem pk_succ {T A : List ByteArray} {Q : Pnd} {j : Nat} {q : Nat × ByteArray} (h : Q[j]? = some q) : pk T A Q (j + 1) = (pk T A Q j).set q.1 (T.getD q.1 ByteArray.empty) := by
  rw [pk, h]
theorem pk_len (T A : List ByteArray) (Q : Pnd) : ∀ j, (pk T A Q j).length = A.length
  | 0 => rfl
  | j + 1 => by
    have ih := pk_len T A Q j
    unfold pk
    cases Q[j]? with
    | none => exact ih
    | some q => simp only; rw [List.length_set]; exact ih
theorem getD_at {T : List ByteArray} {i : Nat} (h : i < T.length) : T[i]? = some (T.getD i ByteArray.empty) := by
  rw [List.getD_eq_getElem?_getD, List.getElem?_eq_getElem h]; rfl
theorem pk_at {T A : List ByteArray} {Q : Pnd} (hT : T.length = A.length) (i : Nat) : ∀ j, ((∃ k < j, ∃ q, Q[k]? = some q ∧ q.1 = i) → (pk T A Q j)[i]? = T[i]?) ∧ ((¬ ∃ k < j, ∃ q, Q[k]? = some q ∧ q.1 = i) → (pk T A Q j)[i]? = A[i]?)
  | 0 => ⟨fun ⟨k, hk, _⟩ => absurd hk (Nat.not_lt_zero _), fun _ => rfl⟩
  | j + 1 => by
    obtain ⟨h1, h2⟩ := pk_at (Q := Q) hT i j
    have hl := pk_len T A Q j
    cases hq : Q[j]? with
    | none =>
      have e : pk T A Q (j + 1) = pk T A Q j := by rw [pk, hq]
      rw [e]
      refine ⟨fun ⟨k, hk, q, hq', hi⟩ => h1 ⟨k, ?_, q, hq', hi⟩, fun hn => h2 (fun ⟨k, hk, r⟩ => hn ⟨k, by omega, r⟩)⟩
      rcases Nat.lt_or_ge k j with h | h
      · exact h
      · obtain rfl : k = j := by omega
        rw [hq] at hq'; cases hq'
    | some q =>
      rw [pk_succ hq]
      by_cases e : q.1 = i
      · refine ⟨fun _ => ?_, fun hn => absurd ⟨j, by omega, q, hq, e⟩ hn⟩
        rw [e]
        by_cases hi : i < T.length
        · rw [List.getElem?_set_self (by omega), getD_at hi]
        · rw [List.getElem?_eq_none (by rw [List.length_set]; omega), List.getElem?_eq_none (by omega)]
      · rw [List.getElem?_set_ne e]
        refine ⟨fun ⟨k, hk, q', hq', hi⟩ => h1 ⟨k, ?_, q', hq', hi⟩, fun hn => h2 (fun ⟨k, hk, r⟩ => hn ⟨k, by omega, r⟩)⟩
        rcases Nat.lt_or_ge k j with h | h
        · exact h
        · obtain rfl : k = j := by omega
          rw [hq] at hq'; cases hq'
          exact absurd hi e
theorem sk_miss {kp : Nat → Bool} {S : List ByteArray} {Q : Pnd} {i : Nat} : ∀ {j : Nat}, (¬ ∃ k < j, ∃ q, Q[k]? = some q ∧ q.1 = i) → (sk kp S Q j)[i]? = S[i]?
  | 0, _ => rfl
  | j + 1, h => by
    have ih := sk_miss (kp := kp) (S := S) (Q := Q) (i := i) (j := j) (fun ⟨k, hk, r⟩ => h ⟨k, by omega, r⟩)
    cases hq : Q[j]? with
    | none => rw [sk, hq]; exact ih
    | some q =>
      rw [sk_succ hq]
      split
      · rw [List.getElem?_set_ne (fun e => h ⟨j, by omega, q, hq, e⟩)]; exact ih
      · exact ih
theorem pk_all (kp kq : Nat → Bool) (S : List ByteArray) (Q : Pnd) : pk (sk kp S Q Q.length) (sk kq S Q Q.length) Q Q.length = sk kp S Q Q.length := by
  apply List.ext_getElem?
  intro i
  obtain ⟨h1, h2⟩ := pk_at (T := sk kp S Q Q.length) (A := sk kq S Q Q.length) (Q := Q) (by rw [sk_len, sk_len]) i Q.length
  by_cases e : ∃ k < Q.length, ∃ q, Q[k]? = some q ∧ q.1 = i
  · exact h1 e
  · rw [h2 e, sk_miss e, sk_miss e]
theorem sk_app {kp : Nat → Bool} {S : List ByteArray} {Q R : Pnd} : ∀ {j : Nat}, j ≤ Q.length → sk kp S (Q ++ R) j = sk kp S Q j
  | 0, _ => rfl
  | j + 1, h => by
    have ih := sk_app (kp := kp) (S := S) (Q := Q) (R := R) (j := j) (by omega)
    obtain ⟨q, hq⟩ : ∃ q, Q[j]? = some q := ⟨Q[j]'(by omega), by simp⟩
    have hq2 : (Q ++ R)[j]? = some q := by rw [List.getElem?_append_left (by omega)]; exact hq
    rw [sk_succ hq, sk_succ hq2, ih]
abbrev allK : Nat → Bool := fun _ => true
theorem shown_push (S : List ByteArray) (Q : Pnd) (q : Nat × ByteArray) : sk allK S (Q ++ [q]) (Q ++ [q]).length = (sk allK S Q Q.length).set q.1 q.2 := by
  have h : (Q ++ [q])[Q.length]? = some q := by simp
  rw [List.length_append, List.length_singleton, sk_succ h, if_pos rfl, sk_app (Nat.le_refl _)]
theorem sk_all {kp : Nat → Bool} {S : List ByteArray} {Q : Pnd} {P : ByteArray → Prop} (hS : ∀ s ∈ S, P s) (hQ : ∀ q ∈ Q, P q.2) : ∀ j, ∀ s ∈ sk kp S Q j, P s
  | 0 => hS
  | j + 1 => by
    have ih := sk_all (kp := kp) hS hQ j
    cases hq : Q[j]? with
    | none => rw [sk, hq]; exact ih
    | some q =>
      rw [sk_succ hq]
      split
      · intro s hs
        rcases List.mem_or_eq_of_mem_set hs with h | h
        · exact ih s h
        · rw [h]; exact hQ q (List.mem_of_getElem? hq)
      · exact ih
theorem sk_from {kp : Nat → Bool} {S : List ByteArray} {Q : Pnd} {i : Nat} {s : ByteArray} : ∀ {j : Nat}, (sk kp S Q j)[i]? = some s → S[i]? = some s ∨ ∃ q ∈ Q, q.1 = i ∧ q.2 = s
  | 0, h => .inl h
  | j + 1, h => by
    cases hq : Q[j]? with
    | none =>
      rw [sk, hq] at h
      exact sk_from h
    | some q =>
      rw [sk_succ hq] at h
      split at h
      · by_cases e : q.1 = i
        · subst e
          by_cases hl : q.1 < (sk kp S Q j).length
          · rw [List.getElem?_set_self hl] at h
            exact .inr ⟨q, List.mem_of_getElem? hq, rfl, Option.some.inj h⟩
          · rw [List.getElem?_eq_none (by rw [List.length_set]; omega)] at h
            cases h
        · rw [List.getElem?_set_ne e] at h
          exact sk_from h
      · exact sk_from h

structure Dk where
  sure : List ByteArray
  pend : Pnd
  fuel : Int
  off : Bool
def Dk.shown (D : Dk) : List ByteArray := sk allK D.sure D.pend D.pend.length
theorem Dk.shown_len (D : Dk) : D.shown.length = D.sure.length := sk_len _ _ _ _
structure Dk.Ok (D : Dk) : Prop where
  n1 : 1 ≤ D.sure.length
  n2 : D.sure.length ≤ 4096
  pl : ∀ q ∈ D.pend, q.1 < D.sure.length ∧ q.2.size ≤ 512
  sl : ∀ s ∈ D.sure, s.size ≤ 512
  f1 : -1 ≤ D.fuel
  f2 : D.fuel ≤ 9223372036854775807
theorem Dk.Ok.shown {D : Dk} (h : D.Ok) : ∀ s ∈ D.shown, s.size ≤ 512 := sk_all h.sl (fun q hq => (h.pl q hq).2) _
def stepF (f : Int) : Int := if 0 < f then f - 1 else f
def writeD (D : Dk) (i : Int) (s : ByteArray) : Dk × Int :=
  if D.off = true then (D, 20) else if i < 0 ∨ (D.sure.length : Int) ≤ i ∨ 512 < s.size then (D, 1) else if D.fuel = 0 then ({ D with off := true }, 20)
  else ({ D with fuel := stepF D.fuel, pend := D.pend ++ [(i.toNat, s)] }, 0)
def flushD (D : Dk) : Dk × Int :=
  if D.off = true then (D, 20) else if D.fuel = 0 then ({ D with off := true }, 20)
  else ({ sure := D.shown, pend := [], fuel := stepF D.fuel, off := D.off }, 0)
def fuelD (D : Dk) (n : Int) : Dk := { D with fuel := max n (-1) }
def fallD (kp : Nat → Bool) (D : Dk) : Dk := { sure := sk kp D.sure D.pend D.pend.length, pend := [], fuel := -1, off := false }
theorem write_ok {D : Dk} (h : D.Ok) (i : Int) (s : ByteArray) : (writeD D i s).1.Ok := by
  unfold writeD
  split
  · exact h
  · split
    · exact h
    · rename_i _ hr
      split
      · exact ⟨h.n1, h.n2, h.pl, h.sl, h.f1, h.f2⟩
      · have h1 := h.f1
        have h2 := h.f2
        refine ⟨h.n1, h.n2, fun q hq => ?_, h.sl, ?_, ?_⟩
        · rcases List.mem_append.1 hq with hq | hq
          · exact h.pl q hq
          · rw [List.mem_singleton] at hq
            subst hq
            simp only
            omega
        · show -1 ≤ stepF D.fuel; unfold stepF; split <;> omega
        · show stepF D.fuel ≤ _; unfold stepF; split <;> omega
theorem flush_ok {D : Dk} (h : D.Ok) : (flushD D).1.Ok := by
  unfold flushD
  split
  · exact h
  · split
    · exact ⟨h.n1, h.n2, h.pl, h.sl, h.f1, h.f2⟩
    · have h1 := h.f1
      have h2 := h.f2
      refine ⟨by rw [D.shown_len]; exact h.n1, by rw [D.shown_len]; exact h.n2, fun q hq => (by cases hq), h.shown, ?_, ?_⟩
      · show -1 ≤ stepF D.fuel; unfold stepF; split <;> omega
      · show stepF D.fuel ≤ _; unfold stepF; split <;> omega
theorem fuel_ok {D : Dk} (h : D.Ok) {n : Int} (hn : n ≤ 9223372036854775807) : (fuelD D n).Ok :=
  ⟨h.n1, h.n2, h.pl, h.sl, by show -1 ≤ max n (-1); omega, by show max n (-1) ≤ _; omega⟩
theorem fall_ok {D : Dk} (h : D.Ok) (kp : Nat → Bool) : (fallD kp D).Ok :=
  ⟨by show 1 ≤ (sk _ _ _ _).length; rw [sk_len]; exact h.n1, by show (sk _ _ _ _).length ≤ _; rw [sk_len]; exact h.n2, fun q hq => (by cases hq), sk_all h.sl (fun q hq => (h.pl q hq).2) _, by show (-1 : Int) ≤ -1; omega, by show (-1 : Int) ≤ _; omega⟩
def fullB (s : ByteArray) : ByteArray := ⟨(s.data.toList ++ List.replicate (512 - s.size) 0).toArray⟩
theorem fullB_size {s : ByteArray} (h : s.size ≤ 512) : (fullB s).size = 512 := by
  have : s.data.toList.length = s.size := by rw [Array.length_toList]; rfl
  show (s.data.toList ++ List.replicate (512 - s.size) 0).toArray.size = 512
  simp only [List.size_toArray, List.length_append, List.length_replicate, this]
  omega
def readD (D : Dk) (i : Int) : ByteArray × Int :=
  if D.off = true then (⟨#[]⟩, 20) else if i < 0 ∨ (D.sure.length : Int) ≤ i then (⟨#[]⟩, 1) else (fullB (D.shown.getD i.toNat ByteArray.empty), 0)
def newD (n : Nat) : Dk := { sure := List.replicate n ByteArray.empty, pend := [], fuel := -1, off := false }
theorem new_ok {n : Nat} (h1 : 1 ≤ n) (h2 : n ≤ 4096) : (newD n).Ok :=
  ⟨by show 1 ≤ (List.replicate _ _).length; rw [List.length_replicate]; exact h1, by show (List.replicate _ _).length ≤ _; rw [List.length_replicate]; exact h2, fun q hq => (by cases hq), fun s hs => by rw [(List.mem_replicate.1 hs).2]; exact Nat.zero_le _, by show (-1 : Int) ≤ -1; omega, by show (-1 : Int) ≤ _; omega⟩
end Go.Proofs.YthamfbfeokmhgaaGreatDoor
set_option linter.unusedVariables false
namespace Go.Proofs.YthamfbfeokmhgaaGreatDoor
open Go.ChangeShapes Go.WideShapes Go.ChangeAt Go.RowKit

abbrev sv (S : List ByteArray) : List Value := S.map Value.string
theorem sv_len (S : List ByteArray) : (sv S).length = S.length := by simp
theorem sv_at {S : List ByteArray} {i : Nat} {s : ByteArray} (h : S[i]? = some s) : (sv S)[i]? = some (.string s) := by simp [sv, h]
theorem sv_set (S : List ByteArray) (i : Nat) (s : ByteArray) : (sv S).set i (.string s) = sv (S.set i s) := by simp [sv, List.map_set]
def pv (Q : Pnd) : List Value := Q.flatMap fun q => [.int .i64 (q.1 : Int), .string q.2]
theorem pv_len (Q : Pnd) : (pv Q).length = Q.length * 2 := by
  unfold pv
  induction Q with
  | nil => rfl
  | cons q r ih => rw [List.flatMap_cons, List.length_append, ih]; simp; omega
theorem pv_app (Q R : Pnd) : pv (Q ++ R) = pv Q ++ pv R := by unfold pv; rw [List.flatMap_append]
theorem pv_at {Q : Pnd} {j : Nat} {q : Nat × ByteArray} (h : Q[j]? = some q) : (pv Q)[j * 2]? = some (.int .i64 (q.1 : Int)) ∧ (pv Q)[j * 2 + 1]? = some (.string q.2) := by
  induction Q generalizing j with
  | nil => simp at h
  | cons x r ih =>
    cases j with
    | zero =>
      simp at h; subst h
      exact ⟨rfl, rfl⟩
    | succ j =>
      have h' : r[j]? = some q := by simpa using h
      obtain ⟨a, b⟩ := ih h'
      have e : ∀ k, (pv (x :: r))[k + 2]? = (pv r)[k]? := fun k => rfl
      exact ⟨by rw [show (j + 1) * 2 = j * 2 + 2 by omega, e]; exact a, by rw [show (j + 1) * 2 + 1 = j * 2 + 1 + 2 by omega, e]; exact b⟩

structure DM (Z : Nat → Prop) (w : World) (p bs bh : Nat) (v : Value) (D : Dk) : Prop where
  ok : D.Ok
  zlt : ∀ i, Z i → i < w.heap.size
  zp : Z p
  zs : Z bs
  zh : Z bh
  zv : ∀ b, v.ownBlock = some b → Z b
  ps : p ≠ bs
  ph : p ≠ bh
  sh : bs ≠ bh
  pw : ∀ b, v.ownBlock = some b → b ≠ p ∧ b ≠ bs ∧ b ≠ bh
  c0 : w.cell? ⟨p, 0, none⟩ = some (.slice (some ⟨bs, 0, none⟩) D.sure.length D.sure.length)
  c1 : w.cell? ⟨p, 1, none⟩ = some (.slice (some ⟨bh, 0, none⟩) D.sure.length D.sure.length)
  c2 : w.cell? ⟨p, 2, none⟩ = some v
  c3 : w.cell? ⟨p, 3, none⟩ = some (.int .i64 D.fuel)
  c4 : w.cell? ⟨p, 4, none⟩ = some (.bool D.off)
  fz : ∀ j, j < 5 → w.frozen? ⟨p, j, none⟩ = false
  rs : Row 1 0 w (.slice (some ⟨bs, 0, none⟩) D.sure.length D.sure.length) D.sure.length (sv D.sure)
  rh : Row 1 0 w (.slice (some ⟨bh, 0, none⟩) D.sure.length D.sure.length) D.sure.length (sv D.shown)
  rp : Row 2 0 w v D.pend.length (pv D.pend)
section
variable {Z : Nat → Prop} {w w' : World} {p bs bh : Nat} {v : Value} {D : Dk}
theorem own_is {b n c i : Nat} (h : (Value.slice (some ⟨b, 0, none⟩) n c).ownBlock = some i) : b = i := by
  have : some b = some i := h
  injection this
theorem DM.off {Y : Nat → Prop} (h : DM Z w p bs bh v D) (ho : Off Y w w') (hz : ∀ i, Z i → ¬ Y i) : DM Z w' p bs bh v D := by
  have hp := h.zlt p h.zp
  have hc : ∀ j, w'.cell? ⟨p, j, none⟩ = w.cell? ⟨p, j, none⟩ := fun j => ho.cell (p := ⟨p, j, none⟩) hp (hz p h.zp)
  exact ⟨h.ok, fun i hi => Nat.lt_of_lt_of_le (h.zlt i hi) ho.size, h.zp, h.zs, h.zh, h.zv, h.ps, h.ph, h.sh, h.pw, (hc 0).trans h.c0, (hc 1).trans h.c1, (hc 2).trans h.c2, (hc 3).trans h.c3, (hc 4).trans h.c4,
    fun j hj => (ho.frozen (p := ⟨p, j, none⟩) hp (hz p h.zp)).trans (h.fz j hj), h.rs.off ho (fun b hb => hz b (own_is hb ▸ h.zs)), h.rh.off ho (fun b hb => hz b (own_is hb ▸ h.zh)), h.rp.off ho (fun b hb => hz b (h.zv b hb))⟩
theorem DM.below (h : DM Z w p bs bh v D) (hb : Below w.heap.size w w') : DM Z w' p bs bh v D := h.off (Y := fun _ => False) (Off.of_below hb) (fun _ _ h => h)
theorem DM.drewN {n : Nat} (h : DM Z w p bs bh v D) : DM Z (w.drewN n) p bs bh v D := h.below (Below.drewN (Below.refl _ _))
theorem DM.drew (h : DM Z w p bs bh v D) : DM Z w.drew p bs bh v D := h.below (Below.refl _ _).drew
theorem DM.lt (h : DM Z w p bs bh v D) : p < w.heap.size := h.zlt p h.zp
theorem own_some {b n c : Nat} : (Value.slice (some ⟨b, 0, none⟩) n c).ownBlock = some b := rfl
theorem box_set {u x : Value} {j : Nat} (hc : w.cell? ⟨p, j, none⟩ = some x) (k : Nat) : (w.setCell ⟨p, j, none⟩ u).cell? ⟨p, k, none⟩ = if k = j then some u else w.cell? ⟨p, k, none⟩ := by
  by_cases e : k = j
  · subst e
    rw [if_pos rfl]
    exact World.cell?_setCell_same _ _ _ hc
  · rw [if_neg e]
    exact World.cell?_setCell_other _ _ _ _ (fun h => e (by injection h with _ h; exact h.symm))
theorem DM.setFuel (h : DM Z w p bs bh v D) {f : Int} (h1 : -1 ≤ f) (h2 : f ≤ 9223372036854775807) : DM Z (w.setCell ⟨p, 3, none⟩ (.int .i64 f)) p bs bh v { D with fuel := f } := by
  have hc := fun k => box_set (u := .int .i64 f) h.c3 k
  refine ⟨⟨h.ok.n1, h.ok.n2, h.ok.pl, h.ok.sl, h1, h2⟩, fun i hi => by simpa [World.setCell] using h.zlt i hi, h.zp, h.zs, h.zh, h.zv, h.ps, h.ph, h.sh, h.pw, by rw [hc]; exact h.c0, by rw [hc]; exact h.c1, by rw [hc]; exact h.c2, by rw [hc]; rfl, by rw [hc]; exact h.c4,
    fun j hj => by rw [World.frozen?_setCell]; exact h.fz j hj, h.rs.setOther (fun e => ?_) _, h.rh.setOther (fun e => ?_) _, h.rp.setOther (fun e => ?_) _⟩
  · rw [own_some] at e; injection e with e; exact h.ps e.symm
  · rw [own_some] at e; injection e with e; exact h.ph e.symm
  · exact (h.pw p e).1 rfl
theorem DM.setOff (h : DM Z w p bs bh v D) (b : Bool) : DM Z (w.setCell ⟨p, 4, none⟩ (.bool b)) p bs bh v { D with off := b } := by
  have hc := fun k => box_set (u := .bool b) h.c4 k
  refine ⟨⟨h.ok.n1, h.ok.n2, h.ok.pl, h.ok.sl, h.ok.f1, h.ok.f2⟩, fun i hi => by simpa [World.setCell] using h.zlt i hi, h.zp, h.zs, h.zh, h.zv, h.ps, h.ph, h.sh, h.pw, by rw [hc]; exact h.c0, by rw [hc]; exact h.c1, by rw [hc]; exact h.c2, by rw [hc]; exact h.c3, by rw [hc]; rfl,
    fun j hj => by rw [World.frozen?_setCell]; exact h.fz j hj, h.rs.setOther (fun e => ?_) _, h.rh.setOther (fun e => ?_) _, h.rp.setOther (fun e => ?_) _⟩
  · rw [own_some] at e; injection e with e; exact h.ps e.symm
  · rw [own_some] at e; injection e with e; exact h.ph e.symm
  · exact (h.pw p e).1 rfl
theorem DM.inRow (h : DM Z w p bs bh v D) {i : Nat} {s : ByteArray} (hs : D.shown[i]? = some s) : w.cell? ⟨bh, i, none⟩ = some (.string s) ∧ w.frozen? ⟨bh, i, none⟩ = false := by
  have := h.rh.cellF (sv_at hs)
  exact ⟨this.1, this.2.1⟩
theorem DM.inSure (h : DM Z w p bs bh v D) {i : Nat} {s : ByteArray} (hs : D.sure[i]? = some s) : w.cell? ⟨bs, i, none⟩ = some (.string s) ∧ w.frozen? ⟨bs, i, none⟩ = false := by
  have := h.rs.cellF (sv_at hs)
  exact ⟨this.1, this.2.1⟩
end
def DX (Z : Nat → Prop) (w : World) (p : Nat) (D : Dk) : Prop := ∃ bs bh v, DM Z w p bs bh v D
theorem DX.off {Z Y : Nat → Prop} {w w' : World} {p : Nat} {D : Dk} (h : DX Z w p D) (ho : Off Y w w') (hz : ∀ i, Z i → ¬ Y i) : DX Z w' p D := by
  obtain ⟨bs, bh, v, h⟩ := h
  exact ⟨bs, bh, v, h.off ho hz⟩
theorem DX.below {Z : Nat → Prop} {w w' : World} {p : Nat} {D : Dk} (h : DX Z w p D) (hb : Below w.heap.size w w') : DX Z w' p D := h.off (Y := fun _ => False) (Off.of_below hb) (fun _ _ h => h)
theorem DX.zlt {Z : Nat → Prop} {w : World} {p : Nat} {D : Dk} (h : DX Z w p D) : ∀ i, Z i → i < w.heap.size := by
  obtain ⟨bs, bh, v, h⟩ := h
  exact h.zlt
theorem DX.ok {Z : Nat → Prop} {w : World} {p : Nat} {D : Dk} (h : DX Z w p D) : D.Ok := by
  obtain ⟨bs, bh, v, h⟩ := h
  exact h.ok
def DPost (Z : Nat → Prop) (w : World) (p : Nat) (D' : Dk) (w' : World) : Prop := ∃ Z', DX Z' w' p D' ∧ Off Z w w' ∧ ∀ i, Z' i → Z i ∨ w.heap.size ≤ i
def errS (k : Int) : Value := if k = 0 then .nilIface else .iface 55 (.int .i64 k)
end Go.Proofs.YthamfbfeokmhgaaGreatDoor
