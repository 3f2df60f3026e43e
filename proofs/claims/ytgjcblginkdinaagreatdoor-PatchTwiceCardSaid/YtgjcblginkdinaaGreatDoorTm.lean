/- Forms as trees: which are right, their depth, their bytes; bytes are a form's in one way at most. Mathematics alone. -/
import Derived.Lib.ItoaNum
set_option linter.unusedVariables false
namespace Go.Proofs.YtgjcblginkdinaaGreatDoor
open Go.Lib

/-- A form: is it a list, its text, its items. -/
inductive Tm where
  | mk (l : Bool) (t : ByteArray) (xs : List Tm)

mutual
/-- Right all through. -/
def Tm.ok : Tm → Bool
  | .mk l t xs => if l then decide (t.size = 0) && Tm.oks xs else xs.isEmpty
def Tm.oks : List Tm → Bool
  | [] => true
  | x :: r => Tm.ok x && Tm.oks r
end
mutual
def Tm.depth : Tm → Nat
  | .mk l t xs => if l then Tm.depths xs + 1 else 0
def Tm.depths : List Tm → Nat
  | [] => 0
  | x :: r => max (Tm.depth x) (Tm.depths r)
end
mutual
def Tm.bytes : Tm → List UInt8
  | .mk l t xs => if l then 40 :: (Tm.bytess xs ++ [41]) else decDigits t.size ++ 58 :: t.data.toList
def Tm.bytess : List Tm → List UInt8
  | [] => []
  | x :: r => Tm.bytes x ++ Tm.bytess r
end
mutual
/-- How many forms it has in it, with itself. -/
def Tm.parts : Tm → Nat
  | .mk l t xs => Tm.partss xs + 1
def Tm.partss : List Tm → Nat
  | [] => 0
  | x :: r => Tm.parts x + Tm.partss r
end
mutual
/-- How many bytes of texts. -/
def Tm.texts : Tm → Nat
  | .mk l t xs => t.size + Tm.textss xs
def Tm.textss : List Tm → Nat
  | [] => 0
  | x :: r => Tm.texts x + Tm.textss r
end

theorem Tm.ind {P : Tm → Prop} (h : ∀ l t xs, (∀ x ∈ xs, P x) → P (.mk l t xs)) (T : Tm) : P T := by
  refine Tm.rec (motive_1 := P) (motive_2 := fun xs => ∀ x ∈ xs, P x) (fun l t xs ih => h l t xs ih) (fun x hx => by cases hx) (fun x r hx hr y hy => ?_) T
  rcases List.mem_cons.1 hy with rfl | hy
  · exact hx
  · exact hr y hy

theorem snoc_ind {α : Type} {P : List α → Prop} (h0 : P []) (h1 : ∀ r x, P r → P (r ++ [x])) (l : List α) : P l := by
  have : ∀ n, ∀ l : List α, l.length = n → P l := by
    intro n
    induction n with
    | zero => intro l hl; rw [List.length_eq_zero_iff.1 hl]; exact h0
    | succ n ih =>
      intro l hl
      have hne : l ≠ [] := by rintro rfl; simp at hl
      rw [← List.dropLast_concat_getLast hne]
      exact h1 _ _ (ih _ (by simp; omega))
  exact this _ l rfl

theorem Tm.oks_app (xs ys : List Tm) : Tm.oks (xs ++ ys) = (Tm.oks xs && Tm.oks ys) := by
  induction xs with
  | nil => simp [Tm.oks]
  | cons x r ih => simp [Tm.oks, ih, Bool.and_assoc]
theorem Tm.depths_app (xs ys : List Tm) : Tm.depths (xs ++ ys) = max (Tm.depths xs) (Tm.depths ys) := by
  induction xs with
  | nil => simp [Tm.depths]
  | cons x r ih => simp only [List.cons_append, Tm.depths, ih]; omega
theorem Tm.bytess_app (xs ys : List Tm) : Tm.bytess (xs ++ ys) = Tm.bytess xs ++ Tm.bytess ys := by
  induction xs with
  | nil => simp [Tm.bytess]
  | cons x r ih => simp [Tm.bytess, ih]
theorem Tm.partss_app (xs ys : List Tm) : Tm.partss (xs ++ ys) = Tm.partss xs + Tm.partss ys := by
  induction xs with
  | nil => simp [Tm.partss]
  | cons x r ih => simp only [List.cons_append, Tm.partss, ih]; omega
theorem Tm.textss_app (xs ys : List Tm) : Tm.textss (xs ++ ys) = Tm.textss xs + Tm.textss ys := by
  induction xs with
  | nil => simp [Tm.textss]
  | cons x r ih => simp only [List.cons_append, Tm.textss, ih]; omega
theorem Tm.oks_iff {xs : List Tm} : Tm.oks xs = true ↔ ∀ x ∈ xs, Tm.ok x = true := by
  induction xs with
  | nil => simp [Tm.oks]
  | cons x r ih => simp [Tm.oks, ih]
theorem Tm.depths_le {xs : List Tm} {d : Nat} : Tm.depths xs ≤ d ↔ ∀ x ∈ xs, Tm.depth x ≤ d := by
  induction xs with
  | nil => simp [Tm.depths]
  | cons x r ih => simp only [Tm.depths, List.mem_cons, forall_eq_or_imp, ← ih]; omega
theorem Tm.parts_pos : ∀ T : Tm, 1 ≤ T.parts
  | .mk l t xs => by simp [Tm.parts]
theorem Tm.length_le_partss (xs : List Tm) : xs.length ≤ Tm.partss xs := by
  induction xs with
  | nil => simp
  | cons x r ih => have := Tm.parts_pos x; simp only [List.length_cons, Tm.partss]; omega
theorem Tm.parts_mem {xs : List Tm} {x : Tm} (h : x ∈ xs) : x.parts ≤ Tm.partss xs := by
  induction xs with
  | nil => simp at h
  | cons y r ih => simp only [Tm.partss]; rcases List.mem_cons.1 h with rfl | h; · omega
                   · have := ih h; omega
theorem Tm.texts_mem {xs : List Tm} {x : Tm} (h : x ∈ xs) : x.texts ≤ Tm.textss xs := by
  induction xs with
  | nil => simp at h
  | cons y r ih => simp only [Tm.textss]; rcases List.mem_cons.1 h with rfl | h; · omega
                   · have := ih h; omega

/-! ### Digits -/
def isDig (c : UInt8) : Prop := 48 ≤ c.toNat ∧ c.toNat ≤ 57
instance (c : UInt8) : Decidable (isDig c) := by unfold isDig; exact inferInstance
/-- What digits spell. -/
def val (l : List UInt8) : Nat := l.foldl (fun a c => 10 * a + (c.toNat - 48)) 0
theorem val_snoc (l : List UInt8) (c : UInt8) : val (l ++ [c]) = 10 * val l + (c.toNat - 48) := by simp [val]
theorem dig_toNat {u : Nat} (h : u < 10) : (UInt8.ofNat (48 + u)).toNat = 48 + u := by
  rw [UInt8.toNat_ofNat']; omega
theorem decDigits_dig : ∀ (u : Nat), ∀ c ∈ decDigits u, isDig c := by
  intro u
  induction u using Nat.strongRecOn with
  | _ u ih =>
    rw [decDigits]
    split
    · intro c hc
      rw [List.mem_singleton] at hc
      subst hc
      unfold isDig
      rw [dig_toNat (by omega)]; omega
    · intro c hc
      rcases List.mem_append.1 hc with hc | hc
      · exact ih (u / 10) (by omega) c hc
      · rw [List.mem_singleton] at hc
        subst hc
        unfold isDig
        rw [dig_toNat (by omega)]; omega
theorem val_decDigits : ∀ (u : Nat), val (decDigits u) = u := by
  intro u
  induction u using Nat.strongRecOn with
  | _ u ih =>
    rw [decDigits]
    split
    · simp only [val, List.foldl_cons, List.foldl_nil]
      rw [dig_toNat (by omega)]; omega
    · rw [val_snoc, ih (u / 10) (by omega), dig_toNat (by omega)]; omega
theorem decDigits_inj {u v : Nat} (h : decDigits u = decDigits v) : u = v := by
  rw [← val_decDigits u, h, val_decDigits]
theorem decDigits_ne (u : Nat) : decDigits u ≠ [] := by
  rw [decDigits]
  split <;> simp
theorem val_lead {l : List UInt8} (h : val l = 0) (hd : ∀ c ∈ l, isDig c) : ∀ c ∈ l, c = 48 := by
  induction l using snoc_ind with
  | h0 => simp
  | h1 r c ih =>
    rw [val_snoc] at h
    intro x hx
    rcases List.mem_append.1 hx with hx | hx
    · exact ih (by omega) (fun c hc => hd c (List.mem_append_left _ hc)) x hx
    · rw [List.mem_singleton] at hx
      subst hx
      have := hd x (by simp)
      unfold isDig at this
      apply UInt8.toNat.inj
      show x.toNat = 48
      omega
/-- Digits without a zero ahead (but for the digit 0 alone) are those of what they spell. -/
theorem decDigits_val : ∀ (l : List UInt8), l ≠ [] → (∀ c ∈ l, isDig c) → (l.head? = some 48 → l = [48]) → decDigits (val l) = l := by
  intro l
  induction l using snoc_ind with
  | h0 => intro h; exact absurd rfl h
  | h1 r c ih =>
    intro _ hd hz
    have hc : isDig c := hd c (by simp)
    have hr : ∀ x ∈ r, isDig x := fun x hx => hd x (List.mem_append_left _ hx)
    have hcc : UInt8.ofNat (48 + (c.toNat - 48)) = c := by
      unfold isDig at hc
      rw [show 48 + (c.toNat - 48) = c.toNat by omega, UInt8.ofNat_toNat]
    rw [val_snoc]
    cases r with
    | nil =>
      unfold isDig at hc
      rw [decDigits, dif_pos (by simp [val]; omega)]
      simp only [val, List.foldl_nil, Nat.mul_zero, Nat.zero_add, hcc, List.nil_append]
    | cons x s =>
      have hx0 : x ≠ 48 := by
        rintro rfl
        have := hz rfl
        simp at this
      have hv : val (x :: s) ≠ 0 := fun h0 => hx0 (val_lead h0 hr x (by simp))
      have hi := ih (by simp) hr (by intro h; simp at h; exact absurd h hx0)
      unfold isDig at hc
      rw [decDigits, dif_neg (by omega)]
      rw [show (10 * val (x :: s) + (c.toNat - 48)) / 10 = val (x :: s) by omega, show (10 * val (x :: s) + (c.toNat - 48)) % 10 = c.toNat - 48 by omega, hi, hcc]
theorem decDigits_head {u : Nat} (h : (decDigits u).head? = some 48) : decDigits u = [48] := by
  induction u using Nat.strongRecOn with
  | _ u ih =>
    by_cases hu : u < 10
    · rw [decDigits, dif_pos hu] at h ⊢
      simpa using h
    · rw [decDigits, dif_neg hu] at h
      have hne := decDigits_ne (u / 10)
      have h' : (decDigits (u / 10)).head? = some 48 := by
        cases e : decDigits (u / 10) with
        | nil => exact absurd e hne
        | cons a b => rw [e] at h; simpa using h
      have h2 := ih (u / 10) (by omega) h'
      have h3 := val_decDigits (u / 10)
      rw [h2] at h3
      have : val [48] = 0 := by decide
      omega
theorem val_app_le (l m : List UInt8) : val l ≤ val (l ++ m) := by
  induction m using snoc_ind with
  | h0 => simp
  | h1 r c ih => rw [← List.append_assoc, val_snoc]; omega
theorem not_dig_58 : ¬ isDig 58 := by unfold isDig; decide
theorem not_dig_40 : ¬ isDig 40 := by unfold isDig; decide
theorem not_dig_41 : ¬ isDig 41 := by unfold isDig; decide

/-- A run of digits and a byte that is none: cut in one way. -/
theorem run_unique : ∀ {p q : List UInt8} {x y : UInt8} {a b : List UInt8}, (∀ c ∈ p, isDig c) → (∀ c ∈ q, isDig c) → ¬ isDig x → ¬ isDig y → p ++ x :: a = q ++ y :: b → p = q ∧ x = y ∧ a = b
  | [], [], x, y, a, b, _, _, _, _, h => by simpa using h
  | [], d :: q, x, y, a, b, _, hq, hx, _, h => by
    simp only [List.nil_append, List.cons_append, List.cons.injEq] at h
    exact absurd (h.1 ▸ hq d (by simp)) hx
  | c :: p, [], x, y, a, b, hp, _, _, hy, h => by
    simp only [List.nil_append, List.cons_append, List.cons.injEq] at h
    exact absurd (h.1 ▸ hp c (by simp)) hy
  | c :: p, d :: q, x, y, a, b, hp, hq, hx, hy, h => by
    simp only [List.cons_append, List.cons.injEq] at h
    obtain ⟨h1, h2⟩ := h
    obtain ⟨e1, e2⟩ := run_unique (fun c hc => hp c (by simp [hc])) (fun c hc => hq c (by simp [hc])) hx hy h2
    exact ⟨by rw [h1, e1], e2⟩

theorem ba_ext {s t : ByteArray} (h : s.data.toList = t.data.toList) : s = t := by
  cases s; cases t
  simp only [ByteArray.mk.injEq]
  exact Array.toList_inj.1 h
theorem ba_len (s : ByteArray) : s.data.toList.length = s.size := Array.length_toList

/-- The first byte of a form's bytes. -/
theorem Tm.head (T : Tm) : ∃ c r, T.bytes = c :: r ∧ (c = 40 ∨ isDig c) := by
  obtain ⟨l, t, xs⟩ := T
  cases l with
  | true => exact ⟨40, _, by rw [Tm.bytes, if_pos rfl], .inl rfl⟩
  | false =>
    cases e : decDigits t.size with
    | nil => exact absurd e (decDigits_ne _)
    | cons c r =>
      refine ⟨c, r ++ 58 :: t.data.toList, ?_, .inr (decDigits_dig t.size c (by rw [e]; simp))⟩
      rw [Tm.bytes, if_neg (by simp), e]; rfl

theorem Tm.unique : ∀ (T T' : Tm) (r r' : List UInt8), T.ok = true → T'.ok = true → T.bytes ++ r = T'.bytes ++ r' → T = T' ∧ r = r' := by
  intro T
  induction T using Tm.ind with
  | h l t xs ih =>
    rintro ⟨l', t', xs'⟩ r r' h1 h2 h
    rw [Tm.ok] at h1 h2
    rw [Tm.bytes, Tm.bytes] at h
    cases l with
    | true =>
      cases l' with
      | true =>
        simp only [if_true, Bool.and_eq_true, decide_eq_true_eq] at h1 h2
        obtain ⟨h1, k1⟩ := h1
        obtain ⟨h2, k2⟩ := h2
        have et : t = t' := by
          apply ba_ext
          have a := ba_len t
          have b := ba_len t'
          rw [List.length_eq_zero_iff.1 (by omega : t.data.toList.length = 0), List.length_eq_zero_iff.1 (by omega : t'.data.toList.length = 0)]
        subst et
        simp only [if_true, List.cons_append, List.cons.injEq, true_and, List.append_assoc, List.nil_append] at h
        have key : ∀ (xs xs' : List Tm), (∀ x ∈ xs, ∀ (T' : Tm) (r r' : List UInt8), x.ok = true → T'.ok = true → x.bytes ++ r = T'.bytes ++ r' → x = T' ∧ r = r') → Tm.oks xs = true → Tm.oks xs' = true →
            Tm.bytess xs ++ 41 :: r = Tm.bytess xs' ++ 41 :: r' → xs = xs' ∧ r = r' := by
          intro xs
          induction xs with
          | nil =>
            intro xs' _ _ k2 h
            cases xs' with
            | nil => simpa [Tm.bytess] using h
            | cons y s =>
              obtain ⟨c, q, e, hc⟩ := Tm.head y
              simp only [Tm.bytess, e, List.nil_append, List.cons_append, List.cons.injEq] at h
              rcases hc with rfl | hc
              · exact absurd h.1 (by decide)
              · exact absurd (h.1 ▸ hc) not_dig_41
          | cons x s ih2 =>
            intro xs' ihx k1 k2 h
            cases xs' with
            | nil =>
              obtain ⟨c, q, e, hc⟩ := Tm.head x
              simp only [Tm.bytess, e, List.nil_append, List.cons_append, List.cons.injEq] at h
              rcases hc with rfl | hc
              · exact absurd h.1 (by decide)
              · exact absurd (h.1 ▸ hc) not_dig_41
            | cons y s' =>
              simp only [Tm.oks, Bool.and_eq_true] at k1 k2
              simp only [Tm.bytess, List.append_assoc] at h
              obtain ⟨e1, e2⟩ := ihx x (by simp) y _ _ k1.1 k2.1 h
              obtain ⟨e3, e4⟩ := ih2 s' (fun z hz => ihx z (by simp [hz])) k1.2 k2.2 e2
              exact ⟨by rw [e1, e3], e4⟩
        obtain ⟨e1, e2⟩ := key xs xs' ih k1 k2 h
        exact ⟨by rw [e1], e2⟩
      | false =>
        obtain ⟨c, q, e, hc⟩ := Tm.head (.mk false t' xs')
        rw [Tm.bytes, if_neg (by simp)] at e
        simp only [if_true, Bool.false_eq_true, if_false] at h
        have hd : isDig c := by
          cases e2 : decDigits t'.size with
          | nil => exact absurd e2 (decDigits_ne _)
          | cons a b =>
            rw [e2] at e
            simp only [List.cons_append, List.cons.injEq] at e
            exact e.1 ▸ decDigits_dig t'.size a (by rw [e2]; simp)
        rw [e] at h
        simp only [List.cons_append, List.cons.injEq] at h
        exact absurd (h.1 ▸ hd) not_dig_40
    | false =>
      cases l' with
      | true =>
        simp only [if_true, Bool.false_eq_true, if_false] at h
        cases e2 : decDigits t.size with
        | nil => exact absurd e2 (decDigits_ne _)
        | cons a b =>
          rw [e2] at h
          simp only [List.cons_append, List.cons.injEq] at h
          have hd := decDigits_dig t.size a (by rw [e2]; simp)
          exact absurd (h.1 ▸ hd) not_dig_40
      | false =>
        simp only [Bool.false_eq_true, if_false, List.append_assoc, List.cons_append, List.isEmpty_iff] at h h1 h2
        subst h1; subst h2
        obtain ⟨e1, _, e2⟩ := run_unique (decDigits_dig _) (decDigits_dig _) not_dig_58 not_dig_58 h
        have hs := decDigits_inj e1
        have hl : t.data.toList.length = t'.data.toList.length := by rw [ba_len, ba_len, hs]
        obtain ⟨e3, e4⟩ := List.append_inj e2 hl
        exact ⟨by rw [ba_ext e3], e4⟩
end Go.Proofs.YtgjcblginkdinaaGreatDoor
