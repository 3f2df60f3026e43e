/- Forms as trees: which are right, their depth, their bytes; bytes are a form's in one way at most. Mathematics alone. Which form's bytes a list of bytes begins with: at most one's; lists and texts, step by step. Mathematics alone. -/
import Derived.Lib.ItoaNum
set_option linter.unusedVariables false
namespace Go.Proofs.YtojnagonhihknaaGreatDoor
open Go.Lib

inductive Tm where
  | mk (l : Bool) (t : ByteArray) (xs : List Tm)

mutual
def Tm.ok : Tm → Bool
  | .mk l t xs => if l then decide (t.size = 0) && Tm.oks xs else xs.isEmpty
def Tm.oks : List Tm → Bool
  | [] => true
  | x :: r => Tm.ok x && Tm.oks r
end
mutual
def Tm.depth : Tm → Nat
  | .mk l t xs => if l then Tm.depths xs + 1 else 0
def Tm.depths : List Tm → Nat
  | [] => 0
  | x :: r => max (Tm.depth x) (Tm.depths r)
end
mutual
def Tm.bytes : Tm → List UInt8
  | .mk l t xs => if l then 40 :: (Tm.bytess xs ++ [41]) else decDigits t.size ++ 58 :: t.data.toList
def Tm.bytess : List Tm → List UInt8
  | [] => []
  | x :: r => Tm.bytes x ++ Tm.bytess r
end
mutual
def Tm.parts : Tm → Nat
  | .mk l t xs => Tm.partss xs + 1
def Tm.partss : List Tm → Nat
  | [] => 0
  | x :: r => Tm.parts x + Tm.partss r
end
mutual
def Tm.texts : Tm → Nat
  | .mk l t xs => t.size + Tm.textss xs
def Tm.textss : List Tm → Nat
  | [] => 0
  | x :: r => Tm.texts x + Tm.textss r
end

theorem Tm.ind {P : Tm → Prop} (h : ∀ l t xs, (∀ x ∈ xs, P x) → P (.mk l t xs)) (T : Tm) : P T := by
  refine Tm.rec (motive_1 := P) (motive_2 := fun xs => ∀ x ∈ xs, P x) (fun l t xs ih => h l t xs ih) (fun x hx => by cases hx) (fun x r hx hr y hy => ?_) T
  rcases List.mem_cons.1 hy with rfl | hy
  · exact hx
  · exact hr y hy

theorem snoc_ind {α : Type} {P : List α → Prop} (h0 : P []) (h1 : ∀ r x, P r → P (r ++ [x])) (l : List α) : P l := by
  have : ∀ n, ∀ l : List α, l.length = n → P l := by
    intro n
    induction n with
    | zero => intro l hl; rw [List.length_eq_zero_iff.1 hl]; exact h0
    | succ n ih =>
      intro l hl
      have hne : l ≠ [] := by rintro rfl; simp at hl
      rw [← List.dropLast_concat_getLast hne]
      exact h1 _ _ (ih _ (by simp; omega))
  exact this _ l rfl

theorem Tm.oks_app (xs ys : List Tm) : Tm.oks (xs ++ ys) = (Tm.oks xs && Tm.oks ys) := by
  induction xs with
  | nil => simp [Tm.oks]
  | cons x r ih => simp [Tm.oks, ih, Bool.and_assoc]
theorem Tm.depths_app (xs ys : List Tm) : Tm.depths (xs ++ ys) = max (Tm.depths xs) (Tm.depths ys) := by
  induction xs with
  | nil => simp [Tm.depths]
  | cons x r ih => simp only [List.cons_append, Tm.depths, ih]; omega
theorem Tm.bytess_app (xs ys : List Tm) : Tm.bytess (xs ++ ys) = Tm.bytess xs ++ Tm.bytess ys := by
  induction xs with
  | nil => simp [Tm.bytess]
  | cons x r ih => simp [Tm.bytess, ih]
theorem Tm.partss_app (xs ys : List Tm) : Tm.partss (xs ++ ys) = Tm.partss xs + Tm.partss ys := by
  induction xs with
  | nil => simp [Tm.partss]
  | cons x r ih => simp only [List.cons_append, Tm.partss, ih]; omega
theorem Tm.textss_app (xs ys : List Tm) : Tm.textss (xs ++ ys) = Tm.textss xs + Tm.textss ys := by
  induction xs with
  | nil => simp [Tm.textss]
  | cons x r ih => simp only [List.cons_append, Tm.textss, ih]; omega
theorem Tm.oks_iff {xs : List Tm} : Tm.oks xs = true ↔ ∀ x ∈ xs, Tm.ok x = true := by
  induction xs with
  | nil => simp [Tm.oks]
  | cons x r ih => simp [Tm.oks, ih]
theorem Tm.depths_le {xs : List Tm} {d : Nat} : Tm.depths xs ≤ d ↔ ∀ x ∈ xs, Tm.depth x ≤ d := by
  induction xs with
  | nil => simp [Tm.depths]
  | cons x r ih => simp only [Tm.depths, List.mem_cons, forall_eq_or_imp, ← ih]; omega
theorem Tm.parts_pos : ∀ T : Tm, 1 ≤ T.parts
  | .mk l t xs => by simp [Tm.parts]
theorem Tm.length_le_partss (xs : List Tm) : xs.length ≤ Tm.partss xs := by
  induction xs with
  | nil => simp
  | cons x r ih => have := Tm.parts_pos x; simp only [List.length_cons, Tm.partss]; omega
theorem Tm.parts_mem {xs : List Tm} {x : Tm} (h : x ∈ xs) : x.parts ≤ Tm.partss xs := by
  induction xs with
  | nil => simp at h
  | cons y r ih => simp only [Tm.partss]; rcases List.mem_cons.1 h with rfl | h; · omega
                   · have := ih h; omega
theorem Tm.texts_mem {xs : List Tm} {x : Tm} (h : x ∈ xs) : x.texts ≤ Tm.textss xs := by
  induction xs with
  | nil => simp at h
  | cons y r ih => simp only [Tm.textss]; rcases List.mem_cons.1 h with rfl | h; · omega
                   · have := ih h; omega

def isDig (c : UInt8) : Prop := 48 ≤ c.toNat ∧ c.toNat ≤ 57
instance (c : UInt8) : Decidable (isDig c) := by unfold isDig; exact inferInstance
def val (l : List UInt8) : Nat := l.foldl (fun a c => 10 * a + (c.toNat - 48)) 0
theorem val_snoc (l : List UInt8) (c : UInt8) : val (l ++ [c]) = 10 * val l + (c.toNat - 48) := by simp [val]
theorem dig_toNat {u : Nat} (h : u < 10) : (UInt8.ofNat (48 + u)).toNat = 48 + u := by
  rw [UInt8.toNat_ofNat']; omega
theorem decDigits_dig : ∀ (u : Nat), ∀ c ∈ decDigits u, isDig c := by
  intro u
  induction u using Nat.strongRecOn with
  | _ u ih =>
    rw [decDigits]
    split
    · intro c hc
      rw [List.mem_singleton] at hc
      subst hc
      unfold isDig
      rw [dig_toNat (by omega)]; omega
    · intro c hc
      rcases List.mem_append.1 hc with hc | hc
      · exact ih (u / 10) (by omega) c hc
      · rw [List.mem_singleton] at hc
        subst hc
        unfold isDig
        rw [dig_toNat (by omega)]; omega
theorem val_decDigits : ∀ (u : Nat), val (decDigits u) = u := by
  intro u
  induction u using Nat.strongRecOn with
  | _ u ih =>
    rw [decDigits]
    split
    · simp only [val, List.foldl_cons, List.foldl_nil]
      rw [dig_toNat (by omega)]; omega
    · rw [val_snoc, ih (u / 10) (by omega), dig_toNat (by omega)]; omega
theorem decDigits_inj {u v : Nat} (h : decDigits u = decDigits v) : u = v := by
  rw [← val_decDigits u, h, val_decDigits]
theorem decDigits_ne (u : Nat) : decDigits u ≠ [] := by
  rw [decDigits]
  split <;> simp
theorem val_lead {l : List UInt8} (h : val l = 0) (hd : ∀ c ∈ l, isDig c) : ∀ c ∈ l, c = 48 := by
  induction l using snoc_ind with
  | h0 => simp
  | h1 r c ih =>
    rw [val_snoc] at h
    intro x hx
    rcases List.mem_append.1 hx with hx | hx
    · exact ih (by omega) (fun c hc => hd c (List.mem_append_left _ hc)) x hx
    · rw [List.mem_singleton] at hx
      subst hx
      have := hd x (by simp)
      unfold isDig at this
      apply UInt8.toNat.inj
      show x.toNat = 48
      omega
theorem decDigits_val : ∀ (l : List UInt8), l ≠ [] → (∀ c ∈ l, isDig c) → (l.head? = some 48 → l = [48]) → decDigits (val l) = l := by
  intro l
  induction l using snoc_ind with
  | h0 => intro h; exact absurd rfl h
  | h1 r c ih =>
    intro _ hd hz
    have hc : isDig c := hd c (by simp)
    have hr : ∀ x ∈ r, isDig x := fun x hx => hd x (List.mem_append_left _ hx)
    have hcc : UInt8.ofNat (48 + (c.toNat - 48)) = c := by
      unfold isDig at hc
      rw [show 48 + (c.toNat - 48) = c.toNat by omega, UInt8.ofNat_toNat]
    rw [val_snoc]
    cases r with
    | nil =>
      unfold isDig at hc
      rw [decDigits, dif_pos (by simp [val]; omega)]
      simp only [val, List.foldl_nil, Nat.mul_zero, Nat.zero_add, hcc, List.nil_append]
    | cons x s =>
      have hx0 : x ≠ 48 := by
        rintro rfl
        have := hz rfl
        simp at this
      have hv : val (x :: s) ≠ 0 := fun h0 => hx0 (val_lead h0 hr x (by simp))
      have hi := ih (by simp) hr (by intro h; simp at h; exact absurd h hx0)
      unfold isDig at hc
      rw [decDigits, dif_neg (by omega)]
      rw [show (10 * val (x :: s) + (c.toNat - 48)) / 10 = val (x :: s) by omega, show (10 * val (x :: s) + (c.toNat - 48)) % 10 = c.toNat - 48 by omega, hi, hcc]
theorem decDigits_head {u : Nat} (h : (decDigits u).head? = some 48) : decDigits u = [48] := by
  induction u using Nat.strongRecOn with
  | _ u ih =>
    by_cases hu : u < 10
    · rw [decDigits, dif_pos hu] at h ⊢
      simpa using h
    · rw [decDigits, dif_neg hu] at h
      have hne := decDigits_ne (u / 10)
      have h' : (decDigits (u / 10)).head? = some 48 := by
        cases e : decDigits (u / 10) with
        | nil => exact absurd e hne
        | cons a b => rw [e] at h; simpa using h
      have h2 := ih (u / 10) (by omega) h'
      have h3 := val_decDigits (u / 10)
      rw [h2] at h3
      have : val [48] = 0 := by decide
      omega
theorem val_app_le (l m : List UInt8) : val l ≤ val (l ++ m) := by
  induction m using snoc_ind with
  | h0 => simp
  | h1 r c ih => rw [← List.append_assoc, val_snoc]; omega
theorem not_dig_58 : ¬ isDig 58 := by unfold isDig; decide
theorem not_dig_40 : ¬ isDig 40 := by unfold isDig; decide
theorem not_dig_41 : ¬ isDig 41 := by unfold isDig; decide

theorem run_unique : ∀ {p q : List UInt8} {x y : UInt8} {a b : List UInt8}, (∀ c ∈ p, isDig c) → (∀ c ∈ q, isDig c) → ¬ isDig x → ¬ isDig y → p ++ x :: a = q ++ y :: b → p = q ∧ x = y ∧ a = b
  | [], [], x, y, a, b, _, _, _, _, h => by simpa using h
  | [], d :: q, x, y, a, b, _, hq, hx, _, h => by
    simp only [List.nil_append, List.cons_append, List.cons.injEq] at h
    exact absurd (h.1 ▸ hq d (by simp)) hx
  | c :: p, [], x, y, a, b, hp, _, _, hy, h => by
    simp only [List.nil_append, List.cons_append, List.cons.injEq] at h
    exact absurd (h.1 ▸ hp c (by simp)) hy
  | c :: p, d :: q, x, y, a, b, hp, hq, hx, hy, h => by
    simp only [List.cons_append, List.cons.injEq] at h
    obtain ⟨h1, h2⟩ := h
    obtain ⟨e1, e2⟩ := run_unique (fun c hc => hp c (by simp [hc])) (fun c hc => hq c (by simp [hc])) hx hy h2
    exact ⟨by rw [h1, e1], e2⟩

theorem ba_ext {s t : ByteArray} (h : s.data.toList = t.data.toList) : s = t := by
  cases s; cases t
  simp only [ByteArray.mk.injEq]
  exact Array.toList_inj.1 h
theorem ba_len (s : ByteArray) : s.data.toList.length = s.size := Array.length_toList

theorem Tm.head (T : Tm) : ∃ c r, T.bytes = c :: r ∧ (c = 40 ∨ isDig c) := by
  obtain ⟨l, t, xs⟩ := T
  cases l with
  | true => exact ⟨40, _, by rw [Tm.bytes, if_pos rfl], .inl rfl⟩
  | false =>
    cases e : decDigits t.size with
    | nil => exact absurd e (decDigits_ne _)
    | cons c r =>
      refine ⟨c, r ++ 58 :: t.data.toList, ?_, .inr (decDigits_dig t.size c (by rw [e]; simp))⟩
      rw [Tm.bytes, if_neg (by simp), e]; rfl

theorem Tm.unique : ∀ (T T' : Tm) (r r' : List UInt8), T.ok = true → T'.ok = true → T.bytes ++ r = T'.bytes ++ r' → T = T' ∧ r = r' := by
  intro T
  induction T using Tm.ind with
  | h l t xs ih =>
    rintro ⟨l', t', xs'⟩ r r' h1 h2 h
    rw [Tm.ok] at h1 h2
    rw [Tm.bytes, Tm.bytes] at h
    cases l with
    | true =>
      cases l' with
      | true =>
        simp only [if_true, Bool.and_eq_true, decide_eq_true_eq] at h1 h2
        obtain ⟨h1, k1⟩ := h1
        obtain ⟨h2, k2⟩ := h2
        have et : t = t' := by
          apply ba_ext
          have a := ba_len t
          have b := ba_len t'
          rw [List.length_eq_zero_iff.1 (by omega : t.data.toList.length = 0), List.length_eq_zero_iff.1 (by omega : t'.data.toList.length = 0)]
        subst et
        simp only [if_true, List.cons_append, List.cons.injEq, true_and, List.append_assoc, List.nil_append] at h
        have key : ∀ (xs xs' : List Tm), (∀ x ∈ xs, ∀ (T' : Tm) (r r' : List UInt8), x.ok = true → T'.ok = true → x.bytes ++ r = T'.bytes ++ r' → x = T' ∧ r = r') → Tm.oks xs = true → Tm.oks xs' = true →
            Tm.bytess xs ++ 41 :: r = Tm.bytess xs' ++ 41 :: r' → xs = xs' ∧ r = r' := by
          intro xs
          induction xs with
          | nil =>
            intro xs' _ _ k2 h
            cases xs' with
            | nil => simpa [Tm.bytess] using h
            | cons y s =>
              obtain ⟨c, q, e, hc⟩ := Tm.head y
              simp only [Tm.bytess, e, List.nil_append, List.cons_append, List.cons.injEq] at h
              rcases hc with rfl | hc
              · exact absurd h.1 (by decide)
              · exact absurd (h.1 ▸ hc) not_dig_41
          | cons x s ih2 =>
            intro xs' ihx k1 k2 h
            cases xs' with
            | nil =>
              obtain ⟨c, q, e, hc⟩ := Tm.head x
              simp only [Tm.bytess, e, List.nil_append, List.cons_append, List.cons.injEq] at h
              rcases hc with rfl | hc
              · exact absurd h.1 (by decide)
              · exact absurd (h.1 ▸ hc) not_dig_41
            | cons y s' =>
              simp only [Tm.oks, Bool.and_eq_true] at k1 k2
              simp only [Tm.bytess, List.append_assoc] at h
              obtain ⟨e1, e2⟩ := ihx x (by simp) y _ _ k1.1 k2.1 h
              obtain ⟨e3, e4⟩ := ih2 s' (fun z hz => ihx z (by simp [hz])) k1.2 k2.2 e2
              exact ⟨by rw [e1, e3], e4⟩
        obtain ⟨e1, e2⟩ := key xs xs' ih k1 k2 h
        exact ⟨by rw [e1], e2⟩
      | false =>
        obtain ⟨c, q, e, hc⟩ := Tm.head (.mk false t' xs')
        rw [Tm.bytes, if_neg (by simp)] at e
        simp only [if_true, Bool.false_eq_true, if_false] at h
        have hd : isDig c := by
          cases e2 : decDigits t'.size with
          | nil => exact absurd e2 (decDigits_ne _)
          | cons a b =>
            rw [e2] at e
            simp only [List.cons_append, List.cons.injEq] at e
            exact e.1 ▸ decDigits_dig t'.size a (by rw [e2]; simp)
        rw [e] at h
        simp only [List.cons_append, List.cons.injEq] at h
        exact absurd (h.1 ▸ hd) not_dig_40
    | false =>
      cases l' with
      | true =>
        simp only [if_true, Bool.false_eq_true, if_false] at h
        cases e2 : decDigits t.size with
        | nil => exact absurd e2 (decDigits_ne _)
        | cons a b =>
          rw [e2] at h
          simp only [List.cons_append, List.cons.injEq] at h
          have hd := decDigits_dig t.size a (by rw [e2]; simp)
          exact absurd (h.1 ▸ hd) not_dig_40
      | false =>
        simp only [Bool.false_eq_true, if_false, List.append_assoc, List.cons_append, List.isEmpty_iff] at h h1 h2
        subst h1; subst h2
        obtain ⟨e1, _, e2⟩ := run_unique (decDigits_dig _) (decDigits_dig _) not_dig_58 not_dig_58 h
        have hs := decDigits_inj e1
        have hl : t.data.toList.length = t'.data.toList.length := by rw [ba_len, ba_len, hs]
        obtain ⟨e3, e4⟩ := List.append_inj e2 hl
        exact ⟨by rw [ba_ext e3], e4⟩
end Go.Proofs.YtojnagonhihknaaGreatDoor
set_option linter.unusedVariables false
namespace Go.Proofs.YtojnagonhihknaaGreatDoor
open Go.Lib

def IsF (d : Nat) (L : List UInt8) (T : Tm) (R : List UInt8) : Prop := T.ok = true ∧ d + T.depth ≤ 8 ∧ L = T.bytes ++ R

theorem IsF.det {d d' : Nat} {L : List UInt8} {T T' : Tm} {R R' : List UInt8} (h : IsF d L T R) (h' : IsF d' L T' R') : T = T' ∧ R = R' :=
  Tm.unique T T' R R' h.1 h'.1 (h.2.2.symm.trans h'.2.2)

abbrev noText : ByteArray := ⟨#[]⟩
theorem size0 {t : ByteArray} (h : t.size = 0) : t = noText := by
  apply ba_ext
  rw [List.length_eq_zero_iff.1 (show t.data.toList.length = 0 by rw [ba_len]; exact h)]

theorem isF_list {d : Nat} {L : List UInt8} {T : Tm} {R : List UInt8} : IsF d (40 :: L) T R ↔ ∃ xs, T = .mk true noText xs ∧ Tm.oks xs = true ∧ d + (Tm.depths xs + 1) ≤ 8 ∧ L = Tm.bytess xs ++ 41 :: R := by
  constructor
  · rintro ⟨h1, h2, h3⟩
    obtain ⟨l, t, xs⟩ := T
    cases l with
    | true =>
      rw [Tm.ok] at h1
      rw [Tm.depth] at h2
      rw [Tm.bytes] at h3
      simp only [if_true, Bool.and_eq_true, decide_eq_true_eq, List.cons_append, List.cons.injEq, true_and, List.append_assoc, List.nil_append] at h1 h2 h3
      exact ⟨xs, by rw [size0 h1.1], h1.2, h2, h3⟩
    | false =>
      rw [Tm.bytes] at h3
      simp only [Bool.false_eq_true, if_false] at h3
      cases e : decDigits t.size with
      | nil => exact absurd e (decDigits_ne _)
      | cons c r =>
        rw [e] at h3
        simp only [List.cons_append, List.cons.injEq] at h3
        exact absurd (h3.1 ▸ decDigits_dig t.size c (by rw [e]; simp)) not_dig_40
  · rintro ⟨xs, rfl, h1, h2, rfl⟩
    refine ⟨?_, ?_, ?_⟩
    · rw [Tm.ok]; simp [h1]; rfl
    · rw [Tm.depth]; simpa using h2
    · rw [Tm.bytes]; simp

theorem split_items {r : List UInt8} : ∀ (ys xs : List Tm) (Lk : List UInt8), Tm.oks ys = true → Tm.oks xs = true → Tm.bytess ys ++ Lk = Tm.bytess xs ++ 41 :: r → ∃ zs, xs = ys ++ zs ∧ Lk = Tm.bytess zs ++ 41 :: r
  | [], xs, Lk, _, _, h => ⟨xs, rfl, by simpa [Tm.bytess] using h⟩
  | y :: ys, [], Lk, _, _, h => by
    obtain ⟨c, q, e, hc⟩ := Tm.head y
    simp only [Tm.bytess, e, List.nil_append, List.cons_append, List.cons.injEq] at h
    rcases hc with rfl | hc
    · exact absurd h.1 (by decide)
    · exact absurd (h.1 ▸ hc) not_dig_41
  | y :: ys, x :: xs, Lk, h1, h2, h => by
    simp only [Tm.oks, Bool.and_eq_true] at h1 h2
    simp only [Tm.bytess, List.append_assoc] at h
    obtain ⟨e1, e2⟩ := Tm.unique y x _ _ h1.1 h2.1 h
    obtain ⟨zs, e3, e4⟩ := split_items ys xs Lk h1.2 h2.2 e2
    exact ⟨zs, by rw [e1, e3]; rfl, e4⟩

structure Items (d : Nat) (L : List UInt8) (ys : List Tm) (Lk : List UInt8) : Prop where
  eq : L = Tm.bytess ys ++ Lk
  ok : Tm.oks ys = true
  deep : d + (Tm.depths ys + 1) ≤ 8

theorem Items.start {d : Nat} {L : List UInt8} (hd : d < 8) : Items d L [] L := ⟨by simp [Tm.bytess], rfl, by simp [Tm.depths]; omega⟩
theorem Items.next {d : Nat} {L Lk R : List UInt8} {ys : List Tm} {T : Tm} (h : Items d L ys Lk) (hf : IsF (d + 1) Lk T R) : Items d L (ys ++ [T]) R := by
  refine ⟨?_, ?_, ?_⟩
  · rw [h.eq, hf.2.2, Tm.bytess_app]; simp [Tm.bytess]
  · rw [Tm.oks_app, h.ok]; simp [Tm.oks, hf.1]
  · rw [Tm.depths_app]
    have : Tm.depths [T] = T.depth := by simp [Tm.depths]
    have := hf.2.1
    have := h.deep
    omega
theorem Items.done {d : Nat} {L R : List UInt8} {ys : List Tm} (h : Items d L ys (41 :: R)) : IsF d (40 :: L) (.mk true noText ys) R :=
  isF_list.2 ⟨ys, rfl, h.ok, h.deep, h.eq⟩
theorem Items.fail {d : Nat} {L Lk : List UInt8} {ys : List Tm} (h : Items d L ys Lk) (hn : ∀ R, Lk ≠ 41 :: R) (hf : ∀ T R, ¬ IsF (d + 1) Lk T R) : ∀ T R, ¬ IsF d (40 :: L) T R := by
  intro T R hT
  obtain ⟨xs, _, h1, h2, h3⟩ := isF_list.1 hT
  obtain ⟨zs, e1, e2⟩ := split_items ys xs Lk h.ok h1 (h.eq.symm.trans h3)
  cases zs with
  | nil => exact hn R (by simpa [Tm.bytess] using e2)
  | cons z zs =>
    refine hf z (Tm.bytess zs ++ 41 :: R) ⟨?_, ?_, ?_⟩
    · exact Tm.oks_iff.1 h1 z (by rw [e1]; simp)
    · have := Tm.depths_le.1 (Nat.le_refl (Tm.depths xs)) z (by rw [e1]; simp)
      omega
    · rw [e2]; simp [Tm.bytess]
theorem isF_deep {L : List UInt8} (T : Tm) (R : List UInt8) : ¬ IsF 8 (40 :: L) T R := by
  intro h
  obtain ⟨xs, _, _, h2, _⟩ := isF_list.1 h
  omega

theorem isF_none {d : Nat} {L : List UInt8} (h : ∀ c r, L = c :: r → c ≠ 40 ∧ ¬ isDig c) (T : Tm) (R : List UInt8) : ¬ IsF d L T R := by
  intro hT
  obtain ⟨c, r, e, hc⟩ := Tm.head T
  have := hT.2.2
  rw [e] at this
  obtain ⟨h1, h2⟩ := h c (r ++ R) this
  rcases hc with hc | hc
  · exact h1 hc
  · exact h2 hc

theorem isF_text {d : Nat} {L : List UInt8} {T : Tm} {R : List UInt8} {c : UInt8} {r : List UInt8} (hL : L = c :: r) (hc : isDig c) : IsF d L T R ↔ d ≤ 8 ∧ ∃ t : ByteArray, T = .mk false t [] ∧ L = decDigits t.size ++ 58 :: (t.data.toList ++ R) := by
  constructor
  · rintro ⟨h1, h2, h3⟩
    obtain ⟨l, t, xs⟩ := T
    cases l with
    | true =>
      rw [Tm.bytes, hL] at h3
      simp only [if_true, List.cons_append, List.cons.injEq] at h3
      exact absurd (h3.1 ▸ hc) not_dig_40
    | false =>
      rw [Tm.ok] at h1
      rw [Tm.depth] at h2
      rw [Tm.bytes] at h3
      simp only [Bool.false_eq_true, if_false, List.isEmpty_iff, Nat.add_zero] at h1 h2 h3
      exact ⟨h2, t, by rw [h1], by rw [h3]; simp⟩
  · rintro ⟨h1, t, rfl, h3⟩
    refine ⟨?_, ?_, ?_⟩
    · rw [Tm.ok]; simp
    · rw [Tm.depth]; simpa using h1
    · rw [Tm.bytes, h3]; simp

theorem text_run {d : Nat} {ds Lk : List UInt8} {T : Tm} {R : List UInt8} (hne : ds ≠ []) (hd : ∀ c ∈ ds, isDig c) (hk : ∀ x r, Lk = x :: r → ¬ isDig x) (h : IsF d (ds ++ Lk) T R) :
    d ≤ 8 ∧ ∃ t : ByteArray, T = .mk false t [] ∧ ds = decDigits t.size ∧ Lk = 58 :: (t.data.toList ++ R) := by
  obtain ⟨c, ds', rfl⟩ := List.exists_cons_of_ne_nil hne
  obtain ⟨h1, t, hT, h3⟩ := (isF_text (c := c) (r := ds' ++ Lk) rfl (hd c (by simp))).1 h
  cases Lk with
  | nil =>
    exfalso
    have : (58 : UInt8) ∈ c :: ds' := by
      rw [List.append_nil] at h3
      rw [h3]; simp
    exact not_dig_58 (hd 58 this)
  | cons x r =>
    obtain ⟨e1, e2, e3⟩ := run_unique hd (decDigits_dig _) (hk x r rfl) not_dig_58 h3
    exact ⟨h1, t, hT, e1, by rw [e2, e3]⟩
theorem text_fail_colon {d : Nat} {ds Lk : List UInt8} (hne : ds ≠ []) (hd : ∀ c ∈ ds, isDig c) (hk : ∀ x r, Lk = x :: r → ¬ isDig x) (hc : ∀ r, Lk ≠ 58 :: r) (T : Tm) (R : List UInt8) : ¬ IsF d (ds ++ Lk) T R := fun h => by
  obtain ⟨_, t, _, _, e⟩ := text_run hne hd hk h
  exact hc _ e
theorem text_fail_short {d : Nat} {ds L2 : List UInt8} (hne : ds ≠ []) (hd : ∀ c ∈ ds, isDig c) (hs : L2.length < val ds) (T : Tm) (R : List UInt8) : ¬ IsF d (ds ++ 58 :: L2) T R := fun h => by
  obtain ⟨_, t, _, e1, e2⟩ := text_run hne hd (fun x r e => by injection e with e _; exact e ▸ not_dig_58) h
  injection e2 with _ e2
  have h1 := congrArg List.length e2
  have h2 := ba_len t
  rw [e1, val_decDigits] at hs
  rw [List.length_append] at h1
  omega
theorem text_fail_long {d : Nat} {ds Lk : List UInt8} {c : UInt8} (hd : ∀ c ∈ ds, isDig c) (hc : isDig c) (hs : Lk.length + 1 < val (ds ++ [c])) (T : Tm) (R : List UInt8) : ¬ IsF d (ds ++ c :: Lk) T R := fun h => by
  have hL : ∃ x r, ds ++ c :: Lk = x :: r ∧ isDig x := by
    cases ds with
    | nil => exact ⟨c, Lk, rfl, hc⟩
    | cons x r => exact ⟨x, r ++ c :: Lk, rfl, hd x (by simp)⟩
  obtain ⟨x, r, e, hx⟩ := hL
  obtain ⟨_, t, _, h3⟩ := (isF_text e hx).1 h
  have key : ∃ m, decDigits t.size = (ds ++ [c]) ++ m ∧ Lk = m ++ 58 :: (t.data.toList ++ R) := by
    have h4 : (ds ++ [c]) ++ Lk = decDigits t.size ++ 58 :: (t.data.toList ++ R) := by rw [← h3]; simp
    have hall : ∀ y ∈ ds ++ [c], isDig y := by
      intro y hy
      rcases List.mem_append.1 hy with hy | hy
      · exact hd y hy
      · rw [List.mem_singleton] at hy; exact hy ▸ hc
    rcases List.append_eq_append_iff.1 h4 with ⟨m, e1, e2⟩ | ⟨m, e1, e2⟩
    · exact ⟨m, e1, e2⟩
    · cases m with
      | nil => exact ⟨[], by simpa using e1.symm, by simpa using e2.symm⟩
      | cons y m =>
        exfalso
        simp only [List.cons_append, List.cons.injEq] at e2
        exact not_dig_58 (e2.1 ▸ hall y (by rw [e1]; simp))
  obtain ⟨m, e1, e2⟩ := key
  have h5 := val_app_le (ds ++ [c]) m
  rw [← e1, val_decDigits] at h5
  have h6 := congrArg List.length e2
  have h7 := ba_len t
  simp only [List.length_append, List.length_cons] at h6
  omega
theorem text_ok {d : Nat} {ds L2 : List UInt8} (hd8 : d ≤ 8) (hne : ds ≠ []) (hd : ∀ c ∈ ds, isDig c) (hz : ds.head? = some 48 → ds = [48]) (t : ByteArray) (R : List UInt8) (hs : t.size = val ds) (hL : L2 = t.data.toList ++ R) : IsF d (ds ++ 58 :: L2) (.mk false t []) R := by
  refine ⟨?_, ?_, ?_⟩
  · rw [Tm.ok]; simp
  · rw [Tm.depth]; simpa using hd8
  · rw [Tm.bytes, hs, decDigits_val ds hne hd hz, hL]; simp
theorem text_zero {d : Nat} {L : List UInt8} (h : ∀ r, L ≠ 58 :: r) (T : Tm) (R : List UInt8) : ¬ IsF d (48 :: L) T R := fun hT => by
  obtain ⟨_, t, _, e⟩ := (isF_text rfl (by decide : isDig 48)).1 hT
  cases e1 : decDigits t.size with
  | nil => exact absurd e1 (decDigits_ne _)
  | cons c r =>
    rw [e1] at e
    simp only [List.cons_append, List.cons.injEq] at e
    have := decDigits_head (u := t.size) (by rw [e1, ← e.1]; rfl)
    rw [e1] at this
    injection this with _ h2
    rw [h2] at e
    exact h _ e.2
end Go.Proofs.YtojnagonhihknaaGreatDoor
