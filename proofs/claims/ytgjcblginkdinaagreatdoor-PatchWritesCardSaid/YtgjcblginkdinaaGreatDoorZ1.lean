/- Forms as trees: which are right, their depth, their bytes; bytes are a form's in one way at most. Mathematics alone. Forms in memory: a slice value reads as a list of forms. Which form's bytes a list of bytes begins with: at most one's; lists and texts, step by step. Mathematics alone. The program's look at one form: is it right by itself? The contracts of Text: the program's and the document's. The contract of the reader's next. The contract of the document's right: is a form right all through? The contract of the document's Depth. -/
import Derived.Lib.ItoaNum
import Derived.Test.YtgjcblginkdinaaGreatDoorZ0
set_option linter.unusedVariables false
namespace Go.Proofs.YtgjcblginkdinaaGreatDoor
open Go.Lib

inductive Tm where
  | mk (l : Bool) (t : ByteArray) (xs : List Tm)

mutual
def Tm.ok : Tm → Bool
  | .mk l t xs => if l then decide (t.size = 0) && Tm.oks xs else xs.isEmpty
def Tm.oks : List Tm → Bool
  | [] => true
  | x :: r => Tm.ok x && Tm.oks r
end
mutual
def Tm.depth : Tm → Nat
  | .mk l t xs => if l then Tm.depths xs + 1 else 0
def Tm.depths : List Tm → Nat
  | [] => 0
  | x :: r => max (Tm.depth x) (Tm.depths r)
end
mutual
def Tm.bytes : Tm → List UInt8
  | .mk l t xs => if l then 40 :: (Tm.bytess xs ++ [41]) else decDigits t.size ++ 58 :: t.data.toList
def Tm.bytess : List Tm → List UInt8
  | [] => []
  | x :: r => Tm.bytes x ++ Tm.bytess r
end
mutual
def Tm.parts : Tm → Nat
  | .mk l t xs => Tm.partss xs + 1
def Tm.partss : List Tm → Nat
  | [] => 0
  | x :: r => Tm.parts x + Tm.partss r
end
mutual
def Tm.texts : Tm → Nat
  | .mk l t xs => t.size + Tm.textss xs
def Tm.textss : List Tm → Nat
  | [] => 0
  | x :: r => Tm.texts x + Tm.textss r
end

theorem Tm.ind {P : Tm → Prop} (h : ∀ l t xs, (∀ x ∈ xs, P x) → P (.mk l t xs)) (T : Tm) : P T := by
  refine Tm.rec (motive_1 := P) (motive_2 := fun xs => ∀ x ∈ xs, P x) (fun l t xs ih => h l t xs ih) (fun x hx => by cases hx) (fun x r hx hr y hy => ?_) T
  rcases List.mem_cons.1 hy with rfl | hy
  · exact hx
  · exact hr y hy

theorem snoc_ind {α : Type} {P : List α → Prop} (h0 : P []) (h1 : ∀ r x, P r → P (r ++ [x])) (l : List α) : P l := by
  have : ∀ n, ∀ l : List α, l.length = n → P l := by
    intro n
    induction n with
    | zero => intro l hl; rw [List.length_eq_zero_iff.1 hl]; exact h0
    | succ n ih =>
      intro l hl
      have hne : l ≠ [] := by rintro rfl; simp at hl
      rw [← List.dropLast_concat_getLast hne]
      exact h1 _ _ (ih _ (by simp; omega))
  exact this _ l rfl

theorem Tm.oks_app (xs ys : List Tm) : Tm.oks (xs ++ ys) = (Tm.oks xs && Tm.oks ys) := by
  induction xs with
  | nil => simp [Tm.oks]
  | cons x r ih => simp [Tm.oks, ih, Bool.and_assoc]
theorem Tm.depths_app (xs ys : List Tm) : Tm.depths (xs ++ ys) = max (Tm.depths xs) (Tm.depths ys) := by
  induction xs with
  | nil => simp [Tm.depths]
  | cons x r ih => simp only [List.cons_append, Tm.depths, ih]; omega
theorem Tm.bytess_app (xs ys : List Tm) : Tm.bytess (xs ++ ys) = Tm.bytess xs ++ Tm.bytess ys := by
  induction xs with
  | nil => simp [Tm.bytess]
  | cons x r ih => simp [Tm.bytess, ih]
theorem Tm.partss_app (xs ys : List Tm) : Tm.partss (xs ++ ys) = Tm.partss xs + Tm.partss ys := by
  induction xs with
  | nil => simp [Tm.partss]
  | cons x r ih => simp only [List.cons_append, Tm.partss, ih]; omega
theorem Tm.oks_iff {xs : List Tm} : Tm.oks xs = true ↔ ∀ x ∈ xs, Tm.ok x = true := by
  induction xs with
  | nil => simp [Tm.oks]
  | cons x r ih => simp [Tm.oks, ih]
theorem Tm.depths_le {xs : List Tm} {d : Nat} : Tm.depths xs ≤ d ↔ ∀ x ∈ xs, Tm.depth x ≤ d := by
  induction xs with
  | nil => simp [Tm.depths]
  | cons x r ih => simp only [Tm.depths, List.mem_cons, forall_eq_or_imp, ← ih]; omega
theorem Tm.parts_pos : ∀ T : Tm, 1 ≤ T.parts
  | .mk l t xs => by simp [Tm.parts]
theorem Tm.length_le_partss (xs : List Tm) : xs.length ≤ Tm.partss xs := by
  induction xs with
  | nil => simp
  | cons x r ih => have := Tm.parts_pos x; simp only [List.length_cons, Tm.partss]; omega
theorem Tm.parts_mem {xs : List Tm} {x : Tm} (h : x ∈ xs) : x.parts ≤ Tm.partss xs := by
  induction xs with
  | nil => simp at h
  | cons y r ih => simp only [Tm.partss]; rcases List.mem_cons.1 h with rfl | h; · omega
                   · have := ih h; omega
theorem Tm.texts_mem {xs : List Tm} {x : Tm} (h : x ∈ xs) : x.texts ≤ Tm.textss xs := by
  induction xs with
  | nil => simp at h
  | cons y r ih => simp only [Tm.textss]; rcases List.mem_cons.1 h with rfl | h; · omega
                   · have := ih h; omega

def isDig (c : UInt8) : Prop := 48 ≤ c.toNat ∧ c.toNat ≤ 57
instance (c : UInt8) : Decidable (isDig c) := by unfold isDig; exact inferInstance
def val (l : List UInt8) : Nat := l.foldl (fun a c => 10 * a + (c.toNat - 48)) 0
theorem val_snoc (l : List UInt8) (c : UInt8) : val (l ++ [c]) = 10 * val l + (c.toNat - 48) := by simp [val]
theorem dig_toNat {u : Nat} (h : u < 10) : (UInt8.ofNat (48 + u)).toNat = 48 + u := by
  rw [UInt8.toNat_ofNat']; omega
theorem decDigits_dig : ∀ (u : Nat), ∀ c ∈ decDigits u, isDig c := by
  intro u
  induction u using Nat.strongRecOn with
  | _ u ih =>
    rw [decDigits]
    split
    · intro c hc
      rw [List.mem_singleton] at hc
      subst hc
      unfold isDig
      rw [dig_toNat (by omega)]; omega
    · intro c hc
      rcases List.mem_append.1 hc with hc | hc
      · exact ih (u / 10) (by omega) c hc
      · rw [List.mem_singleton] at hc
        subst hc
        unfold isDig
        rw [dig_toNat (by omega)]; omega
theorem val_decDigits : ∀ (u : Nat), val (decDigits u) = u := by
  intro u
  induction u using Nat.strongRecOn with
  | _ u ih =>
    rw [decDigits]
    split
    · simp only [val, List.foldl_cons, List.foldl_nil]
      rw [dig_toNat (by omega)]; omega
    · rw [val_snoc, ih (u / 10) (by omega), dig_toNat (by omega)]; omega
theorem decDigits_inj {u v : Nat} (h : decDigits u = decDigits v) : u = v := by
  rw [← val_decDigits u, h, val_decDigits]
theorem decDigits_ne (u : Nat) : decDigits u ≠ [] := by
  rw [decDigits]
  split <;> simp
theorem val_lead {l : List UInt8} (h : val l = 0) (hd : ∀ c ∈ l, isDig c) : ∀ c ∈ l, c = 48 := by
  induction l using snoc_ind with
  | h0 => simp
  | h1 r c ih =>
    rw [val_snoc] at h
    intro x hx
    rcases List.mem_append.1 hx with hx | hx
    · exact ih (by omega) (fun c hc => hd c (List.mem_append_left _ hc)) x hx
    · rw [List.mem_singleton] at hx
      subst hx
      have := hd x (by simp)
      unfold isDig at this
      apply UInt8.toNat.inj
      show x.toNat = 48
      omega
theorem decDigits_val : ∀ (l : List UInt8), l ≠ [] → (∀ c ∈ l, isDig c) → (l.head? = some 48 → l = [48]) → decDigits (val l) = l := by
  intro l
  induction l using snoc_ind with
  | h0 => intro h; exact absurd rfl h
  | h1 r c ih =>
    intro _ hd hz
    have hc : isDig c := hd c (by simp)
    have hr : ∀ x ∈ r, isDig x := fun x hx => hd x (List.mem_append_left _ hx)
    have hcc : UInt8.ofNat (48 + (c.toNat - 48)) = c := by
      unfold isDig at hc
      rw [show 48 + (c.toNat - 48) = c.toNat by omega, UInt8.ofNat_toNat]
    rw [val_snoc]
    cases r with
    | nil =>
      unfold isDig at hc
      rw [decDigits, dif_pos (by simp [val]; omega)]
      simp only [val, List.foldl_nil, Nat.mul_zero, Nat.zero_add, hcc, List.nil_append]
    | cons x s =>
      have hx0 : x ≠ 48 := by
        rintro rfl
        have := hz rfl
        simp at this
      have hv : val (x :: s) ≠ 0 := fun h0 => hx0 (val_lead h0 hr x (by simp))
      have hi := ih (by simp) hr (by intro h; simp at h; exact absurd h hx0)
      unfold isDig at hc
      rw [decDigits, dif_neg (by omega)]
      rw [show (10 * val (x :: s) + (c.toNat - 48)) / 10 = val (x :: s) by omega, show (10 * val (x :: s) + (c.toNat - 48)) % 10 = c.toNat - 48 by omega, hi, hcc]
theorem decDigits_head {u : Nat} (h : (decDigits u).head? = some 48) : decDigits u = [48] := by
  induction u using Nat.strongRecOn with
  | _ u ih =>
    by_cases hu : u < 10
    · rw [decDigits, dif_pos hu] at h ⊢
      simpa using h
    · rw [decDigits, dif_neg hu] at h
      have hne := decDigits_ne (u / 10)
      have h' : (decDigits (u / 10)).head? = some 48 := by
        cases e : decDigits (u / 10) with
        | nil => exact absurd e hne
        | cons a b => rw [e] at h; simpa using h
      have h2 := ih (u / 10) (by omega) h'
      have h3 := val_decDigits (u / 10)
      rw [h2] at h3
      have : val [48] = 0 := by decide
      omega
theorem val_app_le (l m : List UInt8) : val l ≤ val (l ++ m) := by
  induction m using snoc_ind with
  | h0 => simp
  | h1 r c ih => rw [← List.append_assoc, val_snoc]; omega
theorem not_dig_58 : ¬ isDig 58 := by unfold isDig; decide
theorem not_dig_40 : ¬ isDig 40 := by unfold isDig; decide
theorem not_dig_41 : ¬ isDig 41 := by unfold isDig; decide

theorem run_unique : ∀ {p q : List UInt8} {x y : UInt8} {a b : List UInt8}, (∀ c ∈ p, isDig c) → (∀ c ∈ q, isDig c) → ¬ isDig x → ¬ isDig y → p ++ x :: a = q ++ y :: b → p = q ∧ x = y ∧ a = b
  | [], [], x, y, a, b, _, _, _, _, h => by simpa using h
  | [], d :: q, x, y, a, b, _, hq, hx, _, h => by
    simp only [List.nil_append, List.cons_append, List.cons.injEq] at h
    exact absurd (h.1 ▸ hq d (by simp)) hx
  | c :: p, [], x, y, a, b, hp, _, _, hy, h => by
    simp only [List.nil_append, List.cons_append, List.cons.injEq] at h
    exact absurd (h.1 ▸ hp c (by simp)) hy
  | c :: p, d :: q, x, y, a, b, hp, hq, hx, hy, h => by
    simp only [List.cons_append, List.cons.injEq] at h
    obtain ⟨h1, h2⟩ := h
    obtain ⟨e1, e2⟩ := run_unique (fun c hc => hp c (by simp [hc])) (fun c hc => hq c (by simp [hc])) hx hy h2
    exact ⟨by rw [h1, e1], e2⟩

theorem ba_ext {s t : ByteArray} (h : s.data.toList = t.data.toList) : s = t := by
  cases s; cases t
  simp only [ByteArray.mk.injEq]
  exact Array.toList_inj.1 h
theorem ba_len (s : ByteArray) : s.data.toList.length = s.size := Array.length_toList

theorem Tm.head (T : Tm) : ∃ c r, T.bytes = c :: r ∧ (c = 40 ∨ isDig c) := by
  obtain ⟨l, t, xs⟩ := T
  cases l with
  | true => exact ⟨40, _, by rw [Tm.bytes, if_pos rfl], .inl rfl⟩
  | false =>
    cases e : decDigits t.size with
    | nil => exact absurd e (decDigits_ne _)
    | cons c r =>
      refine ⟨c, r ++ 58 :: t.data.toList, ?_, .inr (decDigits_dig t.size c (by rw [e]; simp))⟩
      rw [Tm.bytes, if_neg (by simp), e]; rfl

theorem Tm.unique : ∀ (T T' : Tm) (r r' : List UInt8), T.ok = true → T'.ok = true → T.bytes ++ r = T'.bytes ++ r' → T = T' ∧ r = r' := by
  intro T
  induction T using Tm.ind with
  | h l t xs ih =>
    rintro ⟨l', t', xs'⟩ r r' h1 h2 h
    rw [Tm.ok] at h1 h2
    rw [Tm.bytes, Tm.bytes] at h
    cases l with
    | true =>
      cases l' with
      | true =>
        simp only [if_true, Bool.and_eq_true, decide_eq_true_eq] at h1 h2
        obtain ⟨h1, k1⟩ := h1
        obtain ⟨h2, k2⟩ := h2
        have et : t = t' := by
          apply ba_ext
          have a := ba_len t
          have b := ba_len t'
          rw [List.length_eq_zero_iff.1 (by omega : t.data.toList.length = 0), List.length_eq_zero_iff.1 (by omega : t'.data.toList.length = 0)]
        subst et
        simp only [if_true, List.cons_append, List.cons.injEq, true_and, List.append_assoc, List.nil_append] at h
        have key : ∀ (xs xs' : List Tm), (∀ x ∈ xs, ∀ (T' : Tm) (r r' : List UInt8), x.ok = true → T'.ok = true → x.bytes ++ r = T'.bytes ++ r' → x = T' ∧ r = r') → Tm.oks xs = true → Tm.oks xs' = true →
            Tm.bytess xs ++ 41 :: r = Tm.bytess xs' ++ 41 :: r' → xs = xs' ∧ r = r' := by
          intro xs
          induction xs with
          | nil =>
            intro xs' _ _ k2 h
            cases xs' with
            | nil => simpa [Tm.bytess] using h
            | cons y s =>
              obtain ⟨c, q, e, hc⟩ := Tm.head y
              simp only [Tm.bytess, e, List.nil_append, List.cons_append, List.cons.injEq] at h
              rcases hc with rfl | hc
              · exact absurd h.1 (by decide)
              · exact absurd (h.1 ▸ hc) not_dig_41
          | cons x s ih2 =>
            intro xs' ihx k1 k2 h
            cases xs' with
            | nil =>
              obtain ⟨c, q, e, hc⟩ := Tm.head x
              simp only [Tm.bytess, e, List.nil_append, List.cons_append, List.cons.injEq] at h
              rcases hc with rfl | hc
              · exact absurd h.1 (by decide)
              · exact absurd (h.1 ▸ hc) not_dig_41
            | cons y s' =>
              simp only [Tm.oks, Bool.and_eq_true] at k1 k2
              simp only [Tm.bytess, List.append_assoc] at h
              obtain ⟨e1, e2⟩ := ihx x (by simp) y _ _ k1.1 k2.1 h
              obtain ⟨e3, e4⟩ := ih2 s' (fun z hz => ihx z (by simp [hz])) k1.2 k2.2 e2
              exact ⟨by rw [e1, e3], e4⟩
        obtain ⟨e1, e2⟩ := key xs xs' ih k1 k2 h
        exact ⟨by rw [e1], e2⟩
      | false =>
        obtain ⟨c, q, e, hc⟩ := Tm.head (.mk false t' xs')
        rw [Tm.bytes, if_neg (by simp)] at e
        simp only [if_true, Bool.false_eq_true, if_false] at h
        have hd : isDig c := by
          cases e2 : decDigits t'.size with
          | nil => exact absurd e2 (decDigits_ne _)
          | cons a b =>
            rw [e2] at e
            simp only [List.cons_append, List.cons.injEq] at e
            exact e.1 ▸ decDigits_dig t'.size a (by rw [e2]; simp)
        rw [e] at h
        simp only [List.cons_append, List.cons.injEq] at h
        exact absurd (h.1 ▸ hd) not_dig_40
    | false =>
      cases l' with
      | true =>
        simp only [if_true, Bool.false_eq_true, if_false] at h
        cases e2 : decDigits t.size with
        | nil => exact absurd e2 (decDigits_ne _)
        | cons a b =>
          rw [e2] at h
          simp only [List.cons_append, List.cons.injEq] at h
          have hd := decDigits_dig t.size a (by rw [e2]; simp)
          exact absurd (h.1 ▸ hd) not_dig_40
      | false =>
        simp only [Bool.false_eq_true, if_false, List.append_assoc, List.cons_append, List.isEmpty_iff] at h h1 h2
        subst h1; subst h2
        obtain ⟨e1, _, e2⟩ := run_unique (decDigits_dig _) (decDigits_dig _) not_dig_58 not_dig_58 h
        have hs := decDigits_inj e1
        have hl : t.data.toList.length = t'.data.toList.length := by rw [ba_len, ba_len, hs]
        obtain ⟨e3, e4⟩ := List.append_inj e2 hl
        exact ⟨by rw [ba_ext e3], e4⟩
end Go.Proofs.YtgjcblginkdinaaGreatDoor
set_option linter.unusedVariables false
namespace Go.Proofs.YtgjcblginkdinaaGreatDoor
open Go.ChangeShapes Go.WideShapes Go.ChangeAt Go.RowKit

inductive SlL (Z : Nat → Prop) (w : World) : Value → List Tm → Prop
  | nil (a : Option Addr) (c : Nat) : c ≤ maxLen → SlL Z w (.slice a 0 c) []
  | row (b o c : Nat) (xs : List Tm) (S : Nat → Value) : xs ≠ [] → Z b → xs.length ≤ c → c ≤ maxLen →
      (∀ j l t ys, xs[j]? = some (.mk l t ys) → w.cell? ⟨b, o + j * 3, none⟩ = some (.bool l) ∧ w.cell? ⟨b, o + j * 3 + 1, none⟩ = some (.string t) ∧ w.cell? ⟨b, o + j * 3 + 2, none⟩ = some (S j) ∧ t.size ≤ 140737488355328) →
      (∀ j l t ys, xs[j]? = some (.mk l t ys) → SlL Z w (S j) ys) → SlL Z w (.slice (some ⟨b, o, none⟩) xs.length c) xs

theorem SlL.form {Z : Nat → Prop} {w : World} {v : Value} {xs : List Tm} (h : SlL Z w v xs) : ∃ a c, v = .slice a xs.length c ∧ xs.length ≤ c ∧ c ≤ maxLen := by
  cases h with
  | nil a c hc => exact ⟨a, c, rfl, Nat.zero_le _, hc⟩
  | row b o c xs S h1 h2 h3 h4 h5 h6 => exact ⟨_, c, rfl, h3, h4⟩

def FRow (Z : Nat → Prop) (w : World) (b o : Nat) (xs : List Tm) : Prop :=
  Z b ∧ b < w.heap.size ∧ ∀ j l t ys, xs[j]? = some (.mk l t ys) → ∃ a c, w.cell? ⟨b, o + j * 3, none⟩ = some (.bool l) ∧ w.cell? ⟨b, o + j * 3 + 1, none⟩ = some (.string t) ∧ w.cell? ⟨b, o + j * 3 + 2, none⟩ = some (.slice a ys.length c) ∧
    t.size ≤ 140737488355328 ∧ SlL Z w (.slice a ys.length c) ys

theorem SlL.pos {Z : Nat → Prop} {w : World} {v : Value} {xs : List Tm} (h : SlL Z w v xs) (hne : xs ≠ []) : ∃ b o c, v = .slice (some ⟨b, o, none⟩) xs.length c ∧ xs.length ≤ c ∧ c ≤ maxLen ∧ FRow Z w b o xs := by
  cases h with
  | nil a c => exact absurd rfl hne
  | row b o c xs S h1 h2 h3 h4 h5 h6 =>
    refine ⟨b, o, c, rfl, h3, h4, h2, ?_, fun j l t ys hj => ?_⟩
    · obtain ⟨⟨l, t, ys⟩, r, rfl⟩ := List.exists_cons_of_ne_nil h1
      exact cell_lt (h5 0 l t ys rfl).1
    · obtain ⟨c1, c2, c3, c4⟩ := h5 j l t ys hj
      have hs := h6 j l t ys hj
      obtain ⟨a, c', e, _, _⟩ := hs.form
      rw [e] at c3 hs
      exact ⟨a, c', c1, c2, c3, c4, hs⟩

theorem SlL.of_row {Z : Nat → Prop} {w : World} {b o c : Nat} {xs : List Tm} (h : FRow Z w b o xs) (hne : xs ≠ []) (hc : xs.length ≤ c) (hm : c ≤ maxLen) : SlL Z w (.slice (some ⟨b, o, none⟩) xs.length c) xs := by
  obtain ⟨h1, h2, h3⟩ := h
  have hS : ∀ j, ∃ v, ∀ l t ys, xs[j]? = some (.mk l t ys) → w.cell? ⟨b, o + j * 3, none⟩ = some (.bool l) ∧ w.cell? ⟨b, o + j * 3 + 1, none⟩ = some (.string t) ∧ w.cell? ⟨b, o + j * 3 + 2, none⟩ = some v ∧ t.size ≤ 140737488355328 ∧ SlL Z w v ys := by
    intro j
    cases e : xs[j]? with
    | none => exact ⟨.nilIface, fun _ _ _ h => by cases h⟩
    | some x =>
      obtain ⟨l, t, ys⟩ := x
      obtain ⟨a, c', k⟩ := h3 j l t ys e
      refine ⟨.slice a ys.length c', fun l' t' ys' h => ?_⟩
      cases h
      exact k
  obtain ⟨S, hS⟩ := Classical.axiomOfChoice hS
  exact .row b o c xs S hne h1 hc hm (fun j l t ys hj => by obtain ⟨a1, a2, a3, a4, _⟩ := hS j l t ys hj; exact ⟨a1, a2, a3, a4⟩) (fun j l t ys hj => (hS j l t ys hj).2.2.2.2)

theorem SlL.carry {Z Z' : Nat → Prop} {w w' : World} {v : Value} {xs : List Tm} (h : SlL Z w v xs) (hb : ∀ i, i < w.heap.size → Z i → w'.heap[i]? = w.heap[i]? ∧ Z' i) : SlL Z' w' v xs := by
  induction h with
  | nil a c hc => exact .nil a c hc
  | row b o c xs S h1 h2 h3 h4 h5 h6 ih =>
    have hlt : b < w.heap.size := by
      obtain ⟨⟨l, t, ys⟩, r, rfl⟩ := List.exists_cons_of_ne_nil h1
      exact cell_lt (h5 0 l t ys rfl).1
    obtain ⟨e, hz⟩ := hb b hlt h2
    refine .row b o c xs S h1 hz h3 h4 (fun j l t ys hj => ?_) (fun j l t ys hj => ih j l t ys hj)
    obtain ⟨a1, a2, a3, a4⟩ := h5 j l t ys hj
    exact ⟨(World.cell?_of_block (w := w) (a := ⟨b, o + j * 3, none⟩) e).trans a1, (World.cell?_of_block (w := w) (a := ⟨b, o + j * 3 + 1, none⟩) e).trans a2, (World.cell?_of_block (w := w) (a := ⟨b, o + j * 3 + 2, none⟩) e).trans a3, a4⟩

theorem SlL.keep {Z : Nat → Prop} {w w' : World} {v : Value} {xs : List Tm} (h : SlL Z w v xs) (hb : Below w.heap.size w w') : SlL Z w' v xs := h.carry fun i hi hz => ⟨hb.block i hi, hz⟩
theorem SlL.belowB {B : Nat} {w w' : World} {v : Value} {xs : List Tm} (h : SlL (· < B) w v xs) (hb : Below B w w') : SlL (· < B) w' v xs := h.carry fun i hi hz => ⟨hb.block i hz, hz⟩
theorem SlL.off {Z Y : Nat → Prop} {w w' : World} {v : Value} {xs : List Tm} (h : SlL Z w v xs) (ho : Off Y w w') (hz : ∀ i, Z i → ¬ Y i) : SlL Z w' v xs := h.carry fun i hi h => ⟨ho.block i hi (hz i h), h⟩
theorem SlL.mono {Z Z' : Nat → Prop} {w : World} {v : Value} {xs : List Tm} (h : SlL Z w v xs) (hz : ∀ i, i < w.heap.size → Z i → Z' i) : SlL Z' w v xs := h.carry fun i hi h => ⟨rfl, hz i hi h⟩
theorem SlL.drewN {Z : Nat → Prop} {w : World} {v : Value} {xs : List Tm} {n : Nat} (h : SlL Z w v xs) : SlL Z (w.drewN n) v xs := h.carry fun i hi h => ⟨rfl, h⟩
theorem SlL.drew {Z : Nat → Prop} {w : World} {v : Value} {xs : List Tm} (h : SlL Z w v xs) : SlL Z w.drew v xs := h.carry fun i hi h => ⟨rfl, h⟩
theorem SlL.alloc {Z : Nat → Prop} {w : World} {v : Value} {xs : List Tm} (h : SlL Z w v xs) (o : Obj) : SlL Z (w.alloc o) v xs := h.keep ((Below.refl _ _).alloc (Nat.le_refl _) o)
theorem FRow.below {Z : Nat → Prop} {w w' : World} {b o : Nat} {xs : List Tm} (h : FRow Z w b o xs) (hb : Below w.heap.size w w') : FRow Z w' b o xs := by
  obtain ⟨h1, h2, h3⟩ := h
  refine ⟨h1, Nat.lt_of_lt_of_le h2 hb.size, fun j l t ys hj => ?_⟩
  obtain ⟨a, c, a1, a2, a3, a4, a5⟩ := h3 j l t ys hj
  exact ⟨a, c, (hb.cell (p := ⟨b, o + j * 3, none⟩) h2).trans a1, (hb.cell (p := ⟨b, o + j * 3 + 1, none⟩) h2).trans a2, (hb.cell (p := ⟨b, o + j * 3 + 2, none⟩) h2).trans a3, a4, a5.keep hb⟩
theorem FRow.off {Z Y : Nat → Prop} {w w' : World} {b o : Nat} {xs : List Tm} (h : FRow Z w b o xs) (ho : Off Y w w') (hz : ∀ i, Z i → ¬ Y i) : FRow Z w' b o xs := by
  obtain ⟨h1, h2, h3⟩ := h
  refine ⟨h1, Nat.lt_of_lt_of_le h2 ho.size, fun j l t ys hj => ?_⟩
  obtain ⟨a, c, a1, a2, a3, a4, a5⟩ := h3 j l t ys hj
  have hn := hz b h1
  exact ⟨a, c, (ho.cell (p := ⟨b, o + j * 3, none⟩) h2 hn).trans a1, (ho.cell (p := ⟨b, o + j * 3 + 1, none⟩) h2 hn).trans a2, (ho.cell (p := ⟨b, o + j * 3 + 2, none⟩) h2 hn).trans a3, a4, a5.off ho hz⟩

abbrev fv (l : Bool) (t : ByteArray) (s : Value) : Value := .agg #[.bool l, .string t, s]
end Go.Proofs.YtgjcblginkdinaaGreatDoor
set_option linter.unusedVariables false
namespace Go.Proofs.YtgjcblginkdinaaGreatDoor
open Go.Lib

def IsF (d : Nat) (L : List UInt8) (T : Tm) (R : List UInt8) : Prop := T.ok = true ∧ d + T.depth ≤ 8 ∧ L = T.bytes ++ R

theorem IsF.det {d d' : Nat} {L : List UInt8} {T T' : Tm} {R R' : List UInt8} (h : IsF d L T R) (h' : IsF d' L T' R') : T = T' ∧ R = R' :=
  Tm.unique T T' R R' h.1 h'.1 (h.2.2.symm.trans h'.2.2)

abbrev noText : ByteArray := ⟨#[]⟩
theorem size0 {t : ByteArray} (h : t.size = 0) : t = noText := by
  apply ba_ext
  rw [List.length_eq_zero_iff.1 (show t.data.toList.length = 0 by rw [ba_len]; exact h)]

theorem isF_list {d : Nat} {L : List UInt8} {T : Tm} {R : List UInt8} : IsF d (40 :: L) T R ↔ ∃ xs, T = .mk true noText xs ∧ Tm.oks xs = true ∧ d + (Tm.depths xs + 1) ≤ 8 ∧ L = Tm.bytess xs ++ 41 :: R := by
  constructor
  · rintro ⟨h1, h2, h3⟩
    obtain ⟨l, t, xs⟩ := T
    cases l with
    | true =>
      rw [Tm.ok] at h1
      rw [Tm.depth] at h2
      rw [Tm.bytes] at h3
      simp only [if_true, Bool.and_eq_true, decide_eq_true_eq, List.cons_append, List.cons.injEq, true_and, List.append_assoc, List.nil_append] at h1 h2 h3
      exact ⟨xs, by rw [size0 h1.1], h1.2, h2, h3⟩
    | false =>
      rw [Tm.bytes] at h3
      simp only [Bool.false_eq_true, if_false] at h3
      cases e : decDigits t.size with
      | nil => exact absurd e (decDigits_ne _)
      | cons c r =>
        rw [e] at h3
        simp only [List.cons_append, List.cons.injEq] at h3
        exact absurd (h3.1 ▸ decDigits_dig t.size c (by rw [e]; simp)) not_dig_40
  · rintro ⟨xs, rfl, h1, h2, rfl⟩
    refine ⟨?_, ?_, ?_⟩
    · rw [Tm.ok]; simp [h1]; rfl
    · rw [Tm.depth]; simpa using h2
    · rw [Tm.bytes]; simp

theorem split_items {r : List UInt8} : ∀ (ys xs : List Tm) (Lk : List UInt8), Tm.oks ys = true → Tm.oks xs = true → Tm.bytess ys ++ Lk = Tm.bytess xs ++ 41 :: r → ∃ zs, xs = ys ++ zs ∧ Lk = Tm.bytess zs ++ 41 :: r
  | [], xs, Lk, _, _, h => ⟨xs, rfl, by simpa [Tm.bytess] using h⟩
  | y :: ys, [], Lk, _, _, h => by
    obtain ⟨c, q, e, hc⟩ := Tm.head y
    simp only [Tm.bytess, e, List.nil_append, List.cons_append, List.cons.injEq] at h
    rcases hc with rfl | hc
    · exact absurd h.1 (by decide)
    · exact absurd (h.1 ▸ hc) not_dig_41
  | y :: ys, x :: xs, Lk, h1, h2, h => by
    simp only [Tm.oks, Bool.and_eq_true] at h1 h2
    simp only [Tm.bytess, List.append_assoc] at h
    obtain ⟨e1, e2⟩ := Tm.unique y x _ _ h1.1 h2.1 h
    obtain ⟨zs, e3, e4⟩ := split_items ys xs Lk h1.2 h2.2 e2
    exact ⟨zs, by rw [e1, e3]; rfl, e4⟩

structure Items (d : Nat) (L : List UInt8) (ys : List Tm) (Lk : List UInt8) : Prop where
  eq : L = Tm.bytess ys ++ Lk
  ok : Tm.oks ys = true
  deep : d + (Tm.depths ys + 1) ≤ 8

theorem Items.start {d : Nat} {L : List UInt8} (hd : d < 8) : Items d L [] L := ⟨by simp [Tm.bytess], rfl, by simp [Tm.depths]; omega⟩
theorem Items.next {d : Nat} {L Lk R : List UInt8} {ys : List Tm} {T : Tm} (h : Items d L ys Lk) (hf : IsF (d + 1) Lk T R) : Items d L (ys ++ [T]) R := by
  refine ⟨?_, ?_, ?_⟩
  · rw [h.eq, hf.2.2, Tm.bytess_app]; simp [Tm.bytess]
  · rw [Tm.oks_app, h.ok]; simp [Tm.oks, hf.1]
  · rw [Tm.depths_app]
    have : Tm.depths [T] = T.depth := by simp [Tm.depths]
    have := hf.2.1
    have := h.deep
    omega
theorem Items.done {d : Nat} {L R : List UInt8} {ys : List Tm} (h : Items d L ys (41 :: R)) : IsF d (40 :: L) (.mk true noText ys) R :=
  isF_list.2 ⟨ys, rfl, h.ok, h.deep, h.eq⟩
theorem Items.fail {d : Nat} {L Lk : List UInt8} {ys : List Tm} (h : Items d L ys Lk) (hn : ∀ R, Lk ≠ 41 :: R) (hf : ∀ T R, ¬ IsF (d + 1) Lk T R) : ∀ T R, ¬ IsF d (40 :: L) T R := by
  intro T R hT
  obtain ⟨xs, _, h1, h2, h3⟩ := isF_list.1 hT
  obtain ⟨zs, e1, e2⟩ := split_items ys xs Lk h.ok h1 (h.eq.symm.trans h3)
  cases zs with
  | nil => exact hn R (by simpa [Tm.bytess] using e2)
  | cons z zs =>
    refine hf z (Tm.bytess zs ++ 41 :: R) ⟨?_, ?_, ?_⟩
    · exact Tm.oks_iff.1 h1 z (by rw [e1]; simp)
    · have := Tm.depths_le.1 (Nat.le_refl (Tm.depths xs)) z (by rw [e1]; simp)
      omega
    · rw [e2]; simp [Tm.bytess]
theorem isF_deep {L : List UInt8} (T : Tm) (R : List UInt8) : ¬ IsF 8 (40 :: L) T R := by
  intro h
  obtain ⟨xs, _, _, h2, _⟩ := isF_list.1 h
  omega

theorem isF_none {d : Nat} {L : List UInt8} (h : ∀ c r, L = c :: r → c ≠ 40 ∧ ¬ isDig c) (T : Tm) (R : List UInt8) : ¬ IsF d L T R := by
  intro hT
  obtain ⟨c, r, e, hc⟩ := Tm.head T
  have := hT.2.2
  rw [e] at this
  obtain ⟨h1, h2⟩ := h c (r ++ R) this
  rcases hc with hc | hc
  · exact h1 hc
  · exact h2 hc

theorem isF_text {d : Nat} {L : List UInt8} {T : Tm} {R : List UInt8} {c : UInt8} {r : List UInt8} (hL : L = c :: r) (hc : isDig c) : IsF d L T R ↔ d ≤ 8 ∧ ∃ t : ByteArray, T = .mk false t [] ∧ L = decDigits t.size ++ 58 :: (t.data.toList ++ R) := by
  constructor
  · rintro ⟨h1, h2, h3⟩
    obtain ⟨l, t, xs⟩ := T
    cases l with
    | true =>
      rw [Tm.bytes, hL] at h3
      simp only [if_true, List.cons_append, List.cons.injEq] at h3
      exact absurd (h3.1 ▸ hc) not_dig_40
    | false =>
      rw [Tm.ok] at h1
      rw [Tm.depth] at h2
      rw [Tm.bytes] at h3
      simp only [Bool.false_eq_true, if_false, List.isEmpty_iff, Nat.add_zero] at h1 h2 h3
      exact ⟨h2, t, by rw [h1], by rw [h3]; simp⟩
  · rintro ⟨h1, t, rfl, h3⟩
    refine ⟨?_, ?_, ?_⟩
    · rw [Tm.ok]; simp
    · rw [Tm.depth]; simpa using h1
    · rw [Tm.bytes, h3]; simp

theorem text_run {d : Nat} {ds Lk : List UInt8} {T : Tm} {R : List UInt8} (hne : ds ≠ []) (hd : ∀ c ∈ ds, isDig c) (hk : ∀ x r, Lk = x :: r → ¬ isDig x) (h : IsF d (ds ++ Lk) T R) :
    d ≤ 8 ∧ ∃ t : ByteArray, T = .mk false t [] ∧ ds = decDigits t.size ∧ Lk = 58 :: (t.data.toList ++ R) := by
  obtain ⟨c, ds', rfl⟩ := List.exists_cons_of_ne_nil hne
  obtain ⟨h1, t, hT, h3⟩ := (isF_text (c := c) (r := ds' ++ Lk) rfl (hd c (by simp))).1 h
  cases Lk with
  | nil =>
    exfalso
    have : (58 : UInt8) ∈ c :: ds' := by
      rw [List.append_nil] at h3
      rw [h3]; simp
    exact not_dig_58 (hd 58 this)
  | cons x r =>
    obtain ⟨e1, e2, e3⟩ := run_unique hd (decDigits_dig _) (hk x r rfl) not_dig_58 h3
    exact ⟨h1, t, hT, e1, by rw [e2, e3]⟩
theorem text_fail_colon {d : Nat} {ds Lk : List UInt8} (hne : ds ≠ []) (hd : ∀ c ∈ ds, isDig c) (hk : ∀ x r, Lk = x :: r → ¬ isDig x) (hc : ∀ r, Lk ≠ 58 :: r) (T : Tm) (R : List UInt8) : ¬ IsF d (ds ++ Lk) T R := fun h => by
  obtain ⟨_, t, _, _, e⟩ := text_run hne hd hk h
  exact hc _ e
theorem text_fail_short {d : Nat} {ds L2 : List UInt8} (hne : ds ≠ []) (hd : ∀ c ∈ ds, isDig c) (hs : L2.length < val ds) (T : Tm) (R : List UInt8) : ¬ IsF d (ds ++ 58 :: L2) T R := fun h => by
  obtain ⟨_, t, _, e1, e2⟩ := text_run hne hd (fun x r e => by injection e with e _; exact e ▸ not_dig_58) h
  injection e2 with _ e2
  have h1 := congrArg List.length e2
  have h2 := ba_len t
  rw [e1, val_decDigits] at hs
  rw [List.length_append] at h1
  omega
theorem text_fail_long {d : Nat} {ds Lk : List UInt8} {c : UInt8} (hd : ∀ c ∈ ds, isDig c) (hc : isDig c) (hs : Lk.length + 1 < val (ds ++ [c])) (T : Tm) (R : List UInt8) : ¬ IsF d (ds ++ c :: Lk) T R := fun h => by
  have hL : ∃ x r, ds ++ c :: Lk = x :: r ∧ isDig x := by
    cases ds with
    | nil => exact ⟨c, Lk, rfl, hc⟩
    | cons x r => exact ⟨x, r ++ c :: Lk, rfl, hd x (by simp)⟩
  obtain ⟨x, r, e, hx⟩ := hL
  obtain ⟨_, t, _, h3⟩ := (isF_text e hx).1 h
  have key : ∃ m, decDigits t.size = (ds ++ [c]) ++ m ∧ Lk = m ++ 58 :: (t.data.toList ++ R) := by
    have h4 : (ds ++ [c]) ++ Lk = decDigits t.size ++ 58 :: (t.data.toList ++ R) := by rw [← h3]; simp
    have hall : ∀ y ∈ ds ++ [c], isDig y := by
      intro y hy
      rcases List.mem_append.1 hy with hy | hy
      · exact hd y hy
      · rw [List.mem_singleton] at hy; exact hy ▸ hc
    rcases List.append_eq_append_iff.1 h4 with ⟨m, e1, e2⟩ | ⟨m, e1, e2⟩
    · exact ⟨m, e1, e2⟩
    · cases m with
      | nil => exact ⟨[], by simpa using e1.symm, by simpa using e2.symm⟩
      | cons y m =>
        exfalso
        simp only [List.cons_append, List.cons.injEq] at e2
        exact not_dig_58 (e2.1 ▸ hall y (by rw [e1]; simp))
  obtain ⟨m, e1, e2⟩ := key
  have h5 := val_app_le (ds ++ [c]) m
  rw [← e1, val_decDigits] at h5
  have h6 := congrArg List.length e2
  have h7 := ba_len t
  simp only [List.length_append, List.length_cons] at h6
  omega
theorem text_ok {d : Nat} {ds L2 : List UInt8} (hd8 : d ≤ 8) (hne : ds ≠ []) (hd : ∀ c ∈ ds, isDig c) (hz : ds.head? = some 48 → ds = [48]) (t : ByteArray) (R : List UInt8) (hs : t.size = val ds) (hL : L2 = t.data.toList ++ R) : IsF d (ds ++ 58 :: L2) (.mk false t []) R := by
  refine ⟨?_, ?_, ?_⟩
  · rw [Tm.ok]; simp
  · rw [Tm.depth]; simpa using hd8
  · rw [Tm.bytes, hs, decDigits_val ds hne hd hz, hL]; simp
theorem text_zero {d : Nat} {L : List UInt8} (h : ∀ r, L ≠ 58 :: r) (T : Tm) (R : List UInt8) : ¬ IsF d (48 :: L) T R := fun hT => by
  obtain ⟨_, t, _, e⟩ := (isF_text rfl (by decide : isDig 48)).1 hT
  cases e1 : decDigits t.size with
  | nil => exact absurd e1 (decDigits_ne _)
  | cons c r =>
    rw [e1] at e
    simp only [List.cons_append, List.cons.injEq] at e
    have := decDigits_head (u := t.size) (by rw [e1, ← e.1]; rfl)
    rw [e1] at this
    injection this with _ h2
    rw [h2] at e
    exact h _ e.2
end Go.Proofs.YtgjcblginkdinaaGreatDoor
set_option linter.unusedVariables false
namespace Go.Proofs.YtgjcblginkdinaaGreatDoor
open Go.ChangeShapes Go.WideShapes Go.ChangeAt Go.RowKit

def rightB (l : Bool) (t : ByteArray) (n : Nat) : Bool := if l then decide (t.size = 0) else decide (n = 0)

theorem toList_nil {t : ByteArray} (h : t.size = 0) : t.toList = [] := by
  rw [ByteArray.toList_eq]
  exact List.length_eq_zero_iff.1 (by rw [ba_len]; exact h)
theorem toList_ne {t : ByteArray} (h : ¬ t.size = 0) : t.toList ≠ [] := by
  rw [ByteArray.toList_eq]
  intro e
  have := ba_len t
  rw [e] at this
  exact h this.symm

theorem fright_any (l : Bool) (t : ByteArray) (a : Option Addr) (n c : Nat) (w : World) (hn : n ≤ maxLen) :
    Calls Tryz.prog 101 #[fv l t (.slice a n c)] w fun e w' => e = .returned (.bool (rightB l t n)) ∧ Below w.heap.size w w' := by
  unfold maxLen at hn
  cases l with
  | true =>
    have hr : rightB true t n = decide (t.size = 0) := rfl
    by_cases ht : t.size = 0
    · have e := toList_nil ht
      rw [hr, decide_eq_true ht]
      clear ht hr
      go_enter Tryz.func101, Tryz.ntmps101
      go_wp2
      go_ret
      exact ⟨rfl, (Below.refl _ _).alloc (Nat.le_refl _) _⟩
    · have e := toList_ne ht
      have e2 : t.toList.isEmpty = false := by simpa using e
      rw [hr, decide_eq_false ht]
      clear ht hr e
      go_enter Tryz.func101, Tryz.ntmps101
      go_wp2
      go_ret
      exact ⟨rfl, (Below.refl _ _).alloc (Nat.le_refl _) _⟩
  | false =>
    have hr : rightB false t n = decide (n = 0) := rfl
    by_cases hz : n = 0
    · rw [hr, decide_eq_true hz]
      subst hz
      clear hr
      go_enter Tryz.func101, Tryz.ntmps101
      go_wp2
      go_ret
      exact ⟨rfl, (Below.refl _ _).alloc (Nat.le_refl _) _⟩
    · rw [hr, decide_eq_false hz]
      have e : ((n : Int) == 0) = false := by rw [beq_eq_false_iff_ne]; omega
      clear hr
      go_enter Tryz.func101, Tryz.ntmps101
      go_wp2
      go_ret
      exact ⟨rfl, (Below.refl _ _).alloc (Nat.le_refl _) _⟩
end Go.Proofs.YtgjcblginkdinaaGreatDoor
set_option linter.unusedVariables false
namespace Go.Proofs.YtgjcblginkdinaaGreatDoor
open Go.ChangeShapes Go.WideShapes Go.ChangeAt Go.RowKit

theorem text_any (s : ByteArray) (w : World) :
    Calls Tryz.prog 65 #[.string s] w fun e w' => e = .returned (fv false s (.slice none 0 0)) ∧ Below w.heap.size w w' := by
  go_enter Tryz.func65, Tryz.ntmps65
  go_wp2_with fail
  exact bodyPost_ret (v := fv false s (.slice none 0 0)) (by simp [results, Tryz.results65, go_sem]) rfl ⟨rfl, (Below.refl _ _).alloc (Nat.le_refl _) _⟩
theorem rtext_any (s : ByteArray) (w : World) :
    Calls Tryz.prog 73 #[.string s] w fun e w' => e = .returned (fv false s (.slice none 0 0)) ∧ Below w.heap.size w w' := by
  go_enter Tryz.func73, Tryz.ntmps73
  go_wp2_with fail
  exact bodyPost_ret (v := fv false s (.slice none 0 0)) (by simp [results, Tryz.results73, go_sem]) rfl ⟨rfl, (Below.refl _ _).alloc (Nat.le_refl _) _⟩
end Go.Proofs.YtgjcblginkdinaaGreatDoor
set_option linter.unusedVariables false
namespace Go.Proofs.YtgjcblginkdinaaGreatDoor
open Go.ChangeShapes Go.WideShapes Go.ChangeAt Go.RowKit

structure Rd (br : Nat) (w : World) (s : ByteArray) (p : Nat) : Prop where
  text : w.cell? ⟨br, 0, none⟩ = some (.string s)
  at_ : w.cell? ⟨br, 1, none⟩ = some (.int .i64 (p : Nat))
  free : w.frozen? ⟨br, 1, none⟩ = false
theorem Rd.below {br : Nat} {w w' : World} {s : ByteArray} {p : Nat} (h : Rd br w s p) (hb : Below w.heap.size w w') : Rd br w' s p :=
  ⟨(hb.cell (p := ⟨br, 0, none⟩) (cell_lt h.text)).trans h.text, (hb.cell (p := ⟨br, 1, none⟩) (cell_lt h.at_)).trans h.at_, (hb.frozen (p := ⟨br, 1, none⟩) (cell_lt h.at_)).trans h.free⟩
theorem Rd.drewN {br n : Nat} {w : World} {s : ByteArray} {p : Nat} (h : Rd br w s p) : Rd br (w.drewN n) s p := ⟨h.text, h.at_, h.free⟩
theorem Rd.set {br : Nat} {w : World} {s : ByteArray} {p : Nat} (h : Rd br w s p) (q : Nat) : Rd br (w.setCell ⟨br, 1, none⟩ (.int .i64 (q : Nat))) s q :=
  ⟨(World.cell?_setCell_other _ _ _ _ (fun e => by injection e with _ e; cases e)).trans h.text, World.cell?_setCell_same _ _ _ h.at_, (World.frozen?_setCell _ _ _ _).trans h.free⟩

def nx (L : List UInt8) : Int := match L with | [] => 0 | c :: _ => (c.toNat : Int)
theorem nx_range (L : List UInt8) : 0 ≤ nx L ∧ nx L < 256 := by
  cases L with
  | nil => exact ⟨Int.le_refl _, by decide⟩
  | cons c r => have := UInt8.toNat_lt c; show 0 ≤ (c.toNat : Int) ∧ (c.toNat : Int) < 256; omega
theorem drop_end (s : ByteArray) : s.data.toList.drop s.size = [] := List.drop_eq_nil_of_le (by rw [ba_len]; exact Nat.le_refl _)
theorem drop_at (s : ByteArray) (p : Nat) (h : p < s.size) : s.data.toList.drop p = s[p] :: s.data.toList.drop (p + 1) := by
  rw [List.drop_eq_getElem_cons (by rw [ba_len]; exact h)]; rfl

set_option maxHeartbeats 1000000 in
theorem next_any (br : Nat) (s : ByteArray) (p : Nat) (w : World) (h : Rd br w s p) (hp : p ≤ s.size) (hs : s.size ≤ 9223372036854775807) :
    Calls Tryz.prog 115 #[.pointer (some ⟨br, 0, none⟩)] w fun e w' => e = .returned (.int .u8 (nx (s.data.toList.drop p))) ∧ ∃ n, w' = w.drewN n := by
  obtain ⟨h1, h2, h3⟩ := h
  by_cases he : p = s.size
  · subst he
    rw [drop_end]
    show Calls _ _ _ _ fun e w' => e = .returned (.int .u8 0) ∧ ∃ n, w' = w.drewN n
    clear h3
    go_enter Tryz.func115, Tryz.ntmps115
    go_wp2_with fail
    go_quiet (fail)
    go_wp2_with fail
    go_ret
    exact ⟨rfl, _, rfl⟩
  · have hlt : p < s.size := by omega
    rw [drop_at s p hlt]
    show Calls _ _ _ _ fun e w' => e = .returned (.int .u8 (s[p].toNat : Int)) ∧ ∃ n, w' = w.drewN n
    have e1 : ((p : Int) == (s.size : Int)) = false := by rw [beq_eq_false_iff_ne]; omega
    have k0 : (0 : Int) ≤ p := by omega
    have k1 : (p : Int) < s.size := by omega
    clear h3 he
    go_enter Tryz.func115, Tryz.ntmps115
    go_wp2_with fail
    go_quiet (fail)
    go_wp2_with fail
    go_quiet (fail)
    go_wp2_with fail
    go_ret
    exact ⟨rfl, _, World.drewN_drewN _ _ _⟩
end Go.Proofs.YtgjcblginkdinaaGreatDoor
set_option linter.unusedVariables false
namespace Go.Proofs.YtgjcblginkdinaaGreatDoor
open Go.ChangeShapes Go.WideShapes Go.ChangeAt Go.RowKit

theorem Tm.ok_list (t : ByteArray) (xs : List Tm) : (Tm.mk true t xs).ok = (decide (t.size = 0) && Tm.oks xs) := by rw [Tm.ok]; rfl
theorem Tm.ok_text (t : ByteArray) (xs : List Tm) : (Tm.mk false t xs).ok = decide (xs.length = 0) := by
  rw [Tm.ok]
  cases xs <;> simp

set_option maxHeartbeats 2000000 in
set_option maxRecDepth 100000 in
theorem rright_any (T : Tm) : ∀ l t ys, T = .mk l t ys → ∀ (Z : Nat → Prop) (w : World) (a : Option Addr) (c : Nat), SlL Z w (.slice a ys.length c) ys →
    Calls Tryz.prog 68 #[fv l t (.slice a ys.length c)] w fun e w' => e = .returned (.bool T.ok) ∧ Below w.heap.size w w' := by
  induction T using Tm.ind with
  | h l t xs ih =>
    rintro l' t' ys ⟨⟩ Z w a c hsl
    obtain ⟨n, hn⟩ : ∃ n, n = xs.length := ⟨_, rfl⟩
    have hnm : n ≤ 9223372036854775807 := by
      obtain ⟨a', c', e, h1, h2⟩ := hsl.form
      unfold maxLen at h2
      injection e with e1 e2 e3
      omega
    rw [← hn]
    rw [← hn] at hsl
    cases l with
    | false =>
      rw [Tm.ok_text, ← hn]
      clear hsl ih hn
      by_cases hz : n = 0
      · rw [decide_eq_true hz]
        subst hz
        go_enter Tryz.func68, Tryz.ntmps68
        go_wp2_with fail
        go_ret
        exact ⟨rfl, (Below.refl _ _).alloc (Nat.le_refl _) _⟩
      · have e : ((n : Int) == 0) = false := by rw [beq_eq_false_iff_ne]; omega
        rw [decide_eq_false hz]
        go_enter Tryz.func68, Tryz.ntmps68
        go_wp2_with fail
        go_ret
        exact ⟨rfl, (Below.refl _ _).alloc (Nat.le_refl _) _⟩
    | true =>
      rw [Tm.ok_list]
      by_cases ht : t.size = 0
      · have e := toList_nil ht
        rw [decide_eq_true ht, Bool.true_and]
        have HN := Lib.hid hn
        have HS := Lib.hid hsl
        have IH := Lib.hid ih
        clear ht hn hsl ih
        go_enter Tryz.func68, Tryz.ntmps68
        go_wp2_with fail
        go_loopw [3] (fun i wr => ∃ k : Nat, k ≤ n ∧ i = .int .i64 k ∧ Tm.oks (xs.take k) = true ∧ Below (w.heap.size + 1) (w.alloc (.cells #[.bool true, .string t, .slice a n c] 61)) wr) (fun i _ => n - (intOf i).toNat)
        case atStart => exact ⟨0, Nat.zero_le _, rfl, rfl, Below.refl _ _⟩
        case round =>
          obtain ⟨k, hk, rfl, hok, hbel⟩ := hrel
          have hb0 : Below w.heap.size w wr := ((Below.refl _ _).alloc (Nat.le_refl _) _).trans (hbel.mono (Nat.le_succ _))
          have hcb : wr.cell? ⟨w.heap.size, 2, none⟩ = some (.slice a n c) := (hbel.cell (p := ⟨w.heap.size, 2, none⟩) (Nat.lt_succ_self _)).trans (by rw [World.cell?_alloc_at _ _ _ _ rfl]; rfl)
          have HB := Lib.hid hbel
          have HB0 := Lib.hid hb0
          have HO := Lib.hid hok
          clear hbel hb0 hok
          by_cases hlt : k < n
          · obtain ⟨x, hx⟩ : ∃ x, xs[k]? = some x := ⟨xs[k]'(by rw [← HN.out]; exact hlt), by simp⟩
            obtain ⟨l1, t1, ys1⟩ := x
            obtain ⟨b, o, c', hv, h1, h2, h3, h4, h5⟩ := HS.out.pos (by rintro rfl; simp at hx)
            injection hv with ea en ec
            subst ea
            obtain ⟨a1, c1, q1, q2, q3, q4, q5⟩ := h5 k l1 t1 ys1 hx
            have d1 : wr.cell? ⟨b, o + k * 3, none⟩ = some (.bool l1) := (HB0.out.cell (p := ⟨b, o + k * 3, none⟩) h4).trans q1
            have d2 : wr.cell? ⟨b, o + k * 3 + 1, none⟩ = some (.string t1) := (HB0.out.cell (p := ⟨b, o + k * 3 + 1, none⟩) h4).trans q2
            have d3 : wr.cell? ⟨b, o + k * 3 + 2, none⟩ = some (.slice a1 ys1.length c1) := (HB0.out.cell (p := ⟨b, o + k * 3 + 2, none⟩) h4).trans q3
            obtain ⟨r, hr⟩ : ∃ r, r = (Tm.mk l1 t1 ys1).ok := ⟨_, rfl⟩
            have hc := IH.out _ (List.mem_of_getElem? hx) l1 t1 ys1 rfl Z wr a1 c1 (q5.keep HB0.out)
            rw [← hr] at hc
            obtain ⟨m1, hm1⟩ : ∃ m, m = ys1.length := ⟨_, rfl⟩
            rw [← hm1] at hc d3
            have HC := Lib.hid hc
            have HX := Lib.hid hx
            have HR := Lib.hid hr
            have h01 : (0 : Int) ≤ k := by omega
            have h02 : (k : Int) < n := by omega
            clear hc hx hr hm1 q1 q2 q3 q4 q5 h1 h2 h3 h4 h5 en ec
            cases r with
            | true =>
              go_wp2_with (go_at_call 68; refine HC.out.mono ?_; rintro e w2 ⟨rfl, hb2⟩; have HB2 := Lib.hid hb2; clear hb2)
              refine ⟨⟨k + 1, hlt, by go_num, ?_, ?_⟩, by simp [intOf]; omega⟩
              · rw [take_snoc HX.out, Tm.oks_app, HO.out]
                simp only [Tm.oks, ← HR.out, Bool.and_self]
              · exact HB.out.trans (HB2.out.mono (by have := HB.out.size; simp at this; omega))
            | false =>
              go_wp2_with (go_at_call 68; refine HC.out.mono ?_; rintro e w2 ⟨rfl, hb2⟩; have HB2 := Lib.hid hb2; clear hb2)
              go_ret
              refine ⟨ret_bool ?_, HB0.out.trans (HB2.out.mono HB0.out.size)⟩
              cases hq : Tm.oks xs with
              | false => rfl
              | true =>
                have := Tm.oks_iff.1 hq _ (List.mem_of_getElem? HX.out)
                rw [← HR.out] at this
                cases this
          · have hke : k = n := by omega
            go_wp2_with fail
            go_ret
            refine ⟨ret_bool ?_, HB0.out⟩
            have := HO.out
            rw [List.take_of_length_le (by rw [← HN.out]; omega)] at this
            exact this.symm
      · have e := toList_ne ht
        have e2 : (!t.toList.isEmpty) = true := by simpa using e
        have e3 : t.toList.isEmpty = false := by simpa using e
        rw [decide_eq_false ht, Bool.false_and]
        clear ht hsl ih hn e
        go_enter Tryz.func68, Tryz.ntmps68
        go_wp2_with fail
        go_ret
        exact ⟨rfl, (Below.refl _ _).alloc (Nat.le_refl _) _⟩
end Go.Proofs.YtgjcblginkdinaaGreatDoor
set_option linter.unusedVariables false
namespace Go.Proofs.YtgjcblginkdinaaGreatDoor
open Go.ChangeShapes Go.WideShapes Go.ChangeAt Go.RowKit

theorem Tm.depth_list (t : ByteArray) (xs : List Tm) : (Tm.mk true t xs).depth = Tm.depths xs + 1 := by rw [Tm.depth]; rfl
theorem Tm.depth_text (t : ByteArray) (xs : List Tm) : (Tm.mk false t xs).depth = 0 := by rw [Tm.depth]; rfl
theorem Tm.depth_le_parts (T : Tm) : T.depth ≤ T.parts := by
  induction T using Tm.ind with
  | h l t xs ih =>
    have : Tm.depths xs ≤ Tm.partss xs := Tm.depths_le.2 fun x hx => Nat.le_trans (ih x hx) (Tm.parts_mem hx)
    rw [Tm.depth, Tm.parts]
    split <;> omega
theorem Tm.depths_le_partss (xs : List Tm) : Tm.depths xs ≤ Tm.partss xs := Tm.depths_le.2 fun x hx => Nat.le_trans (Tm.depth_le_parts x) (Tm.parts_mem hx)
theorem Tm.partss_take (xs : List Tm) (k : Nat) : Tm.partss (xs.take k) ≤ Tm.partss xs := by
  have := congrArg Tm.partss (List.take_append_drop k xs)
  rw [Tm.partss_app] at this
  omega

set_option maxHeartbeats 2000000 in
set_option maxRecDepth 100000 in
theorem rdepth_any (T : Tm) : ∀ l t ys, T = .mk l t ys → ∀ (Z : Nat → Prop) (w : World) (a : Option Addr) (c : Nat), T.parts ≤ 1000000000 → SlL Z w (.slice a ys.length c) ys →
    Calls Tryz.prog 69 #[fv l t (.slice a ys.length c)] w fun e w' => e = .returned (.int .i64 (T.depth : Nat)) ∧ Below w.heap.size w w' := by
  induction T using Tm.ind with
  | h l t xs ih =>
    rintro l' t' ys ⟨⟩ Z w a c hparts hsl
    have hpn : Tm.partss xs ≤ 1000000000 := by rw [Tm.parts] at hparts; omega
    obtain ⟨n, hn⟩ : ∃ n, n = xs.length := ⟨_, rfl⟩
    have hnm : n ≤ 9223372036854775807 := by have := Tm.length_le_partss xs; omega
    rw [← hn]
    rw [← hn] at hsl
    cases l with
    | false =>
      rw [Tm.depth_text]
      clear hsl ih hn hparts hpn
      go_enter Tryz.func69, Tryz.ntmps69
      go_wp2_with fail
      go_ret
      exact ⟨rfl, (Below.refl _ _).alloc (Nat.le_refl _) _⟩
    | true =>
      rw [Tm.depth_list]
      have HN := Lib.hid hn
      have HS := Lib.hid hsl
      have IH := Lib.hid ih
      have HP := Lib.hid hpn
      clear hn hsl ih hparts hpn
      go_enter Tryz.func69, Tryz.ntmps69
      go_wp2_with fail
      go_loopw [3, 4] (fun m i wr => ∃ k d : Nat, k ≤ n ∧ i = .int .i64 k ∧ d = Tm.depths (xs.take k) ∧ m = .int .i64 d ∧ Below (w.heap.size + 1) (w.alloc (.cells #[.bool true, .string t, .slice a n c] 61)) wr) (fun _ i _ => n - (intOf i).toNat)
      case atStart => exact ⟨0, 0, Nat.zero_le _, rfl, rfl, rfl, Below.refl _ _⟩
      case round =>
        obtain ⟨k, d, hk, rfl, hd, rfl, hbel⟩ := hrel
        have hb0 : Below w.heap.size w wr := ((Below.refl _ _).alloc (Nat.le_refl _) _).trans (hbel.mono (Nat.le_succ _))
        have hcb : wr.cell? ⟨w.heap.size, 2, none⟩ = some (.slice a n c) := (hbel.cell (p := ⟨w.heap.size, 2, none⟩) (Nat.lt_succ_self _)).trans (by rw [World.cell?_alloc_at _ _ _ _ rfl]; rfl)
        have hdl : d ≤ 1000000000 := by rw [hd]; exact Nat.le_trans (Nat.le_trans (Tm.depths_le_partss _) (Tm.partss_take _ _)) HP.out
        have HB := Lib.hid hbel
        have HB0 := Lib.hid hb0
        have HD := Lib.hid hd
        clear hbel hb0 hd
        by_cases hlt : k < n
        · obtain ⟨x, hx⟩ : ∃ x, xs[k]? = some x := ⟨xs[k]'(by rw [← HN.out]; exact hlt), by simp⟩
          obtain ⟨l1, t1, ys1⟩ := x
          obtain ⟨b, o, c', hv, h1, h2, h3, h4, h5⟩ := HS.out.pos (by rintro rfl; simp at hx)
          injection hv with ea en ec
          subst ea
          obtain ⟨a1, c1, q1, q2, q3, q4, q5⟩ := h5 k l1 t1 ys1 hx
          have d1 : wr.cell? ⟨b, o + k * 3, none⟩ = some (.bool l1) := (HB0.out.cell (p := ⟨b, o + k * 3, none⟩) h4).trans q1
          have d2 : wr.cell? ⟨b, o + k * 3 + 1, none⟩ = some (.string t1) := (HB0.out.cell (p := ⟨b, o + k * 3 + 1, none⟩) h4).trans q2
          have d3 : wr.cell? ⟨b, o + k * 3 + 2, none⟩ = some (.slice a1 ys1.length c1) := (HB0.out.cell (p := ⟨b, o + k * 3 + 2, none⟩) h4).trans q3
          obtain ⟨r, hr⟩ : ∃ r, r = (Tm.mk l1 t1 ys1).depth := ⟨_, rfl⟩
          have hpx : (Tm.mk l1 t1 ys1).parts ≤ 1000000000 := Nat.le_trans (Tm.parts_mem (List.mem_of_getElem? hx)) HP.out
          have hc := IH.out _ (List.mem_of_getElem? hx) l1 t1 ys1 rfl Z wr a1 c1 hpx (q5.keep HB0.out)
          rw [← hr] at hc
          have hrl : r ≤ 1000000000 := by rw [hr]; exact Nat.le_trans (Tm.depth_le_parts _) hpx
          obtain ⟨m1, hm1⟩ : ∃ m, m = ys1.length := ⟨_, rfl⟩
          rw [← hm1] at hc d3
          have HC := Lib.hid hc
          have HX := Lib.hid hx
          have HR := Lib.hid hr
          have h01 : (0 : Int) ≤ k := by omega
          have h02 : (k : Int) < n := by omega
          clear hc hx hr hm1 q1 q2 q3 q4 q5 h1 h2 h3 h4 h5 en ec hpx
          go_wp2_with (go_at_call 69; refine HC.out.mono ?_; rintro e w2 ⟨rfl, hb2⟩; have HB2 := Lib.hid hb2; clear hb2)
          refine ⟨⟨k + 1, max d r, hlt, by go_num, ?_, ?_, HB.out.trans (HB2.out.mono (by have := HB.out.size; simp at this; omega))⟩, by simp [intOf]; omega⟩
          · rw [take_snoc HX.out, Tm.depths_app, ← HD.out, HR.out]
            simp [Tm.depths]
          · by_cases hdr : d < r
            · rw [if_pos hdr, Nat.max_eq_right (by omega)]
            · rw [if_neg hdr, Nat.max_eq_left (by omega)]
        · have hke : k = n := by omega
          go_wp2_with fail
          go_ret
          refine ⟨ret_int ?_, HB0.out⟩
          have := HD.out
          rw [List.take_of_length_le (by rw [← HN.out]; omega)] at this
          rw [this]; simp
end Go.Proofs.YtgjcblginkdinaaGreatDoor
