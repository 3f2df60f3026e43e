/- Forms as trees: which are right, their depth, their bytes; bytes are a form's in one way at most. Mathematics alone. Forms in memory: a slice value reads as a list of forms. The contracts of Text: the program's and the document's. -/
import Derived.Lib.ItoaNum
import Derived.Test.YtgjcblginkdinaaGreatDoorV2
set_option linter.unusedVariables false
namespace Go.Proofs.YtgjcblginkdinaaGreatDoor
open Go.Lib

inductive Tm where
  | mk (l : Bool) (t : ByteArray) (xs : List Tm)

mutual
def Tm.ok : Tm → Bool
  | .mk l t xs => if l then decide (t.size = 0) && Tm.oks xs else xs.isEmpty
def Tm.oks : List Tm → Bool
  | [] => true
  | x :: r => Tm.ok x && Tm.oks r
end
mutual
def Tm.depth : Tm → Nat
  | .mk l t xs => if l then Tm.depths xs + 1 else 0
def Tm.depths : List Tm → Nat
  | [] => 0
  | x :: r => max (Tm.depth x) (Tm.depths r)
end
mutual
def Tm.bytes : Tm → List UInt8
  | .mk l t xs => if l then 40 :: (Tm.bytess xs ++ [41]) else decDigits t.size ++ 58 :: t.data.toList
def Tm.bytess : List Tm → List UInt8
  | [] => []
  | x :: r => Tm.bytes x ++ Tm.bytess r
end
mutual
def Tm.parts : Tm → Nat
  | .mk l t xs => Tm.partss xs + 1
def Tm.partss : List Tm → Nat
  | [] => 0
  | x :: r => Tm.parts x + Tm.partss r
end
mutual
def Tm.texts : Tm → Nat
  | .mk l t xs => t.size + Tm.textss xs
def Tm.textss : List Tm → Nat
  | [] => 0
  | x :: r => Tm.texts x + Tm.textss r
end

theorem Tm.ind {P : Tm → Prop} (h : ∀ l t xs, (∀ x ∈ xs, P x) → P (.mk l t xs)) (T : Tm) : P T := by
  refine Tm.rec (motive_1 := P) (motive_2 := fun xs => ∀ x ∈ xs, P x) (fun l t xs ih => h l t xs ih) (fun x hx => by cases hx) (fun x r hx hr y hy => ?_) T
  rcases List.mem_cons.1 hy with rfl | hy
  · exact hx
  · exact hr y hy

theorem snoc_ind {α : Type} {P : List α → Prop} (h0 : P []) (h1 : ∀ r x, P r → P (r ++ [x])) (l : List α) : P l := by
  have : ∀ n, ∀ l : List α, l.length = n → P l := by
    intro n
    induction n with
    | zero => intro l hl; rw [List.length_eq_zero_iff.1 hl]; exact h0
    | succ n ih =>
      intro l hl
      have hne : l ≠ [] := by rintro rfl; simp at hl
      rw [← List.dropLast_concat_getLast hne]
      exact h1 _ _ (ih _ (by simp; omega))
  exact this _ l rfl

theorem Tm.oks_app (xs ys : List Tm) : Tm.oks (xs ++ ys) = (Tm.oks xs && Tm.oks ys) := by
  induction xs with
  | nil => simp [Tm.oks]
  | cons x r ih => simp [Tm.oks, ih, Bool.and_assoc]
theorem Tm.depths_app (xs ys : List Tm) : Tm.depths (xs ++ ys) = max (Tm.depths xs) (Tm.depths ys) := by
  induction xs with
  | nil => simp [Tm.depths]
  | cons x r ih => simp only [List.cons_append, Tm.depths, ih]; omega
theorem Tm.bytess_app (xs ys : List Tm) : Tm.bytess (xs ++ ys) = Tm.bytess xs ++ Tm.bytess ys := by
  induction xs with
  | nil => simp [Tm.bytess]
  | cons x r ih => simp [Tm.bytess, ih]
theorem Tm.partss_app (xs ys : List Tm) : Tm.partss (xs ++ ys) = Tm.partss xs + Tm.partss ys := by
  induction xs with
  | nil => simp [Tm.partss]
  | cons x r ih => simp only [List.cons_append, Tm.partss, ih]; omega
theorem Tm.oks_iff {xs : List Tm} : Tm.oks xs = true ↔ ∀ x ∈ xs, Tm.ok x = true := by
  induction xs with
  | nil => simp [Tm.oks]
  | cons x r ih => simp [Tm.oks, ih]
theorem Tm.depths_le {xs : List Tm} {d : Nat} : Tm.depths xs ≤ d ↔ ∀ x ∈ xs, Tm.depth x ≤ d := by
  induction xs with
  | nil => simp [Tm.depths]
  | cons x r ih => simp only [Tm.depths, List.mem_cons, forall_eq_or_imp, ← ih]; omega
theorem Tm.parts_pos : ∀ T : Tm, 1 ≤ T.parts
  | .mk l t xs => by simp [Tm.parts]
theorem Tm.length_le_partss (xs : List Tm) : xs.length ≤ Tm.partss xs := by
  induction xs with
  | nil => simp
  | cons x r ih => have := Tm.parts_pos x; simp only [List.length_cons, Tm.partss]; omega
theorem Tm.parts_mem {xs : List Tm} {x : Tm} (h : x ∈ xs) : x.parts ≤ Tm.partss xs := by
  induction xs with
  | nil => simp at h
  | cons y r ih => simp only [Tm.partss]; rcases List.mem_cons.1 h with rfl | h; · omega
                   · have := ih h; omega
theorem Tm.texts_mem {xs : List Tm} {x : Tm} (h : x ∈ xs) : x.texts ≤ Tm.textss xs := by
  induction xs with
  | nil => simp at h
  | cons y r ih => simp only [Tm.textss]; rcases List.mem_cons.1 h with rfl | h; · omega
                   · have := ih h; omega

def isDig (c : UInt8) : Prop := 48 ≤ c.toNat ∧ c.toNat ≤ 57
instance (c : UInt8) : Decidable (isDig c) := by unfold isDig; exact inferInstance
def val (l : List UInt8) : Nat := l.foldl (fun a c => 10 * a + (c.toNat - 48)) 0
theorem val_snoc (l : List UInt8) (c : UInt8) : val (l ++ [c]) = 10 * val l + (c.toNat - 48) := by simp [val]
theorem dig_toNat {u : Nat} (h : u < 10) : (UInt8.ofNat (48 + u)).toNat = 48 + u := by
  rw [UInt8.toNat_ofNat']; omega
theorem decDigits_dig : ∀ (u : Nat), ∀ c ∈ decDigits u, isDig c := by
  intro u
  induction u using Nat.strongRecOn with
  | _ u ih =>
    rw [decDigits]
    split
    · intro c hc
      rw [List.mem_singleton] at hc
      subst hc
      unfold isDig
      rw [dig_toNat (by omega)]; omega
    · intro c hc
      rcases List.mem_append.1 hc with hc | hc
      · exact ih (u / 10) (by omega) c hc
      · rw [List.mem_singleton] at hc
        subst hc
        unfold isDig
        rw [dig_toNat (by omega)]; omega
theorem val_decDigits : ∀ (u : Nat), val (decDigits u) = u := by
  intro u
  induction u using Nat.strongRecOn with
  | _ u ih =>
    rw [decDigits]
    split
    · simp only [val, List.foldl_cons, List.foldl_nil]
      rw [dig_toNat (by omega)]; omega
    · rw [val_snoc, ih (u / 10) (by omega), dig_toNat (by omega)]; omega
theorem decDigits_inj {u v : Nat} (h : decDigits u = decDigits v) : u = v := by
  rw [← val_decDigits u, h, val_decDigits]
theorem decDigits_ne (u : Nat) : decDigits u ≠ [] := by
  rw [decDigits]
  split <;> simp
theorem val_lead {l : List UInt8} (h : val l = 0) (hd : ∀ c ∈ l, isDig c) : ∀ c ∈ l, c = 48 := by
  induction l using snoc_ind with
  | h0 => simp
  | h1 r c ih =>
    rw [val_snoc] at h
    intro x hx
    rcases List.mem_append.1 hx with hx | hx
    · exact ih (by omega) (fun c hc => hd c (List.mem_append_left _ hc)) x hx
    · rw [List.mem_singleton] at hx
      subst hx
      have := hd x (by simp)
      unfold isDig at this
      apply UInt8.toNat.inj
      show x.toNat = 48
      omega
theorem decDigits_val : ∀ (l : List UInt8), l ≠ [] → (∀ c ∈ l, isDig c) → (l.head? = some 48 → l = [48]) → decDigits (val l) = l := by
  intro l
  induction l using snoc_ind with
  | h0 => intro h; exact absurd rfl h
  | h1 r c ih =>
    intro _ hd hz
    have hc : isDig c := hd c (by simp)
    have hr : ∀ x ∈ r, isDig x := fun x hx => hd x (List.mem_append_left _ hx)
    have hcc : UInt8.ofNat (48 + (c.toNat - 48)) = c := by
      unfold isDig at hc
      rw [show 48 + (c.toNat - 48) = c.toNat by omega, UInt8.ofNat_toNat]
    rw [val_snoc]
    cases r with
    | nil =>
      unfold isDig at hc
      rw [decDigits, dif_pos (by simp [val]; omega)]
      simp only [val, List.foldl_nil, Nat.mul_zero, Nat.zero_add, hcc, List.nil_append]
    | cons x s =>
      have hx0 : x ≠ 48 := by
        rintro rfl
        have := hz rfl
        simp at this
      have hv : val (x :: s) ≠ 0 := fun h0 => hx0 (val_lead h0 hr x (by simp))
      have hi := ih (by simp) hr (by intro h; simp at h; exact absurd h hx0)
      unfold isDig at hc
      rw [decDigits, dif_neg (by omega)]
      rw [show (10 * val (x :: s) + (c.toNat - 48)) / 10 = val (x :: s) by omega, show (10 * val (x :: s) + (c.toNat - 48)) % 10 = c.toNat - 48 by omega, hi, hcc]
theorem decDigits_head {u : Nat} (h : (decDigits u).head? = some 48) : decDigits u = [48] := by
  induction u using Nat.strongRecOn with
  | _ u ih =>
    by_cases hu : u < 10
    · rw [decDigits, dif_pos hu] at h ⊢
      simpa using h
    · rw [decDigits, dif_neg hu] at h
      have hne := decDigits_ne (u / 10)
      have h' : (decDigits (u / 10)).head? = some 48 := by
        cases e : decDigits (u / 10) with
        | nil => exact absurd e hne
        | cons a b => rw [e] at h; simpa using h
      have h2 := ih (u / 10) (by omega) h'
      have h3 := val_decDigits (u / 10)
      rw [h2] at h3
      have : val [48] = 0 := by decide
      omega
theorem val_app_le (l m : List UInt8) : val l ≤ val (l ++ m) := by
  induction m using snoc_ind with
  | h0 => simp
  | h1 r c ih => rw [← List.append_assoc, val_snoc]; omega
theorem not_dig_58 : ¬ isDig 58 := by unfold isDig; decide
theorem not_dig_40 : ¬ isDig 40 := by unfold isDig; decide
theorem not_dig_41 : ¬ isDig 41 := by unfold isDig; decide

theorem run_unique : ∀ {p q : List UInt8} {x y : UInt8} {a b : List UInt8}, (∀ c ∈ p, isDig c) → (∀ c ∈ q, isDig c) → ¬ isDig x → ¬ isDig y → p ++ x :: a = q ++ y :: b → p = q ∧ x = y ∧ a = b
  | [], [], x, y, a, b, _, _, _, _, h => by simpa using h
  | [], d :: q, x, y, a, b, _, hq, hx, _, h => by
    simp only [List.nil_append, List.cons_append, List.cons.injEq] at h
    exact absurd (h.1 ▸ hq d (by simp)) hx
  | c :: p, [], x, y, a, b, hp, _, _, hy, h => by
    simp only [List.nil_append, List.cons_append, List.cons.injEq] at h
    exact absurd (h.1 ▸ hp c (by simp)) hy
  | c :: p, d :: q, x, y, a, b, hp, hq, hx, hy, h => by
    simp only [List.cons_append, List.cons.injEq] at h
    obtain ⟨h1, h2⟩ := h
    obtain ⟨e1, e2⟩ := run_unique (fun c hc => hp c (by simp [hc])) (fun c hc => hq c (by simp [hc])) hx hy h2
    exact ⟨by rw [h1, e1], e2⟩

theorem ba_ext {s t : ByteArray} (h : s.data.toList = t.data.toList) : s = t := by
  cases s; cases t
  simp only [ByteArray.mk.injEq]
  exact Array.toList_inj.1 h
theorem ba_len (s : ByteArray) : s.data.toList.length = s.size := Array.length_toList

theorem Tm.head (T : Tm) : ∃ c r, T.bytes = c :: r ∧ (c = 40 ∨ isDig c) := by
  obtain ⟨l, t, xs⟩ := T
  cases l with
  | true => exact ⟨40, _, by rw [Tm.bytes, if_pos rfl], .inl rfl⟩
  | false =>
    cases e : decDigits t.size with
    | nil => exact absurd e (decDigits_ne _)
    | cons c r =>
      refine ⟨c, r ++ 58 :: t.data.toList, ?_, .inr (decDigits_dig t.size c (by rw [e]; simp))⟩
      rw [Tm.bytes, if_neg (by simp), e]; rfl

theorem Tm.unique : ∀ (T T' : Tm) (r r' : List UInt8), T.ok = true → T'.ok = true → T.bytes ++ r = T'.bytes ++ r' → T = T' ∧ r = r' := by
  intro T
  induction T using Tm.ind with
  | h l t xs ih =>
    rintro ⟨l', t', xs'⟩ r r' h1 h2 h
    rw [Tm.ok] at h1 h2
    rw [Tm.bytes, Tm.bytes] at h
    cases l with
    | true =>
      cases l' with
      | true =>
        simp only [if_true, Bool.and_eq_true, decide_eq_true_eq] at h1 h2
        obtain ⟨h1, k1⟩ := h1
        obtain ⟨h2, k2⟩ := h2
        have et : t = t' := by
          apply ba_ext
          have a := ba_len t
          have b := ba_len t'
          rw [List.length_eq_zero_iff.1 (by omega : t.data.toList.length = 0), List.length_eq_zero_iff.1 (by omega : t'.data.toList.length = 0)]
        subst et
        simp only [if_true, List.cons_append, List.cons.injEq, true_and, List.append_assoc, List.nil_append] at h
        have key : ∀ (xs xs' : List Tm), (∀ x ∈ xs, ∀ (T' : Tm) (r r' : List UInt8), x.ok = true → T'.ok = true → x.bytes ++ r = T'.bytes ++ r' → x = T' ∧ r = r') → Tm.oks xs = true → Tm.oks xs' = true →
            Tm.bytess xs ++ 41 :: r = Tm.bytess xs' ++ 41 :: r' → xs = xs' ∧ r = r' := by
          intro xs
          induction xs with
          | nil =>
            intro xs' _ _ k2 h
            cases xs' with
            | nil => simpa [Tm.bytess] using h
            | cons y s =>
              obtain ⟨c, q, e, hc⟩ := Tm.head y
              simp only [Tm.bytess, e, List.nil_append, List.cons_append, List.cons.injEq] at h
              rcases hc with rfl | hc
              · exact absurd h.1 (by decide)
              · exact absurd (h.1 ▸ hc) not_dig_41
          | cons x s ih2 =>
            intro xs' ihx k1 k2 h
            cases xs' with
            | nil =>
              obtain ⟨c, q, e, hc⟩ := Tm.head x
              simp only [Tm.bytess, e, List.nil_append, List.cons_append, List.cons.injEq] at h
              rcases hc with rfl | hc
              · exact absurd h.1 (by decide)
              · exact absurd (h.1 ▸ hc) not_dig_41
            | cons y s' =>
              simp only [Tm.oks, Bool.and_eq_true] at k1 k2
              simp only [Tm.bytess, List.append_assoc] at h
              obtain ⟨e1, e2⟩ := ihx x (by simp) y _ _ k1.1 k2.1 h
              obtain ⟨e3, e4⟩ := ih2 s' (fun z hz => ihx z (by simp [hz])) k1.2 k2.2 e2
              exact ⟨by rw [e1, e3], e4⟩
        obtain ⟨e1, e2⟩ := key xs xs' ih k1 k2 h
        exact ⟨by rw [e1], e2⟩
      | false =>
        obtain ⟨c, q, e, hc⟩ := Tm.head (.mk false t' xs')
        rw [Tm.bytes, if_neg (by simp)] at e
        simp only [if_true, Bool.false_eq_true, if_false] at h
        have hd : isDig c := by
          cases e2 : decDigits t'.size with
          | nil => exact absurd e2 (decDigits_ne _)
          | cons a b =>
            rw [e2] at e
            simp only [List.cons_append, List.cons.injEq] at e
            exact e.1 ▸ decDigits_dig t'.size a (by rw [e2]; simp)
        rw [e] at h
        simp only [List.cons_append, List.cons.injEq] at h
        exact absurd (h.1 ▸ hd) not_dig_40
    | false =>
      cases l' with
      | true =>
        simp only [if_true, Bool.false_eq_true, if_false] at h
        cases e2 : decDigits t.size with
        | nil => exact absurd e2 (decDigits_ne _)
        | cons a b =>
          rw [e2] at h
          simp only [List.cons_append, List.cons.injEq] at h
          have hd := decDigits_dig t.size a (by rw [e2]; simp)
          exact absurd (h.1 ▸ hd) not_dig_40
      | false =>
        simp only [Bool.false_eq_true, if_false, List.append_assoc, List.cons_append, List.isEmpty_iff] at h h1 h2
        subst h1; subst h2
        obtain ⟨e1, _, e2⟩ := run_unique (decDigits_dig _) (decDigits_dig _) not_dig_58 not_dig_58 h
        have hs := decDigits_inj e1
        have hl : t.data.toList.length = t'.data.toList.length := by rw [ba_len, ba_len, hs]
        obtain ⟨e3, e4⟩ := List.append_inj e2 hl
        exact ⟨by rw [ba_ext e3], e4⟩
end Go.Proofs.YtgjcblginkdinaaGreatDoor
set_option linter.unusedVariables false
namespace Go.Proofs.YtgjcblginkdinaaGreatDoor
open Go.ChangeShapes Go.WideShapes Go.ChangeAt Go.RowKit

inductive SlL (Z : Nat → Prop) (w : World) : Value → List Tm → Prop
  | nil (a : Option Addr) (c : Nat) : c ≤ maxLen → SlL Z w (.slice a 0 c) []
  | row (b o c : Nat) (xs : List Tm) (S : Nat → Value) : xs ≠ [] → Z b → xs.length ≤ c → c ≤ maxLen →
      (∀ j l t ys, xs[j]? = some (.mk l t ys) → w.cell? ⟨b, o + j * 3, none⟩ = some (.bool l) ∧ w.cell? ⟨b, o + j * 3 + 1, none⟩ = some (.string t) ∧ w.cell? ⟨b, o + j * 3 + 2, none⟩ = some (S j) ∧ t.size ≤ 140737488355328) →
      (∀ j l t ys, xs[j]? = some (.mk l t ys) → SlL Z w (S j) ys) → SlL Z w (.slice (some ⟨b, o, none⟩) xs.length c) xs

theorem SlL.form {Z : Nat → Prop} {w : World} {v : Value} {xs : List Tm} (h : SlL Z w v xs) : ∃ a c, v = .slice a xs.length c ∧ xs.length ≤ c ∧ c ≤ maxLen := by
  cases h with
  | nil a c hc => exact ⟨a, c, rfl, Nat.zero_le _, hc⟩
  | row b o c xs S h1 h2 h3 h4 h5 h6 => exact ⟨_, c, rfl, h3, h4⟩

def FRow (Z : Nat → Prop) (w : World) (b o : Nat) (xs : List Tm) : Prop :=
  Z b ∧ b < w.heap.size ∧ ∀ j l t ys, xs[j]? = some (.mk l t ys) → ∃ a c, w.cell? ⟨b, o + j * 3, none⟩ = some (.bool l) ∧ w.cell? ⟨b, o + j * 3 + 1, none⟩ = some (.string t) ∧ w.cell? ⟨b, o + j * 3 + 2, none⟩ = some (.slice a ys.length c) ∧
    t.size ≤ 140737488355328 ∧ SlL Z w (.slice a ys.length c) ys

theorem SlL.pos {Z : Nat → Prop} {w : World} {v : Value} {xs : List Tm} (h : SlL Z w v xs) (hne : xs ≠ []) : ∃ b o c, v = .slice (some ⟨b, o, none⟩) xs.length c ∧ xs.length ≤ c ∧ c ≤ maxLen ∧ FRow Z w b o xs := by
  cases h with
  | nil a c => exact absurd rfl hne
  | row b o c xs S h1 h2 h3 h4 h5 h6 =>
    refine ⟨b, o, c, rfl, h3, h4, h2, ?_, fun j l t ys hj => ?_⟩
    · obtain ⟨⟨l, t, ys⟩, r, rfl⟩ := List.exists_cons_of_ne_nil h1
      exact cell_lt (h5 0 l t ys rfl).1
    · obtain ⟨c1, c2, c3, c4⟩ := h5 j l t ys hj
      have hs := h6 j l t ys hj
      obtain ⟨a, c', e, _, _⟩ := hs.form
      rw [e] at c3 hs
      exact ⟨a, c', c1, c2, c3, c4, hs⟩

theorem SlL.of_row {Z : Nat → Prop} {w : World} {b o c : Nat} {xs : List Tm} (h : FRow Z w b o xs) (hne : xs ≠ []) (hc : xs.length ≤ c) (hm : c ≤ maxLen) : SlL Z w (.slice (some ⟨b, o, none⟩) xs.length c) xs := by
  obtain ⟨h1, h2, h3⟩ := h
  have hS : ∀ j, ∃ v, ∀ l t ys, xs[j]? = some (.mk l t ys) → w.cell? ⟨b, o + j * 3, none⟩ = some (.bool l) ∧ w.cell? ⟨b, o + j * 3 + 1, none⟩ = some (.string t) ∧ w.cell? ⟨b, o + j * 3 + 2, none⟩ = some v ∧ t.size ≤ 140737488355328 ∧ SlL Z w v ys := by
    intro j
    cases e : xs[j]? with
    | none => exact ⟨.nilIface, fun _ _ _ h => by cases h⟩
    | some x =>
      obtain ⟨l, t, ys⟩ := x
      obtain ⟨a, c', k⟩ := h3 j l t ys e
      refine ⟨.slice a ys.length c', fun l' t' ys' h => ?_⟩
      cases h
      exact k
  obtain ⟨S, hS⟩ := Classical.axiomOfChoice hS
  exact .row b o c xs S hne h1 hc hm (fun j l t ys hj => by obtain ⟨a1, a2, a3, a4, _⟩ := hS j l t ys hj; exact ⟨a1, a2, a3, a4⟩) (fun j l t ys hj => (hS j l t ys hj).2.2.2.2)

theorem SlL.carry {Z Z' : Nat → Prop} {w w' : World} {v : Value} {xs : List Tm} (h : SlL Z w v xs) (hb : ∀ i, i < w.heap.size → Z i → w'.heap[i]? = w.heap[i]? ∧ Z' i) : SlL Z' w' v xs := by
  induction h with
  | nil a c hc => exact .nil a c hc
  | row b o c xs S h1 h2 h3 h4 h5 h6 ih =>
    have hlt : b < w.heap.size := by
      obtain ⟨⟨l, t, ys⟩, r, rfl⟩ := List.exists_cons_of_ne_nil h1
      exact cell_lt (h5 0 l t ys rfl).1
    obtain ⟨e, hz⟩ := hb b hlt h2
    refine .row b o c xs S h1 hz h3 h4 (fun j l t ys hj => ?_) (fun j l t ys hj => ih j l t ys hj)
    obtain ⟨a1, a2, a3, a4⟩ := h5 j l t ys hj
    exact ⟨(World.cell?_of_block (w := w) (a := ⟨b, o + j * 3, none⟩) e).trans a1, (World.cell?_of_block (w := w) (a := ⟨b, o + j * 3 + 1, none⟩) e).trans a2, (World.cell?_of_block (w := w) (a := ⟨b, o + j * 3 + 2, none⟩) e).trans a3, a4⟩

theorem SlL.keep {Z : Nat → Prop} {w w' : World} {v : Value} {xs : List Tm} (h : SlL Z w v xs) (hb : Below w.heap.size w w') : SlL Z w' v xs := h.carry fun i hi hz => ⟨hb.block i hi, hz⟩
theorem SlL.belowB {B : Nat} {w w' : World} {v : Value} {xs : List Tm} (h : SlL (· < B) w v xs) (hb : Below B w w') : SlL (· < B) w' v xs := h.carry fun i hi hz => ⟨hb.block i hz, hz⟩
theorem SlL.off {Z Y : Nat → Prop} {w w' : World} {v : Value} {xs : List Tm} (h : SlL Z w v xs) (ho : Off Y w w') (hz : ∀ i, Z i → ¬ Y i) : SlL Z w' v xs := h.carry fun i hi h => ⟨ho.block i hi (hz i h), h⟩
theorem SlL.mono {Z Z' : Nat → Prop} {w : World} {v : Value} {xs : List Tm} (h : SlL Z w v xs) (hz : ∀ i, i < w.heap.size → Z i → Z' i) : SlL Z' w v xs := h.carry fun i hi h => ⟨rfl, hz i hi h⟩
theorem SlL.drewN {Z : Nat → Prop} {w : World} {v : Value} {xs : List Tm} {n : Nat} (h : SlL Z w v xs) : SlL Z (w.drewN n) v xs := h.carry fun i hi h => ⟨rfl, h⟩
theorem SlL.drew {Z : Nat → Prop} {w : World} {v : Value} {xs : List Tm} (h : SlL Z w v xs) : SlL Z w.drew v xs := h.carry fun i hi h => ⟨rfl, h⟩
theorem SlL.alloc {Z : Nat → Prop} {w : World} {v : Value} {xs : List Tm} (h : SlL Z w v xs) (o : Obj) : SlL Z (w.alloc o) v xs := h.keep ((Below.refl _ _).alloc (Nat.le_refl _) o)
theorem FRow.below {Z : Nat → Prop} {w w' : World} {b o : Nat} {xs : List Tm} (h : FRow Z w b o xs) (hb : Below w.heap.size w w') : FRow Z w' b o xs := by
  obtain ⟨h1, h2, h3⟩ := h
  refine ⟨h1, Nat.lt_of_lt_of_le h2 hb.size, fun j l t ys hj => ?_⟩
  obtain ⟨a, c, a1, a2, a3, a4, a5⟩ := h3 j l t ys hj
  exact ⟨a, c, (hb.cell (p := ⟨b, o + j * 3, none⟩) h2).trans a1, (hb.cell (p := ⟨b, o + j * 3 + 1, none⟩) h2).trans a2, (hb.cell (p := ⟨b, o + j * 3 + 2, none⟩) h2).trans a3, a4, a5.keep hb⟩
theorem FRow.off {Z Y : Nat → Prop} {w w' : World} {b o : Nat} {xs : List Tm} (h : FRow Z w b o xs) (ho : Off Y w w') (hz : ∀ i, Z i → ¬ Y i) : FRow Z w' b o xs := by
  obtain ⟨h1, h2, h3⟩ := h
  refine ⟨h1, Nat.lt_of_lt_of_le h2 ho.size, fun j l t ys hj => ?_⟩
  obtain ⟨a, c, a1, a2, a3, a4, a5⟩ := h3 j l t ys hj
  have hn := hz b h1
  exact ⟨a, c, (ho.cell (p := ⟨b, o + j * 3, none⟩) h2 hn).trans a1, (ho.cell (p := ⟨b, o + j * 3 + 1, none⟩) h2 hn).trans a2, (ho.cell (p := ⟨b, o + j * 3 + 2, none⟩) h2 hn).trans a3, a4, a5.off ho hz⟩

abbrev fv (l : Bool) (t : ByteArray) (s : Value) : Value := .agg #[.bool l, .string t, s]
end Go.Proofs.YtgjcblginkdinaaGreatDoor
set_option linter.unusedVariables false
namespace Go.Proofs.YtgjcblginkdinaaGreatDoor
open Go.ChangeShapes Go.WideShapes Go.ChangeAt Go.RowKit

theorem text_any (s : ByteArray) (w : World) :
    Calls Tryz.prog 65 #[.string s] w fun e w' => e = .returned (fv false s (.slice none 0 0)) ∧ Below w.heap.size w w' := by
  go_enter Tryz.func65, Tryz.ntmps65
  go_wp2_with fail
  exact bodyPost_ret (v := fv false s (.slice none 0 0)) (by simp [results, Tryz.results65, go_sem]) rfl ⟨rfl, (Below.refl _ _).alloc (Nat.le_refl _) _⟩
theorem rtext_any (s : ByteArray) (w : World) :
    Calls Tryz.prog 73 #[.string s] w fun e w' => e = .returned (fv false s (.slice none 0 0)) ∧ Below w.heap.size w w' := by
  go_enter Tryz.func73, Tryz.ntmps73
  go_wp2_with fail
  exact bodyPost_ret (v := fv false s (.slice none 0 0)) (by simp [results, Tryz.results73, go_sem]) rfl ⟨rfl, (Below.refl _ _).alloc (Nat.le_refl _) _⟩
end Go.Proofs.YtgjcblginkdinaaGreatDoor
