/- Many sectors at once on a disk: mathematics. No function of the program is named here. -/
import Derived.Test.YthamfbfeokmhgaaGreatDoorU17
set_option linter.unusedVariables false
namespace Go.Proofs.YthamfbfeokmhgaaGreatDoor

def putD : Dk → Pnd → Dk × Int
  | D, [] => flushD D
  | D, q :: r => if (writeD D q.1 q.2).2 = 0 then putD (writeD D q.1 q.2).1 r else writeD D q.1 q.2
def runD : Dk → List Pnd → Dk × Int
  | D, [] => (D, 0)
  | D, b :: r => if (putD D b).2 = 0 then runD (putD D b).1 r else putD D b
def goodB (n : Nat) (b : Pnd) : Prop := ∀ q ∈ b, q.1 < n ∧ q.2.size ≤ 512
def appB (S : List ByteArray) (b : Pnd) : List ByteArray := sk allK S b b.length
def appR : List ByteArray → List Pnd → List ByteArray
  | S, [] => S
  | S, b :: r => appR (appB S b) r
def lessF (f : Int) (c : Nat) : Int := if f < 0 then f else f - c
def costR : List Pnd → Nat
  | [] => 0
  | b :: r => b.length + 1 + costR r
theorem appB_len (S : List ByteArray) (b : Pnd) : (appB S b).length = S.length := sk_len _ _ _ _
theorem appR_len (S : List ByteArray) : ∀ bs, (appR S bs).length = S.length := fun bs => by
  induction bs generalizing S with
  | nil => rfl
  | cons b r ih => rw [appR, ih, appB_len]
theorem costR_app (x y : List Pnd) : costR (x ++ y) = costR x + costR y := by
  induction x with
  | nil => simp [costR]
  | cons b r ih => simp only [List.cons_append, costR, ih]; omega
theorem put_off : ∀ (D : Dk) (b : Pnd), D.off = true → putD D b = (D, 20)
  | D, [], h => by rw [putD, flushD, if_pos h]
  | D, q :: r, h => by
    have e : writeD D q.1 q.2 = (D, 20) := by rw [writeD, if_pos h]
    rw [putD, e]; rfl
theorem write_on {D : Dk} {q : Nat × ByteArray} (ho : D.off = false) (h1 : q.1 < D.sure.length) (h2 : q.2.size ≤ 512) : writeD D q.1 q.2 = if D.fuel = 0 then ({ D with off := true }, 20) else ({ D with fuel := stepF D.fuel, pend := D.pend ++ [q] }, 0) := by
  rw [writeD, if_neg (by rw [ho]; decide), if_neg (by omega)]
  rfl
theorem put_on : ∀ (b : Pnd) (D : Dk), D.off = false → goodB D.sure.length b → D.fuel < 0 ∨ (b.length : Int) + 1 ≤ D.fuel → putD D b = ({ sure := appB D.sure (D.pend ++ b), pend := [], fuel := lessF D.fuel (b.length + 1), off := false }, 0)
  | [], D, ho, hg, hf => by
    have h0 : ¬ D.fuel = 0 := by simp only [List.length_nil] at hf; omega
    rw [putD, flushD, if_neg (by rw [ho]; decide), if_neg h0, List.append_nil]
    have e : stepF D.fuel = lessF D.fuel ([] : Pnd).length.succ := by
      simp only [List.length_nil] at hf ⊢
      unfold stepF lessF
      rcases hf with hf | hf
      · rw [if_neg (by omega), if_pos hf]
      · rw [if_pos (by omega), if_neg (by omega)]; rfl
    rw [e, ho]; rfl
  | q :: r, D, ho, hg, hf => by
    have hq := hg q (by simp)
    have h0 : ¬ D.fuel = 0 := by simp only [List.length_cons] at hf; omega
    have e := write_on (q := q) ho hq.1 hq.2
    rw [if_neg h0] at e
    rw [putD, e, if_pos rfl]
    have hf2 : stepF D.fuel < 0 ∨ (r.length : Int) + 1 ≤ stepF D.fuel := by
      simp only [List.length_cons] at hf
      unfold stepF
      rcases hf with hf | hf
      · left; rw [if_neg (by omega)]; exact hf
      · right; rw [if_pos (by omega)]; omega
    rw [put_on r { D with fuel := stepF D.fuel, pend := D.pend ++ [q] } ho (fun x hx => hg x (by simp [hx])) hf2]
    have e2 : lessF (stepF D.fuel) (r.length + 1) = lessF D.fuel ((q :: r).length + 1) := by
      simp only [List.length_cons] at hf ⊢
      rcases hf with hf | hf
      · have e1 : stepF D.fuel = D.fuel := by unfold stepF; rw [if_neg (by omega)]
        rw [e1]; unfold lessF; rw [if_pos hf, if_pos hf]
      · have e1 : stepF D.fuel = D.fuel - 1 := by unfold stepF; rw [if_pos (by omega)]
        rw [e1]; unfold lessF; rw [if_neg (by omega), if_neg (by omega)]; omega
    simp only [e2, List.append_assoc, List.singleton_append]
theorem put_cut : ∀ (b : Pnd) (D : Dk), D.off = false → goodB D.sure.length b → 0 ≤ D.fuel → D.fuel < (b.length : Int) + 1 → putD D b = ({ sure := D.sure, pend := D.pend ++ b.take D.fuel.toNat, fuel := 0, off := true }, 20)
  | [], D, ho, hg, h0, hf => by
    have h1 : D.fuel = 0 := by simp only [List.length_nil] at hf; omega
    rw [putD, flushD, if_neg (by rw [ho]; decide), if_pos h1]
    simp [h1]
  | q :: r, D, ho, hg, h0, hf => by
    have hq := hg q (by simp)
    have e := write_on (q := q) ho hq.1 hq.2
    by_cases h1 : D.fuel = 0
    · rw [if_pos h1] at e
      rw [putD, e, if_neg (by show ¬ (20 : Int) = 0; decide)]
      simp [h1]
    · rw [if_neg h1] at e
      rw [putD, e, if_pos rfl]
      have hs : stepF D.fuel = D.fuel - 1 := by unfold stepF; rw [if_pos (by omega)]
      rw [put_cut r { D with fuel := stepF D.fuel, pend := D.pend ++ [q] } ho (fun x hx => hg x (by simp [hx])) (by show 0 ≤ stepF D.fuel; omega) (by show stepF D.fuel < _; simp only [List.length_cons] at hf; omega)]
      have e3 : D.fuel.toNat = (stepF D.fuel).toNat + 1 := by omega
      simp only [e3, List.take_succ_cons, List.append_assoc, List.singleton_append]
theorem run_on : ∀ (bs : List Pnd) (D : Dk), D.off = false → D.pend = [] → (∀ b ∈ bs, goodB D.sure.length b) → D.fuel < 0 ∨ (costR bs : Int) ≤ D.fuel → runD D bs = ({ sure := appR D.sure bs, pend := [], fuel := lessF D.fuel (costR bs), off := false }, 0)
  | [], D, ho, hp, hg, hf => by
    rw [runD]
    have : lessF D.fuel (costR []) = D.fuel := by unfold lessF costR; split <;> simp
    rw [this]
    cases D
    simp only at ho hp
    subst ho; subst hp
    rfl
  | b :: r, D, ho, hp, hg, hf => by
    simp only [costR] at hf
    rw [runD, put_on b D ho (hg b (by simp)) (by omega), if_pos rfl]
    have hf2 : lessF D.fuel (b.length + 1) < 0 ∨ (costR r : Int) ≤ lessF D.fuel (b.length + 1) := by
      unfold lessF
      rcases hf with hf | hf
      · left; rw [if_pos hf]; exact hf
      · right; rw [if_neg (by omega)]; omega
    rw [run_on r _ rfl rfl (fun x hx => by show goodB (appB _ _).length x; rw [appB_len]; exact hg x (by simp [hx])) hf2]
    simp only [hp, List.nil_append, appR]
    have e2 : lessF (lessF D.fuel (b.length + 1)) (costR r) = lessF D.fuel (costR (b :: r)) := by
      simp only [costR]
      unfold lessF
      rcases hf with hf | hf
      · rw [if_pos hf, if_pos hf, if_pos hf]
      · rw [if_neg (by omega), if_neg (by omega), if_neg (by omega)]; omega
    rw [e2]
theorem run_cut : ∀ (bs : List Pnd) (D : Dk), D.off = false → D.pend = [] → (∀ b ∈ bs, goodB D.sure.length b) → 0 ≤ D.fuel → D.fuel < (costR bs : Int) →
    ∃ (done : List Pnd) (b : Pnd) (rest : List Pnd) (k : Nat), bs = done ++ b :: rest ∧ (costR done + k : Int) = D.fuel ∧ k ≤ b.length ∧ runD D bs = ({ sure := appR D.sure done, pend := b.take k, fuel := 0, off := true }, 20)
  | [], D, ho, hp, hg, h0, hf => by simp only [costR] at hf; omega
  | b :: r, D, ho, hp, hg, h0, hf => by
    simp only [costR] at hf
    by_cases h1 : (b.length : Int) + 1 ≤ D.fuel
    · have e := put_on b D ho (hg b (by simp)) (.inr h1)
      have hl : lessF D.fuel (b.length + 1) = D.fuel - (b.length + 1) := by unfold lessF; rw [if_neg (by omega)]; omega
      rw [hl, hp, List.nil_append] at e
      obtain ⟨done, x, rest, k, h2, h3, h4, h5⟩ := run_cut r _ (rfl : (Dk.mk (appB D.sure b) [] (D.fuel - (b.length + 1)) false).off = false) rfl (fun x hx => by show goodB (appB _ _).length x; rw [appB_len]; exact hg x (by simp [hx])) (by show 0 ≤ D.fuel - _; omega) (by show D.fuel - _ < _; omega)
      refine ⟨b :: done, x, rest, k, by rw [h2]; rfl, ?_, h4, ?_⟩
      · simp only [costR]; simp only at h3; omega
      · rw [runD, e, if_pos rfl, h5]; rfl
    · have e := put_cut b D ho (hg b (by simp)) h0 (by omega)
      rw [hp, List.nil_append] at e
      refine ⟨[], b, r, D.fuel.toNat, rfl, by simp only [costR]; omega, by omega, ?_⟩
      rw [runD, e, if_neg (by show ¬ (20 : Int) = 0; decide)]; rfl
theorem run_off : ∀ (bs : List Pnd) (D : Dk), bs ≠ [] → D.off = true → runD D bs = (D, 20)
  | [], D, hn, ho => absurd rfl hn
  | b :: r, D, hn, ho => by rw [runD, put_off D b ho]; rfl
theorem put_ok : ∀ (b : Pnd) {D : Dk}, D.Ok → (putD D b).1.Ok
  | [], D, h => flush_ok h
  | q :: r, D, h => by
    rw [putD]
    split
    · exact put_ok r (write_ok h _ _)
    · exact write_ok h _ _
theorem put_pend : ∀ (b : Pnd) {D : Dk}, (putD D b).1.pend.length ≤ D.pend.length + b.length
  | [], D => by
    rw [putD, flushD]
    split
    · exact Nat.le_add_right _ _
    · split
      · exact Nat.le_add_right _ _
      · exact Nat.zero_le _
  | q :: r, D => by
    have hw : (writeD D q.1 q.2).1.pend.length ≤ D.pend.length + 1 := by
      rw [writeD]
      split
      · exact Nat.le_add_right _ _
      · split
        · exact Nat.le_add_right _ _
        · split
          · exact Nat.le_add_right _ _
          · simp
    rw [putD]
    split
    · have := put_pend r (D := (writeD D q.1 q.2).1)
      simp only [List.length_cons]; omega
    · simp only [List.length_cons]; omega
theorem app_at {b : Pnd} {S : List ByteArray} (hn : (b.map Prod.fst).Nodup) {i : Nat} {d : ByteArray} (hm : (i, d) ∈ b) (hi : i < S.length) : (appB S b)[i]? = some d := by
  unfold appB
  have key : ∀ j, j ≤ b.length → (∃ k < j, b[k]? = some (i, d)) → (sk allK S b j)[i]? = some d := by
    intro j
    induction j with
    | zero => intro _ ⟨k, hk, _⟩; omega
    | succ j ih =>
      intro hj ⟨k, hk, hb⟩
      obtain ⟨q, hq⟩ : ∃ q, b[j]? = some q := ⟨b[j]'(by omega), by simp⟩
      rw [sk_succ hq, if_pos rfl]
      by_cases e : k = j
      · subst e
        rw [hb] at hq; injection hq with hq; subst hq
        rw [List.getElem?_set_self (by rw [sk_len]; exact hi)]
      · have hne : q.1 ≠ i := by
          intro e2
          apply e
          have a1 : (b.map Prod.fst)[k]? = some i := by rw [List.getElem?_map, hb]; rfl
          have a2 : (b.map Prod.fst)[j]? = some i := by rw [List.getElem?_map, hq, ← e2]; rfl
          exact (List.getElem?_inj (by simp; omega) hn).1 (a1.trans a2.symm)
        rw [List.getElem?_set_ne hne]
        exact ih (by omega) ⟨k, by omega, hb⟩
  obtain ⟨k, hk, hb⟩ := List.mem_iff_getElem.1 hm
  exact key _ (Nat.le_refl _) ⟨k, hk, by rw [List.getElem?_eq_getElem hk, hb]⟩
theorem app_miss {b : Pnd} {S : List ByteArray} {kp : Nat → Bool} {j i : Nat} (h : ∀ q ∈ b, q.1 ≠ i) : (sk kp S b j)[i]? = S[i]? :=
  sk_miss fun ⟨k, _, q, hq, e⟩ => h q (List.mem_of_getElem? hq) e
theorem sk_none (S : List ByteArray) (Q : Pnd) : ∀ j, sk (fun _ => false) S Q j = S
  | 0 => rfl
  | j + 1 => by
    rw [sk]
    split
    · rw [if_neg (by decide)]; exact sk_none S Q j
    · exact sk_none S Q j
end Go.Proofs.YthamfbfeokmhgaaGreatDoor
