/- The contract of the document's item: a text. -/
import Derived.Test.YtapplhoglmihbaaDoorRdText
import Derived.Deep.RegionHeld3
set_option linter.unusedVariables false
namespace Go.Proofs.YtapplhoglmihbaaDoor
open Go.ChangeShapes Go.WideShapes Go.ChangeAt Go.RowKit

/-- What item leaves: the form that is there and what is behind it; or none. -/
def ItemP (d : Nat) (L : List UInt8) (w : World) (e : Ending) (w' : World) : Prop :=
  Below w.heap.size w w' ∧
    ((∃ l t xs a c rs R, e = .returned (.tuple #[fv l t (.slice a xs.length c), .string rs, .bool true]) ∧ IsF d L (.mk l t xs) R ∧ rs.data.toList = R ∧ t.size ≤ 140737488355328 ∧ SlL (fun i => w.heap.size ≤ i) w' (.slice a xs.length c) xs) ∨
     (e = .returned (.tuple #[fz, .string ⟨#[]⟩, .bool false]) ∧ ∀ T R, ¬ IsF d L T R))

theorem val_ge (l : List UInt8) : ∀ c : UInt8, 49 ≤ c.toNat → (∀ x ∈ l, isDig x) → 10 ^ l.length ≤ val (c :: l) := by
  induction l using snoc_ind with
  | h0 => intro c hc _; simp [val]; omega
  | h1 r x ih =>
    intro c hc hd
    have h := ih c hc fun y hy => hd y (List.mem_append_left _ hy)
    have e : c :: (r ++ [x]) = (c :: r) ++ [x] := rfl
    rw [e, val_snoc, List.length_append, List.length_singleton, Nat.pow_succ]
    omega

/-- Why there is no text. -/
theorem item_fail {s : ByteArray} {L : List UInt8} {d k n : Nat} (hs : s.size ≤ 100000) (hL : L = s.data.toList) (hk : k ≤ 6) (hkl : k ≤ L.length) (hd : ∀ c ∈ L.take k, isDig c) (hn : n = val (L.take k)) (hstop : ∀ c, L[k]? = some c → isDig c → k = 6)
    (h40 : ∀ r, L ≠ 40 :: r) (hf : k = 0 ∨ (1 < k ∧ L[0]? = some 48) ∨ L.length ≤ k ∨ (∃ c, L[k]? = some c ∧ c ≠ 58) ∨ (L[k]? = some 58 ∧ L.length - k - 1 < n)) : ∀ T R, ¬ IsF d L T R := by
  have hsl : L.length ≤ 100000 := by rw [hL, ba_len]; exact hs
  have hsplit : ∀ c, L[k]? = some c → L = L.take k ++ c :: L.drop (k + 1) := fun c hc => by
    obtain ⟨h1, h2⟩ := List.getElem?_eq_some_iff.1 hc
    rw [← h2, List.getElem_cons_drop, List.take_append_drop]
  have hne : k ≠ 0 → L.take k ≠ [] := fun h e => by
    have := congrArg List.length e
    rw [List.length_take, List.length_nil] at this
    omega
  intro T R
  by_cases hk0 : k = 0
  · subst hk0
    refine isF_none (fun c r e => ⟨?_, fun hc => ?_⟩) T R
    · rintro rfl; exact h40 r e
    · have := hstop c (by rw [e]; rfl) hc
      omega
  · by_cases hz : 1 < k ∧ L[0]? = some 48
    · obtain ⟨h1, h2⟩ := hz
      cases L with
      | nil => simp at h2
      | cons c r =>
        simp only [List.getElem?_cons_zero, Option.some.injEq] at h2
        subst h2
        refine text_zero (fun r2 e => ?_) T R
        refine not_dig_58 (hd 58 ?_)
        rw [e]
        obtain ⟨k', rfl⟩ : ∃ k', k = k' + 2 := ⟨k - 2, by omega⟩
        simp
    · by_cases hend : L.length ≤ k
      · have e : L.take k = L := List.take_of_length_le hend
        have := text_fail_colon (d := d) (ds := L.take k) (Lk := []) (hne hk0) hd (by simp) (by simp) T R
        rwa [List.append_nil, e] at this
      · obtain ⟨c, hc⟩ : ∃ c, L[k]? = some c := ⟨L[k], by simp⟩
        have hsp := hsplit c hc
        by_cases hcd : isDig c
        · have hk6 := hstop c hc hcd
          subst hk6
          rw [hsp]
          refine text_fail_long hd hcd ?_ T R
          have hlen : (L.drop (6 + 1)).length + 1 ≤ 100000 := by rw [List.length_drop]; omega
          obtain ⟨x, r, hx⟩ := List.exists_cons_of_ne_nil (hne (by decide))
          have hxl : L[0]? = some x := by
            have := congrArg (fun l => l[0]?) hx
            simpa using this
          have hx48 : x ≠ 48 := by
            rintro rfl
            exact hz ⟨by decide, hxl⟩
          have hxd : isDig x := hd x (by rw [hx]; simp)
          have hr5 : r.length = 5 := by
            have := congrArg List.length hx
            rw [List.length_take, List.length_cons] at this
            omega
          rw [hx, List.cons_append]
          have := val_ge (r ++ [c]) x (by
            unfold isDig at hxd
            have : x.toNat ≠ 48 := fun e => hx48 (UInt8.toNat.inj e)
            omega) (fun y hy => by
            rcases List.mem_append.1 hy with hy | hy
            · exact hd y (by rw [hx]; simp [hy])
            · rw [List.mem_singleton] at hy; exact hy ▸ hcd)
          rw [List.length_append, List.length_singleton, hr5] at this
          omega
        · by_cases hc58 : c = 58
          · subst hc58
            rcases hf with h | h | h | ⟨c', h, h'⟩ | ⟨_, h⟩
            · exact absurd h hk0
            · exact absurd h hz
            · exact absurd h hend
            · rw [hc] at h; injection h with h; exact absurd h.symm h'
            · rw [hsp]
              refine text_fail_short (hne hk0) hd ?_ T R
              rw [← hn, List.length_drop]
              omega
          · rw [hsp]
            exact text_fail_colon (hne hk0) hd (fun x r e => by injection e with e _; exact e ▸ hcd) (fun r e => by injection e with e _; exact hc58 e) T R

theorem item_ok {s : ByteArray} {L : List UInt8} {d k n : Nat} (hL : L = s.data.toList) (hd8 : d ≤ 8) (hk0 : k ≠ 0) (hd : ∀ c ∈ L.take k, isDig c) (hn : n = val (L.take k)) (hz : ¬ (1 < k ∧ L[0]? = some 48)) (hc : L[k]? = some 58) (hle : k + 1 + n ≤ s.size) :
    IsF d L (.mk false (s.extract (k + 1) (k + 1 + n)) []) (s.extract (k + 1 + n) s.size).data.toList := by
  have hsplit : L = L.take k ++ 58 :: L.drop (k + 1) := by
    obtain ⟨h1, h2⟩ := List.getElem?_eq_some_iff.1 hc
    rw [← h2, List.getElem_cons_drop, List.take_append_drop]
  have hkl : k < L.length := (List.getElem?_eq_some_iff.1 hc).1
  have hne : L.take k ≠ [] := fun e => by
    have := congrArg List.length e
    rw [List.length_take, List.length_nil] at this
    omega
  rw [hsplit]
  refine text_ok hd8 hne hd ?_ _ _ ?_ ?_
  · intro h
    cases L with
    | nil => simp at hkl
    | cons c r =>
      obtain ⟨k', rfl⟩ : ∃ k', k = k' + 1 := ⟨k - 1, by omega⟩
      simp only [List.take_succ_cons, List.head?_cons, Option.some.injEq] at h
      subst h
      cases k' with
      | zero => rfl
      | succ k' => exact absurd ⟨by omega, rfl⟩ hz
  · rw [← hn, ← ba_len, extract_list, List.length_take, List.length_drop, ba_len]; omega
  · rw [extract_list, extract_list, ← hL, show k + 1 + n - (k + 1) = n by omega, List.take_of_length_le (l := L.drop (k + 1 + n)) (by rw [List.length_drop, hL, ba_len]; exact Nat.le_refl _)]
    have : L.drop (k + 1 + n) = (L.drop (k + 1)).drop n := by rw [List.drop_drop]
    rw [this, List.take_append_drop]
end Go.Proofs.YtapplhoglmihbaaDoor
