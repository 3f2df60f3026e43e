/- The contract of the document's item: a text. The contract of the document's item: nothing, and a text. -/
import Derived.Deep.RegionHeld3
import Derived.Test.YtgjcblginkdinaaGreatDoorZ10
import Derived.Test.YtgjcblginkdinaaGreatDoorZ11
set_option linter.unusedVariables false
namespace Go.Proofs.YtgjcblginkdinaaGreatDoor
open Go.ChangeShapes Go.WideShapes Go.ChangeAt Go.RowKit

def ItemP (d : Nat) (L : List UInt8) (w : World) (e : Ending) (w' : World) : Prop :=
  Below w.heap.size w w' ∧
    ((∃ l t xs a c rs R, e = .returned (.tuple #[fv l t (.slice a xs.length c), .string rs, .bool true]) ∧ IsF d L (.mk l t xs) R ∧ rs.data.toList = R ∧ t.size ≤ 140737488355328 ∧ SlL (fun i => w.heap.size ≤ i) w' (.slice a xs.length c) xs) ∨
     (e = .returned (.tuple #[fz, .string ⟨#[]⟩, .bool false]) ∧ ∀ T R, ¬ IsF d L T R))

theorem val_ge (l : List UInt8) : ∀ c : UInt8, 49 ≤ c.toNat → (∀ x ∈ l, isDig x) → 10 ^ l.length ≤ val (c :: l) := by
  induction l using snoc_ind with
  | h0 => intro c hc _; simp [val]; omega
  | h1 r x ih =>
    intro c hc hd
    have h := ih c hc fun y hy => hd y (List.mem_append_left _ hy)
    have e : c :: (r ++ [x]) = (c :: r) ++ [x] := rfl
    rw [e, val_snoc, List.length_append, List.length_singleton, Nat.pow_succ]
    omega

theorem item_fail {s : ByteArray} {L : List UInt8} {d k n : Nat} (hs : s.size ≤ 100000) (hL : L = s.data.toList) (hk : k ≤ 6) (hkl : k ≤ L.length) (hd : ∀ c ∈ L.take k, isDig c) (hn : n = val (L.take k)) (hstop : ∀ c, L[k]? = some c → isDig c → k = 6)
    (h40 : ∀ r, L ≠ 40 :: r) (hf : k = 0 ∨ (1 < k ∧ L[0]? = some 48) ∨ L.length ≤ k ∨ (∃ c, L[k]? = some c ∧ c ≠ 58) ∨ (L[k]? = some 58 ∧ L.length - k - 1 < n)) : ∀ T R, ¬ IsF d L T R := by
  have hsl : L.length ≤ 100000 := by rw [hL, ba_len]; exact hs
  have hsplit : ∀ c, L[k]? = some c → L = L.take k ++ c :: L.drop (k + 1) := fun c hc => by
    obtain ⟨h1, h2⟩ := List.getElem?_eq_some_iff.1 hc
    rw [← h2, List.getElem_cons_drop, List.take_append_drop]
  have hne : k ≠ 0 → L.take k ≠ [] := fun h e => by
    have := congrArg List.length e
    rw [List.length_take, List.length_nil] at this
    omega
  intro T R
  by_cases hk0 : k = 0
  · subst hk0
    refine isF_none (fun c r e => ⟨?_, fun hc => ?_⟩) T R
    · rintro rfl; exact h40 r e
    · have := hstop c (by rw [e]; rfl) hc
      omega
  · by_cases hz : 1 < k ∧ L[0]? = some 48
    · obtain ⟨h1, h2⟩ := hz
      cases L with
      | nil => simp at h2
      | cons c r =>
        simp only [List.getElem?_cons_zero, Option.some.injEq] at h2
        subst h2
        refine text_zero (fun r2 e => ?_) T R
        refine not_dig_58 (hd 58 ?_)
        rw [e]
        obtain ⟨k', rfl⟩ : ∃ k', k = k' + 2 := ⟨k - 2, by omega⟩
        simp
    · by_cases hend : L.length ≤ k
      · have e : L.take k = L := List.take_of_length_le hend
        have := text_fail_colon (d := d) (ds := L.take k) (Lk := []) (hne hk0) hd (by simp) (by simp) T R
        rwa [List.append_nil, e] at this
      · obtain ⟨c, hc⟩ : ∃ c, L[k]? = some c := ⟨L[k], by simp⟩
        have hsp := hsplit c hc
        by_cases hcd : isDig c
        · have hk6 := hstop c hc hcd
          subst hk6
          rw [hsp]
          refine text_fail_long hd hcd ?_ T R
          have hlen : (L.drop (6 + 1)).length + 1 ≤ 100000 := by rw [List.length_drop]; omega
          obtain ⟨x, r, hx⟩ := List.exists_cons_of_ne_nil (hne (by decide))
          have hxl : L[0]? = some x := by
            have := congrArg (fun l => l[0]?) hx
            simpa using this
          have hx48 : x ≠ 48 := by
            rintro rfl
            exact hz ⟨by decide, hxl⟩
          have hxd : isDig x := hd x (by rw [hx]; simp)
          have hr5 : r.length = 5 := by
            have := congrArg List.length hx
            rw [List.length_take, List.length_cons] at this
            omega
          rw [hx, List.cons_append]
          have := val_ge (r ++ [c]) x (by
            unfold isDig at hxd
            have : x.toNat ≠ 48 := fun e => hx48 (UInt8.toNat.inj e)
            omega) (fun y hy => by
            rcases List.mem_append.1 hy with hy | hy
            · exact hd y (by rw [hx]; simp [hy])
            · rw [List.mem_singleton] at hy; exact hy ▸ hcd)
          rw [List.length_append, List.length_singleton, hr5] at this
          omega
        · by_cases hc58 : c = 58
          · subst hc58
            rcases hf with h | h | h | ⟨c', h, h'⟩ | ⟨_, h⟩
            · exact absurd h hk0
            · exact absurd h hz
            · exact absurd h hend
            · rw [hc] at h; injection h with h; exact absurd h.symm h'
            · rw [hsp]
              refine text_fail_short (hne hk0) hd ?_ T R
              rw [← hn, List.length_drop]
              omega
          · rw [hsp]
            exact text_fail_colon (hne hk0) hd (fun x r e => by injection e with e _; exact e ▸ hcd) (fun r e => by injection e with e _; exact hc58 e) T R

theorem item_ok {s : ByteArray} {L : List UInt8} {d k n : Nat} (hL : L = s.data.toList) (hd8 : d ≤ 8) (hk0 : k ≠ 0) (hd : ∀ c ∈ L.take k, isDig c) (hn : n = val (L.take k)) (hz : ¬ (1 < k ∧ L[0]? = some 48)) (hc : L[k]? = some 58) (hle : k + 1 + n ≤ s.size) :
    IsF d L (.mk false (s.extract (k + 1) (k + 1 + n)) []) (s.extract (k + 1 + n) s.size).data.toList := by
  have hsplit : L = L.take k ++ 58 :: L.drop (k + 1) := by
    obtain ⟨h1, h2⟩ := List.getElem?_eq_some_iff.1 hc
    rw [← h2, List.getElem_cons_drop, List.take_append_drop]
  have hkl : k < L.length := (List.getElem?_eq_some_iff.1 hc).1
  have hne : L.take k ≠ [] := fun e => by
    have := congrArg List.length e
    rw [List.length_take, List.length_nil] at this
    omega
  rw [hsplit]
  refine text_ok hd8 hne hd ?_ _ _ ?_ ?_
  · intro h
    cases L with
    | nil => simp at hkl
    | cons c r =>
      obtain ⟨k', rfl⟩ : ∃ k', k = k' + 1 := ⟨k - 1, by omega⟩
      simp only [List.take_succ_cons, List.head?_cons, Option.some.injEq] at h
      subst h
      cases k' with
      | zero => rfl
      | succ k' => exact absurd ⟨by omega, rfl⟩ hz
  · rw [← hn, ← ba_len, extract_list, List.length_take, List.length_drop, ba_len]; omega
  · rw [extract_list, extract_list, ← hL, show k + 1 + n - (k + 1) = n by omega, List.take_of_length_le (l := L.drop (k + 1 + n)) (by rw [List.length_drop, hL, ba_len]; exact Nat.le_refl _)]
    have : L.drop (k + 1 + n) = (L.drop (k + 1)).drop n := by rw [List.drop_drop]
    rw [this, List.take_append_drop]
end Go.Proofs.YtgjcblginkdinaaGreatDoor
set_option linter.unusedVariables false
namespace Go.Proofs.YtgjcblginkdinaaGreatDoor
open Go.ChangeShapes Go.WideShapes Go.ChangeAt Go.RowKit

theorem item_none (d : Nat) (w : World) :
    Calls Tryz.prog 85 #[.string ⟨#[]⟩, .int .i64 (d : Nat)] w (ItemP d [] w) := by
  have hno : ∀ T R, ¬ IsF d [] T R := fun T R => isF_none (fun c r e => by cases e) T R
  have HNO := Lib.hid hno
  clear hno
  go_enter Tryz.func85, Tryz.ntmps85
  go_wp2_with fail
  exact bodyPost_ret (v := .tuple #[fz, .string ⟨#[]⟩, .bool false]) (by simp [results, Tryz.results85, go_sem]) rfl ⟨(Below.refl _ _).alloc (Nat.le_refl _) _, .inr ⟨rfl, HNO.out⟩⟩

theorem get_drop {s : ByteArray} {k : Nat} (h : k < s.size) : s.data.toList[k]? = some s[k] := by
  rw [List.getElem?_eq_getElem (by rw [ba_len]; exact h)]; rfl

theorem zero_keep {w W w2 : World} {x1 x2 x3 : Value} {ty : TypeId} (h : Below W.heap.size W w2) (hW : ∃ n, W = (w.alloc (.cells #[x1, x2, x3] ty)).drewN n) :
    (w2.cell? ⟨w.heap.size, 0, none⟩ = some x1 ∧ w2.cell? ⟨w.heap.size, 1, none⟩ = some x2 ∧ w2.cell? ⟨w.heap.size, 2, none⟩ = some x3) ∧ (w2.frozen? ⟨w.heap.size, 0, none⟩ = false ∧ w2.frozen? ⟨w.heap.size, 1, none⟩ = false ∧ w2.frozen? ⟨w.heap.size, 2, none⟩ = false) ∧ w.heap.size < w2.heap.size ∧ Below w.heap.size w w2 := by
  obtain ⟨n, rfl⟩ := hW
  have ho : Off (fun _ => False) (w.alloc (.cells #[x1, x2, x3] ty)) w2 := (Off.refl _ _).drewN.trans (Off.of_below h)
  obtain ⟨h1, h2, h3⟩ := cells3_off ho (fun h => h)
  refine ⟨h1, ⟨h2 0, h2 1, h2 2⟩, h3, ?_⟩
  exact ((Below.refl _ _).alloc (Nat.le_refl _) _).trans (ho.below (fun i hi => hi.elim) (by simp))

theorem take_snoc' {α : Type} {l : List α} {k : Nat} {x : α} (h : l[k]? = some x) : l.take (k + 1) = l.take k ++ [x] := by rw [List.take_add_one, h]; rfl
theorem val_lt (l : List UInt8) (h : ∀ c ∈ l, isDig c) : val l < 10 ^ l.length := by
  induction l using snoc_ind with
  | h0 => simp [val]
  | h1 r x ih =>
    have h1 := ih fun c hc => h c (List.mem_append_left _ hc)
    have h2 := (h x (by simp)).2
    rw [val_snoc, List.length_append, List.length_singleton, Nat.pow_succ]
    omega

set_option maxHeartbeats 4000000 in
set_option maxRecDepth 100000 in
theorem item_text (s : ByteArray) (d : Nat) (w : World) (hs : s.size ≤ 100000) (hd : d ≤ 8) (hne : 0 < s.size) (h40 : ∀ r, s.data.toList ≠ 40 :: r) :
    Calls Tryz.prog 85 #[.string s, .int .i64 (d : Nat)] w (ItemP d s.data.toList w) := by
  obtain ⟨L, hL⟩ : ∃ L, L = s.data.toList := ⟨_, rfl⟩
  have hLl : L.length = s.size := by rw [hL, ba_len]
  rw [← hL] at h40 ⊢
  have e2 : (s.toList == []) = false := by
    have := toList_ne (t := s) (by omega)
    simpa using this
  have e3 : s.toList.isEmpty = false := by
    have := toList_ne (t := s) (by omega)
    simpa using this
  obtain ⟨b0, hb0⟩ : ∃ b, s[0] = b := ⟨_, rfl⟩
  have hb40 : ((b0.toNat : Int) == 40) = false := by
    rw [beq_eq_false_iff_ne]
    intro e
    have hb : b0 = 40 := UInt8.toNat.inj (by show b0.toNat = 40; omega)
    have hl : L = b0 :: L.drop 1 := by
      have := drop_at s 0 hne
      rw [List.drop_zero, hb0] at this
      rw [hL]; exact this
    rw [hb] at hl
    exact h40 _ hl
  have i0 : (0 : Int) < s.size := by omega
  have HL := Lib.hid hL
  have HLL := Lib.hid hLl
  have H40 := Lib.hid h40
  clear hL hLl h40
  go_enter Tryz.func85, Tryz.ntmps85
  go_wp2_with fail
  go_loopw [11, 12] (fun nv iv wr => ∃ k n : Nat, k ≤ 6 ∧ k ≤ s.size ∧ iv = .int .i64 (k : Nat) ∧ nv = .int .i64 (n : Nat) ∧ n ≤ 1000000 ∧ n = val (L.take k) ∧ (∀ c ∈ L.take k, isDig c) ∧ wr = w.alloc (.cells #[.bool false, .string ⟨#[]⟩, .slice none 0 0] 61)) (fun _ iv _ => 6 - (intOf iv).toNat)
  case atStart => exact ⟨0, 0, by omega, by omega, rfl, rfl, by omega, rfl, by simp, rfl⟩
  case round =>
    obtain ⟨k, n, hk6, hks, rfl, rfl, hn6, hn, hdig, rfl⟩ := hrel
    have HN := Lib.hid hn
    have HD := Lib.hid hdig
    clear hn hdig
    have k0 : (0 : Int) ≤ k := by omega
    have hfail : (∀ c, L[k]? = some c → isDig c → k = 6) → (k = 0 ∨ (1 < k ∧ L[0]? = some 48) ∨ L.length ≤ k ∨ (∃ c, L[k]? = some c ∧ c ≠ 58) ∨ (L[k]? = some 58 ∧ L.length - k - 1 < n)) → ∀ T R, ¬ IsF d L T R := fun h1 h2 =>
      item_fail (s := s) hs HL.out hk6 (by rw [HLL.out]; exact hks) HD.out HN.out h1 H40.out h2
    have HFA := Lib.hid hfail
    have hL0 : L[0]? = some b0 := by rw [HL.out, get_drop hne, hb0]
    have HL0 := Lib.hid hL0
    clear hfail hL0
    by_cases hlt : k < s.size
    · have hlt' : (k : Int) < s.size := by omega
      obtain ⟨b, hb⟩ : ∃ b, s[k] = b := ⟨_, rfl⟩
      have hLk : L[k]? = some b := by rw [HL.out, get_drop hlt, hb]
      have HLK := Lib.hid hLk
      clear hLk
      obtain ⟨y, hy⟩ : ∃ y : Int, (b.toNat : Int) = y := ⟨_, rfl⟩
      have hyr : 0 ≤ y ∧ y < 256 := by have := UInt8.toNat_lt b; omega
      obtain ⟨y0, y1⟩ := hyr
      by_cases hgo : (48 ≤ y ∧ y ≤ 57) ∧ k < 6
      · obtain ⟨⟨h48, h57⟩, hk⟩ := hgo
        have hk' : (k : Int) < 6 := by omega
        have hbd : isDig b := ⟨by omega, by omega⟩
        have hv : ((val (L.take (k + 1)) : Nat) : Int) = (n : Int) * 10 + (y - 48) := by
          rw [take_snoc' HLK.out, val_snoc, ← HN.out, ← hy]
          have := hbd.1
          omega
        have hnb : n ≤ 99999 := by
          have h1 := val_lt (L.take k) HD.out
          rw [← HN.out, List.length_take] at h1
          have h2 : 10 ^ min k L.length ≤ 10 ^ 5 := Nat.pow_le_pow_right (by decide) (by omega)
          omega
        have HV := Lib.hid hv
        have HBD := Lib.hid hbd
        clear hv hbd
        go_wp2_with fail
        refine ⟨⟨k + 1, 10 * n + (b.toNat - 48), by omega, by omega, by go_num, ?_, ?_, ?_, ?_, trivial⟩, by simp [intOf]; omega⟩
        · have := HBD.out.1
          rw [show (n : Int) * 10 + (y - 48) = ((10 * n + (b.toNat - 48) : Nat) : Int) by omega]
        · have := HBD.out.2; omega
        · have := HV.out
          have := HBD.out.1
          omega
        · intro c hc
          rw [take_snoc' HLK.out] at hc
          rcases List.mem_append.1 hc with h | h
          · exact HD.out c h
          · rw [List.mem_singleton] at h; exact h ▸ HBD.out
      · rcases (show y < 48 ∨ (48 ≤ y ∧ 57 < y) ∨ (48 ≤ y ∧ y ≤ 57 ∧ k = 6) by omega) with g1 | ⟨g1, g2⟩ | ⟨g1, g2, g3⟩
        · have y58 : ¬ y = 58 := by omega
          clear hgo
          by_cases p1 : k = 0
          · have hno := HFA.out (fun c hc hcd => by first | omega | (have e := HLK.out.symm.trans hc; injection e with e; subst e; exact absurd hcd (fun h => by have := h.1; have := h.2; omega))) (.inl p1)
            have HNO := Lib.hid hno
            have q1 : ((k : Int) == 0) = true := by rw [beq_iff_eq]; omega
            clear hno p1
            go_wp2_with fail
            exact bodyPost_ret (v := .tuple #[fz, .string ⟨#[]⟩, .bool false]) (by simp [results, Tryz.results85, go_sem]) rfl ⟨(Below.refl _ _).alloc (Nat.le_refl _) _, .inr ⟨rfl, HNO.out⟩⟩
          · have q1 : ((k : Int) == 0) = false := by rw [beq_eq_false_iff_ne]; omega
            by_cases p2 : 1 < k ∧ b0 = 48
            · obtain ⟨p2, p3⟩ := p2
              have hno := HFA.out (fun c hc hcd => by first | omega | (have e := HLK.out.symm.trans hc; injection e with e; subst e; exact absurd hcd (fun h => by have := h.1; have := h.2; omega))) (.inr (.inl ⟨p2, by rw [HL0.out, p3]⟩))
              have HNO := Lib.hid hno
              have q2 : (1 : Int) < k := by omega
              have q3 : ((b0.toNat : Int) == 48) = true := by rw [beq_iff_eq, p3]; rfl
              clear hno p3
              go_wp2_with fail
              exact bodyPost_ret (v := .tuple #[fz, .string ⟨#[]⟩, .bool false]) (by simp [results, Tryz.results85, go_sem]) rfl ⟨(Below.refl _ _).alloc (Nat.le_refl _) _, .inr ⟨rfl, HNO.out⟩⟩
            · have q2 : (1 : Int) < k ∧ ((b0.toNat : Int) == 48) = false ∨ ¬ (1 : Int) < k := by
                by_cases h : (1 : Int) < k
                · exact .inl ⟨h, by rw [beq_eq_false_iff_ne]; intro e; exact p2 ⟨by omega, UInt8.toNat.inj (by show b0.toNat = 48; omega)⟩⟩
                · exact .inr h
              have HP2 := Lib.hid p2
              clear p2
              have hno := HFA.out (fun c hc hcd => by first | omega | (have e := HLK.out.symm.trans hc; injection e with e; subst e; exact absurd hcd (fun h => by have := h.1; have := h.2; omega))) (.inr (.inr (.inr (.inl ⟨b, HLK.out, fun e => y58 (by rw [← hy, e]; rfl)⟩))))
              have HNO := Lib.hid hno
              have q4 : (y != 58) = true := by rw [bne_iff_ne]; exact y58
              clear hno
              rcases q2 with ⟨q2, q3⟩ | q2
              all_goals
                go_wp2_with fail
                exact bodyPost_ret (v := .tuple #[fz, .string ⟨#[]⟩, .bool false]) (by simp [results, Tryz.results85, go_sem]) rfl ⟨(Below.refl _ _).alloc (Nat.le_refl _) _, .inr ⟨rfl, HNO.out⟩⟩
        · clear hgo
          by_cases y58 : y = 58
          · by_cases p1 : k = 0
            · have hno := HFA.out (fun c hc hcd => by first | omega | (have e := HLK.out.symm.trans hc; injection e with e; subst e; exact absurd hcd (fun h => by have := h.1; have := h.2; omega))) (.inl p1)
              have HNO := Lib.hid hno
              have q1 : ((k : Int) == 0) = true := by rw [beq_iff_eq]; omega
              clear hno p1
              go_wp2_with fail
              exact bodyPost_ret (v := .tuple #[fz, .string ⟨#[]⟩, .bool false]) (by simp [results, Tryz.results85, go_sem]) rfl ⟨(Below.refl _ _).alloc (Nat.le_refl _) _, .inr ⟨rfl, HNO.out⟩⟩
            · have q1 : ((k : Int) == 0) = false := by rw [beq_eq_false_iff_ne]; omega
              by_cases p2 : 1 < k ∧ b0 = 48
              · obtain ⟨p2, p3⟩ := p2
                have hno := HFA.out (fun c hc hcd => by first | omega | (have e := HLK.out.symm.trans hc; injection e with e; subst e; exact absurd hcd (fun h => by have := h.1; have := h.2; omega))) (.inr (.inl ⟨p2, by rw [HL0.out, p3]⟩))
                have HNO := Lib.hid hno
                have q2 : (1 : Int) < k := by omega
                have q3 : ((b0.toNat : Int) == 48) = true := by rw [beq_iff_eq, p3]; rfl
                clear hno p3
                go_wp2_with fail
                exact bodyPost_ret (v := .tuple #[fz, .string ⟨#[]⟩, .bool false]) (by simp [results, Tryz.results85, go_sem]) rfl ⟨(Below.refl _ _).alloc (Nat.le_refl _) _, .inr ⟨rfl, HNO.out⟩⟩
              · have q2 : (1 : Int) < k ∧ ((b0.toNat : Int) == 48) = false ∨ ¬ (1 : Int) < k := by
                  by_cases h : (1 : Int) < k
                  · exact .inl ⟨h, by rw [beq_eq_false_iff_ne]; intro e; exact p2 ⟨by omega, UInt8.toNat.inj (by show b0.toNat = 48; omega)⟩⟩
                  · exact .inr h
                have HP2 := Lib.hid p2
                clear p2
                have b58 : b = 58 := UInt8.toNat.inj (by show b.toNat = 58; omega)
                have q4 : (y != 58) = false := by rw [bne_eq_false_iff_eq]; exact y58
                by_cases p5 : s.size - k - 1 < n
                · have hno := HFA.out (fun c hc hcd => by first | omega | (have e := HLK.out.symm.trans hc; injection e with e; subst e; exact absurd hcd (fun h => by have := h.1; have := h.2; omega))) (.inr (.inr (.inr (.inr ⟨by rw [HLK.out, b58], by rw [HLL.out]; exact p5⟩))))
                  have HNO := Lib.hid hno
                  have q5 : (s.size : Int) - (k : Int) - 1 < (n : Int) := by omega
                  clear hno b58
                  rcases q2 with ⟨q2, q3⟩ | q2
                  all_goals
                    go_wp2_with fail
                    exact bodyPost_ret (v := .tuple #[fz, .string ⟨#[]⟩, .bool false]) (by simp [results, Tryz.results85, go_sem]) rfl ⟨(Below.refl _ _).alloc (Nat.le_refl _) _, .inr ⟨rfl, HNO.out⟩⟩
                · have q5 : ¬ (s.size : Int) - (k : Int) - 1 < (n : Int) := by omega
                  have hfin := item_ok HL.out hd (by omega) HD.out HN.out (fun h => HP2.out ⟨h.1, by have := h.2; rw [HL0.out] at this; exact Option.some.inj this⟩) (by rw [HLK.out, b58]) (s := s) (by omega)
                  have HFIN := Lib.hid hfin
                  have hsz : (s.extract (k + 1) (k + 1 + n)).size ≤ 140737488355328 := by rw [← ba_len, extract_list, List.length_take, List.length_drop, ba_len]; omega
                  have HSZ := Lib.hid hsz
                  clear hsz
                  clear hfin b58
                  rcases q2 with ⟨q2, q3⟩ | q2
                  all_goals
                    go_wp2_with fail
                    have i1 : (0 : Int) ≤ (k : Int) + 1 := by omega
                    have i2 : (k : Int) + 1 ≤ (k : Int) + 1 + (n : Int) := by omega
                    have i3 : (k : Int) + 1 + (n : Int) ≤ s.size := by omega
                    have i4 : IntKind.i64.wrap ((k : Int) + 1) = (k : Int) + 1 := IntWalk.i64_in _ (by omega)
                    have i5 : IntKind.i64.wrap ((k : Int) + 1 + (n : Int)) = (k : Int) + 1 + (n : Int) := IntWalk.i64_in _ (by omega)
                    have i6 : ((k : Int) + 1).toNat = k + 1 := by omega
                    have i7 : ((k : Int) + 1 + (n : Int)).toNat = k + 1 + n := by omega
                    have i8 : (0 : Int) ≤ (k : Int) + 1 + (n : Int) := by omega
                    go_region_with (go_at_call 73; refine (rtext_any _ _).mono ?_; rintro e w2 ⟨rfl, hb2⟩; obtain ⟨⟨z1, z2, z3⟩, ⟨zf0, zf1, zf2⟩, zl, zb⟩ := zero_keep (w := w) hb2 ⟨_, rfl⟩; have HZB := Lib.hid zb; clear zb)
                    clear i4 i5 i6 i7
                    go_wp2_with fail
                    refine bodyPost_ret (v := .tuple #[fv false (s.extract (k + 1) (k + 1 + n)) (.slice none 0 0), .string (s.extract (k + 1 + n) s.size), .bool true]) (by simp [results, Tryz.results85, go_sem, z1, z2, z3]) rfl ⟨?_, .inl ⟨false, s.extract (k + 1) (k + 1 + n), [], none, 0, _, _, rfl, HFIN.out, rfl, HSZ.out, .nil none 0 (Nat.zero_le _)⟩⟩
                    exact ((HZB.out.setCell (p := ⟨w.heap.size, 0, none⟩) (Nat.le_refl _) _).setCell (p := ⟨w.heap.size, 1, none⟩) (Nat.le_refl _) _).setCell (p := ⟨w.heap.size, 2, none⟩) (Nat.le_refl _) _
          · by_cases p1 : k = 0
            · have hno := HFA.out (fun c hc hcd => by first | omega | (have e := HLK.out.symm.trans hc; injection e with e; subst e; exact absurd hcd (fun h => by have := h.1; have := h.2; omega))) (.inl p1)
              have HNO := Lib.hid hno
              have q1 : ((k : Int) == 0) = true := by rw [beq_iff_eq]; omega
              clear hno p1
              go_wp2_with fail
              exact bodyPost_ret (v := .tuple #[fz, .string ⟨#[]⟩, .bool false]) (by simp [results, Tryz.results85, go_sem]) rfl ⟨(Below.refl _ _).alloc (Nat.le_refl _) _, .inr ⟨rfl, HNO.out⟩⟩
            · have q1 : ((k : Int) == 0) = false := by rw [beq_eq_false_iff_ne]; omega
              by_cases p2 : 1 < k ∧ b0 = 48
              · obtain ⟨p2, p3⟩ := p2
                have hno := HFA.out (fun c hc hcd => by first | omega | (have e := HLK.out.symm.trans hc; injection e with e; subst e; exact absurd hcd (fun h => by have := h.1; have := h.2; omega))) (.inr (.inl ⟨p2, by rw [HL0.out, p3]⟩))
                have HNO := Lib.hid hno
                have q2 : (1 : Int) < k := by omega
                have q3 : ((b0.toNat : Int) == 48) = true := by rw [beq_iff_eq, p3]; rfl
                clear hno p3
                go_wp2_with fail
                exact bodyPost_ret (v := .tuple #[fz, .string ⟨#[]⟩, .bool false]) (by simp [results, Tryz.results85, go_sem]) rfl ⟨(Below.refl _ _).alloc (Nat.le_refl _) _, .inr ⟨rfl, HNO.out⟩⟩
              · have q2 : (1 : Int) < k ∧ ((b0.toNat : Int) == 48) = false ∨ ¬ (1 : Int) < k := by
                  by_cases h : (1 : Int) < k
                  · exact .inl ⟨h, by rw [beq_eq_false_iff_ne]; intro e; exact p2 ⟨by omega, UInt8.toNat.inj (by show b0.toNat = 48; omega)⟩⟩
                  · exact .inr h
                have HP2 := Lib.hid p2
                clear p2
                have hno := HFA.out (fun c hc hcd => by first | omega | (have e := HLK.out.symm.trans hc; injection e with e; subst e; exact absurd hcd (fun h => by have := h.1; have := h.2; omega))) (.inr (.inr (.inr (.inl ⟨b, HLK.out, fun e => y58 (by rw [← hy, e]; rfl)⟩))))
                have HNO := Lib.hid hno
                have q4 : (y != 58) = true := by rw [bne_iff_ne]; exact y58
                clear hno
                rcases q2 with ⟨q2, q3⟩ | q2
                all_goals
                  go_wp2_with fail
                  exact bodyPost_ret (v := .tuple #[fz, .string ⟨#[]⟩, .bool false]) (by simp [results, Tryz.results85, go_sem]) rfl ⟨(Below.refl _ _).alloc (Nat.le_refl _) _, .inr ⟨rfl, HNO.out⟩⟩
        · have y58 : ¬ y = 58 := by omega
          clear hgo
          have g4 : ¬ (k : Int) < 6 := by omega
          have HG3 := Lib.hid g3
          clear g3
          have q1 : ((k : Int) == 0) = false := by rw [beq_eq_false_iff_ne]; omega
          by_cases p2 : 1 < k ∧ b0 = 48
          · obtain ⟨p2, p3⟩ := p2
            have hno := HFA.out (fun _ _ _ => HG3.out) (.inr (.inl ⟨p2, by rw [HL0.out, p3]⟩))
            have HNO := Lib.hid hno
            have q2 : (1 : Int) < k := by omega
            have q3 : ((b0.toNat : Int) == 48) = true := by rw [beq_iff_eq, p3]; rfl
            clear hno p3
            go_wp2_with fail
            exact bodyPost_ret (v := .tuple #[fz, .string ⟨#[]⟩, .bool false]) (by simp [results, Tryz.results85, go_sem]) rfl ⟨(Below.refl _ _).alloc (Nat.le_refl _) _, .inr ⟨rfl, HNO.out⟩⟩
          · have q2 : (1 : Int) < k ∧ ((b0.toNat : Int) == 48) = false ∨ ¬ (1 : Int) < k := by
              by_cases h : (1 : Int) < k
              · exact .inl ⟨h, by rw [beq_eq_false_iff_ne]; intro e; exact p2 ⟨by omega, UInt8.toNat.inj (by show b0.toNat = 48; omega)⟩⟩
              · exact .inr h
            have HP2 := Lib.hid p2
            clear p2
            have hno := HFA.out (fun _ _ _ => HG3.out) (.inr (.inr (.inr (.inl ⟨b, HLK.out, fun e => y58 (by rw [← hy, e]; rfl)⟩))))
            have HNO := Lib.hid hno
            have q4 : (y != 58) = true := by rw [bne_iff_ne]; exact y58
            clear hno
            rcases q2 with ⟨q2, q3⟩ | q2
            · go_wp2_with fail
              exact bodyPost_ret (v := .tuple #[fz, .string ⟨#[]⟩, .bool false]) (by simp [results, Tryz.results85, go_sem]) rfl ⟨(Below.refl _ _).alloc (Nat.le_refl _) _, .inr ⟨rfl, HNO.out⟩⟩
            · exfalso; omega
    · have g1 : ¬ (k : Int) < s.size := by omega
      have q1 : ((k : Int) == 0) = false := by rw [beq_eq_false_iff_ne]; omega
      by_cases p2 : 1 < k ∧ b0 = 48
      · obtain ⟨p2, p3⟩ := p2
        have hno := HFA.out (fun c hc _ => by have := (List.getElem?_eq_some_iff.1 hc).1; rw [HLL.out] at this; omega) (.inr (.inl ⟨p2, by rw [HL0.out, p3]⟩))
        have HNO := Lib.hid hno
        have q2 : (1 : Int) < k := by omega
        have q3 : ((b0.toNat : Int) == 48) = true := by rw [beq_iff_eq, p3]; rfl
        clear hno p3
        go_wp2_with fail
        exact bodyPost_ret (v := .tuple #[fz, .string ⟨#[]⟩, .bool false]) (by simp [results, Tryz.results85, go_sem]) rfl ⟨(Below.refl _ _).alloc (Nat.le_refl _) _, .inr ⟨rfl, HNO.out⟩⟩
      · have q2 : (1 : Int) < k ∧ ((b0.toNat : Int) == 48) = false ∨ ¬ (1 : Int) < k := by
          by_cases h : (1 : Int) < k
          · exact .inl ⟨h, by rw [beq_eq_false_iff_ne]; intro e; exact p2 ⟨by omega, UInt8.toNat.inj (by show b0.toNat = 48; omega)⟩⟩
          · exact .inr h
        have HP2 := Lib.hid p2
        clear p2
        have hno := HFA.out (fun c hc _ => by have := (List.getElem?_eq_some_iff.1 hc).1; rw [HLL.out] at this; omega) (.inr (.inr (.inl (by rw [HLL.out]; omega))))
        have HNO := Lib.hid hno
        clear hno
        rcases q2 with ⟨q2, q3⟩ | q2
        all_goals
          go_wp2_with fail
          exact bodyPost_ret (v := .tuple #[fz, .string ⟨#[]⟩, .bool false]) (by simp [results, Tryz.results85, go_sem]) rfl ⟨(Below.refl _ _).alloc (Nat.le_refl _) _, .inr ⟨rfl, HNO.out⟩⟩
end Go.Proofs.YtgjcblginkdinaaGreatDoor
