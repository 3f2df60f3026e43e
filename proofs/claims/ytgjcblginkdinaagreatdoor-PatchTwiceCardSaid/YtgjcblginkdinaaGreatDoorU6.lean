/- Which form's bytes a list of bytes begins with: at most one's; lists and texts, step by step. Mathematics alone. The contract of the reader's next. -/
import Derived.Test.YtgjcblginkdinaaGreatDoorTm
import Derived.Test.YtgjcblginkdinaaGreatDoorU2
set_option linter.unusedVariables false
namespace Go.Proofs.YtgjcblginkdinaaGreatDoor
open Go.Lib

def IsF (d : Nat) (L : List UInt8) (T : Tm) (R : List UInt8) : Prop := T.ok = true ∧ d + T.depth ≤ 8 ∧ L = T.bytes ++ R

theorem IsF.det {d d' : Nat} {L : List UInt8} {T T' : Tm} {R R' : List UInt8} (h : IsF d L T R) (h' : IsF d' L T' R') : T = T' ∧ R = R' :=
  Tm.unique T T' R R' h.1 h'.1 (h.2.2.symm.trans h'.2.2)

abbrev noText : ByteArray := ⟨#[]⟩
theorem size0 {t : ByteArray} (h : t.size = 0) : t = noText := by
  apply ba_ext
  rw [List.length_eq_zero_iff.1 (show t.data.toList.length = 0 by rw [ba_len]; exact h)]

theorem isF_list {d : Nat} {L : List UInt8} {T : Tm} {R : List UInt8} : IsF d (40 :: L) T R ↔ ∃ xs, T = .mk true noText xs ∧ Tm.oks xs = true ∧ d + (Tm.depths xs + 1) ≤ 8 ∧ L = Tm.bytess xs ++ 41 :: R := by
  constructor
  · rintro ⟨h1, h2, h3⟩
    obtain ⟨l, t, xs⟩ := T
    cases l with
    | true =>
      rw [Tm.ok] at h1
      rw [Tm.depth] at h2
      rw [Tm.bytes] at h3
      simp only [if_true, Bool.and_eq_true, decide_eq_true_eq, List.cons_append, List.cons.injEq, true_and, List.append_assoc, List.nil_append] at h1 h2 h3
      exact ⟨xs, by rw [size0 h1.1], h1.2, h2, h3⟩
    | false =>
      rw [Tm.bytes] at h3
      simp only [Bool.false_eq_true, if_false] at h3
      cases e : decDigits t.size with
      | nil => exact absurd e (decDigits_ne _)
      | cons c r =>
        rw [e] at h3
        simp only [List.cons_append, List.cons.injEq] at h3
        exact absurd (h3.1 ▸ decDigits_dig t.size c (by rw [e]; simp)) not_dig_40
  · rintro ⟨xs, rfl, h1, h2, rfl⟩
    refine ⟨?_, ?_, ?_⟩
    · rw [Tm.ok]; simp [h1]; rfl
    · rw [Tm.depth]; simpa using h2
    · rw [Tm.bytes]; simp

theorem split_items {r : List UInt8} : ∀ (ys xs : List Tm) (Lk : List UInt8), Tm.oks ys = true → Tm.oks xs = true → Tm.bytess ys ++ Lk = Tm.bytess xs ++ 41 :: r → ∃ zs, xs = ys ++ zs ∧ Lk = Tm.bytess zs ++ 41 :: r
  | [], xs, Lk, _, _, h => ⟨xs, rfl, by simpa [Tm.bytess] using h⟩
  | y :: ys, [], Lk, _, _, h => by
    obtain ⟨c, q, e, hc⟩ := Tm.head y
    simp only [Tm.bytess, e, List.nil_append, List.cons_append, List.cons.injEq] at h
    rcases hc with rfl | hc
    · exact absurd h.1 (by decide)
    · exact absurd (h.1 ▸ hc) not_dig_41
  | y :: ys, x :: xs, Lk, h1, h2, h => by
    simp only [Tm.oks, Bool.and_eq_true] at h1 h2
    simp only [Tm.bytess, List.append_assoc] at h
    obtain ⟨e1, e2⟩ := Tm.unique y x _ _ h1.1 h2.1 h
    obtain ⟨zs, e3, e4⟩ := split_items ys xs Lk h1.2 h2.2 e2
    exact ⟨zs, by rw [e1, e3]; rfl, e4⟩

structure Items (d : Nat) (L : List UInt8) (ys : List Tm) (Lk : List UInt8) : Prop where
  eq : L = Tm.bytess ys ++ Lk
  ok : Tm.oks ys = true
  deep : d + (Tm.depths ys + 1) ≤ 8

theorem Items.start {d : Nat} {L : List UInt8} (hd : d < 8) : Items d L [] L := ⟨by simp [Tm.bytess], rfl, by simp [Tm.depths]; omega⟩
theorem Items.next {d : Nat} {L Lk R : List UInt8} {ys : List Tm} {T : Tm} (h : Items d L ys Lk) (hf : IsF (d + 1) Lk T R) : Items d L (ys ++ [T]) R := by
  refine ⟨?_, ?_, ?_⟩
  · rw [h.eq, hf.2.2, Tm.bytess_app]; simp [Tm.bytess]
  · rw [Tm.oks_app, h.ok]; simp [Tm.oks, hf.1]
  · rw [Tm.depths_app]
    have : Tm.depths [T] = T.depth := by simp [Tm.depths]
    have := hf.2.1
    have := h.deep
    omega
theorem Items.done {d : Nat} {L R : List UInt8} {ys : List Tm} (h : Items d L ys (41 :: R)) : IsF d (40 :: L) (.mk true noText ys) R :=
  isF_list.2 ⟨ys, rfl, h.ok, h.deep, h.eq⟩
theorem Items.fail {d : Nat} {L Lk : List UInt8} {ys : List Tm} (h : Items d L ys Lk) (hn : ∀ R, Lk ≠ 41 :: R) (hf : ∀ T R, ¬ IsF (d + 1) Lk T R) : ∀ T R, ¬ IsF d (40 :: L) T R := by
  intro T R hT
  obtain ⟨xs, _, h1, h2, h3⟩ := isF_list.1 hT
  obtain ⟨zs, e1, e2⟩ := split_items ys xs Lk h.ok h1 (h.eq.symm.trans h3)
  cases zs with
  | nil => exact hn R (by simpa [Tm.bytess] using e2)
  | cons z zs =>
    refine hf z (Tm.bytess zs ++ 41 :: R) ⟨?_, ?_, ?_⟩
    · exact Tm.oks_iff.1 h1 z (by rw [e1]; simp)
    · have := Tm.depths_le.1 (Nat.le_refl (Tm.depths xs)) z (by rw [e1]; simp)
      omega
    · rw [e2]; simp [Tm.bytess]
theorem isF_deep {L : List UInt8} (T : Tm) (R : List UInt8) : ¬ IsF 8 (40 :: L) T R := by
  intro h
  obtain ⟨xs, _, _, h2, _⟩ := isF_list.1 h
  omega

theorem isF_none {d : Nat} {L : List UInt8} (h : ∀ c r, L = c :: r → c ≠ 40 ∧ ¬ isDig c) (T : Tm) (R : List UInt8) : ¬ IsF d L T R := by
  intro hT
  obtain ⟨c, r, e, hc⟩ := Tm.head T
  have := hT.2.2
  rw [e] at this
  obtain ⟨h1, h2⟩ := h c (r ++ R) this
  rcases hc with hc | hc
  · exact h1 hc
  · exact h2 hc

theorem isF_text {d : Nat} {L : List UInt8} {T : Tm} {R : List UInt8} {c : UInt8} {r : List UInt8} (hL : L = c :: r) (hc : isDig c) : IsF d L T R ↔ d ≤ 8 ∧ ∃ t : ByteArray, T = .mk false t [] ∧ L = decDigits t.size ++ 58 :: (t.data.toList ++ R) := by
  constructor
  · rintro ⟨h1, h2, h3⟩
    obtain ⟨l, t, xs⟩ := T
    cases l with
    | true =>
      rw [Tm.bytes, hL] at h3
      simp only [if_true, List.cons_append, List.cons.injEq] at h3
      exact absurd (h3.1 ▸ hc) not_dig_40
    | false =>
      rw [Tm.ok] at h1
      rw [Tm.depth] at h2
      rw [Tm.bytes] at h3
      simp only [Bool.false_eq_true, if_false, List.isEmpty_iff, Nat.add_zero] at h1 h2 h3
      exact ⟨h2, t, by rw [h1], by rw [h3]; simp⟩
  · rintro ⟨h1, t, rfl, h3⟩
    refine ⟨?_, ?_, ?_⟩
    · rw [Tm.ok]; simp
    · rw [Tm.depth]; simpa using h1
    · rw [Tm.bytes, h3]; simp

theorem text_run {d : Nat} {ds Lk : List UInt8} {T : Tm} {R : List UInt8} (hne : ds ≠ []) (hd : ∀ c ∈ ds, isDig c) (hk : ∀ x r, Lk = x :: r → ¬ isDig x) (h : IsF d (ds ++ Lk) T R) :
    d ≤ 8 ∧ ∃ t : ByteArray, T = .mk false t [] ∧ ds = decDigits t.size ∧ Lk = 58 :: (t.data.toList ++ R) := by
  obtain ⟨c, ds', rfl⟩ := List.exists_cons_of_ne_nil hne
  obtain ⟨h1, t, hT, h3⟩ := (isF_text (c := c) (r := ds' ++ Lk) rfl (hd c (by simp))).1 h
  cases Lk with
  | nil =>
    exfalso
    have : (58 : UInt8) ∈ c :: ds' := by
      rw [List.append_nil] at h3
      rw [h3]; simp
    exact not_dig_58 (hd 58 this)
  | cons x r =>
    obtain ⟨e1, e2, e3⟩ := run_unique hd (decDigits_dig _) (hk x r rfl) not_dig_58 h3
    exact ⟨h1, t, hT, e1, by rw [e2, e3]⟩
theorem text_fail_colon {d : Nat} {ds Lk : List UInt8} (hne : ds ≠ []) (hd : ∀ c ∈ ds, isDig c) (hk : ∀ x r, Lk = x :: r → ¬ isDig x) (hc : ∀ r, Lk ≠ 58 :: r) (T : Tm) (R : List UInt8) : ¬ IsF d (ds ++ Lk) T R := fun h => by
  obtain ⟨_, t, _, _, e⟩ := text_run hne hd hk h
  exact hc _ e
theorem text_fail_short {d : Nat} {ds L2 : List UInt8} (hne : ds ≠ []) (hd : ∀ c ∈ ds, isDig c) (hs : L2.length < val ds) (T : Tm) (R : List UInt8) : ¬ IsF d (ds ++ 58 :: L2) T R := fun h => by
  obtain ⟨_, t, _, e1, e2⟩ := text_run hne hd (fun x r e => by injection e with e _; exact e ▸ not_dig_58) h
  injection e2 with _ e2
  have h1 := congrArg List.length e2
  have h2 := ba_len t
  rw [e1, val_decDigits] at hs
  rw [List.length_append] at h1
  omega
theorem text_fail_long {d : Nat} {ds Lk : List UInt8} {c : UInt8} (hd : ∀ c ∈ ds, isDig c) (hc : isDig c) (hs : Lk.length + 1 < val (ds ++ [c])) (T : Tm) (R : List UInt8) : ¬ IsF d (ds ++ c :: Lk) T R := fun h => by
  have hL : ∃ x r, ds ++ c :: Lk = x :: r ∧ isDig x := by
    cases ds with
    | nil => exact ⟨c, Lk, rfl, hc⟩
    | cons x r => exact ⟨x, r ++ c :: Lk, rfl, hd x (by simp)⟩
  obtain ⟨x, r, e, hx⟩ := hL
  obtain ⟨_, t, _, h3⟩ := (isF_text e hx).1 h
  have key : ∃ m, decDigits t.size = (ds ++ [c]) ++ m ∧ Lk = m ++ 58 :: (t.data.toList ++ R) := by
    have h4 : (ds ++ [c]) ++ Lk = decDigits t.size ++ 58 :: (t.data.toList ++ R) := by rw [← h3]; simp
    have hall : ∀ y ∈ ds ++ [c], isDig y := by
      intro y hy
      rcases List.mem_append.1 hy with hy | hy
      · exact hd y hy
      · rw [List.mem_singleton] at hy; exact hy ▸ hc
    rcases List.append_eq_append_iff.1 h4 with ⟨m, e1, e2⟩ | ⟨m, e1, e2⟩
    · exact ⟨m, e1, e2⟩
    · cases m with
      | nil => exact ⟨[], by simpa using e1.symm, by simpa using e2.symm⟩
      | cons y m =>
        exfalso
        simp only [List.cons_append, List.cons.injEq] at e2
        exact not_dig_58 (e2.1 ▸ hall y (by rw [e1]; simp))
  obtain ⟨m, e1, e2⟩ := key
  have h5 := val_app_le (ds ++ [c]) m
  rw [← e1, val_decDigits] at h5
  have h6 := congrArg List.length e2
  have h7 := ba_len t
  simp only [List.length_append, List.length_cons] at h6
  omega
theorem text_ok {d : Nat} {ds L2 : List UInt8} (hd8 : d ≤ 8) (hne : ds ≠ []) (hd : ∀ c ∈ ds, isDig c) (hz : ds.head? = some 48 → ds = [48]) (t : ByteArray) (R : List UInt8) (hs : t.size = val ds) (hL : L2 = t.data.toList ++ R) : IsF d (ds ++ 58 :: L2) (.mk false t []) R := by
  refine ⟨?_, ?_, ?_⟩
  · rw [Tm.ok]; simp
  · rw [Tm.depth]; simpa using hd8
  · rw [Tm.bytes, hs, decDigits_val ds hne hd hz, hL]; simp
theorem text_zero {d : Nat} {L : List UInt8} (h : ∀ r, L ≠ 58 :: r) (T : Tm) (R : List UInt8) : ¬ IsF d (48 :: L) T R := fun hT => by
  obtain ⟨_, t, _, e⟩ := (isF_text rfl (by decide : isDig 48)).1 hT
  cases e1 : decDigits t.size with
  | nil => exact absurd e1 (decDigits_ne _)
  | cons c r =>
    rw [e1] at e
    simp only [List.cons_append, List.cons.injEq] at e
    have := decDigits_head (u := t.size) (by rw [e1, ← e.1]; rfl)
    rw [e1] at this
    injection this with _ h2
    rw [h2] at e
    exact h _ e.2
end Go.Proofs.YtgjcblginkdinaaGreatDoor
set_option linter.unusedVariables false
namespace Go.Proofs.YtgjcblginkdinaaGreatDoor
open Go.ChangeShapes Go.WideShapes Go.ChangeAt Go.RowKit

structure Rd (br : Nat) (w : World) (s : ByteArray) (p : Nat) : Prop where
  text : w.cell? ⟨br, 0, none⟩ = some (.string s)
  at_ : w.cell? ⟨br, 1, none⟩ = some (.int .i64 (p : Nat))
  free : w.frozen? ⟨br, 1, none⟩ = false
theorem Rd.below {br : Nat} {w w' : World} {s : ByteArray} {p : Nat} (h : Rd br w s p) (hb : Below w.heap.size w w') : Rd br w' s p :=
  ⟨(hb.cell (p := ⟨br, 0, none⟩) (cell_lt h.text)).trans h.text, (hb.cell (p := ⟨br, 1, none⟩) (cell_lt h.at_)).trans h.at_, (hb.frozen (p := ⟨br, 1, none⟩) (cell_lt h.at_)).trans h.free⟩
theorem Rd.drewN {br n : Nat} {w : World} {s : ByteArray} {p : Nat} (h : Rd br w s p) : Rd br (w.drewN n) s p := ⟨h.text, h.at_, h.free⟩
theorem Rd.set {br : Nat} {w : World} {s : ByteArray} {p : Nat} (h : Rd br w s p) (q : Nat) : Rd br (w.setCell ⟨br, 1, none⟩ (.int .i64 (q : Nat))) s q :=
  ⟨(World.cell?_setCell_other _ _ _ _ (fun e => by injection e with _ e; cases e)).trans h.text, World.cell?_setCell_same _ _ _ h.at_, (World.frozen?_setCell _ _ _ _).trans h.free⟩

def nx (L : List UInt8) : Int := match L with | [] => 0 | c :: _ => (c.toNat : Int)
theorem nx_range (L : List UInt8) : 0 ≤ nx L ∧ nx L < 256 := by
  cases L with
  | nil => exact ⟨Int.le_refl _, by decide⟩
  | cons c r => have := UInt8.toNat_lt c; show 0 ≤ (c.toNat : Int) ∧ (c.toNat : Int) < 256; omega
theorem drop_end (s : ByteArray) : s.data.toList.drop s.size = [] := List.drop_eq_nil_of_le (by rw [ba_len]; exact Nat.le_refl _)
theorem drop_at (s : ByteArray) (p : Nat) (h : p < s.size) : s.data.toList.drop p = s[p] :: s.data.toList.drop (p + 1) := by
  rw [List.drop_eq_getElem_cons (by rw [ba_len]; exact h)]; rfl

set_option maxHeartbeats 1000000 in
theorem next_any (br : Nat) (s : ByteArray) (p : Nat) (w : World) (h : Rd br w s p) (hp : p ≤ s.size) (hs : s.size ≤ 9223372036854775807) :
    Calls Tryz.prog 115 #[.pointer (some ⟨br, 0, none⟩)] w fun e w' => e = .returned (.int .u8 (nx (s.data.toList.drop p))) ∧ ∃ n, w' = w.drewN n := by
  obtain ⟨h1, h2, h3⟩ := h
  by_cases he : p = s.size
  · subst he
    rw [drop_end]
    show Calls _ _ _ _ fun e w' => e = .returned (.int .u8 0) ∧ ∃ n, w' = w.drewN n
    clear h3
    go_enter Tryz.func115, Tryz.ntmps115
    go_wp2_with fail
    go_quiet (fail)
    go_wp2_with fail
    go_ret
    exact ⟨rfl, _, rfl⟩
  · have hlt : p < s.size := by omega
    rw [drop_at s p hlt]
    show Calls _ _ _ _ fun e w' => e = .returned (.int .u8 (s[p].toNat : Int)) ∧ ∃ n, w' = w.drewN n
    have e1 : ((p : Int) == (s.size : Int)) = false := by rw [beq_eq_false_iff_ne]; omega
    have k0 : (0 : Int) ≤ p := by omega
    have k1 : (p : Int) < s.size := by omega
    clear h3 he
    go_enter Tryz.func115, Tryz.ntmps115
    go_wp2_with fail
    go_quiet (fail)
    go_wp2_with fail
    go_quiet (fail)
    go_wp2_with fail
    go_ret
    exact ⟨rfl, _, World.drewN_drewN _ _ _⟩
end Go.Proofs.YtgjcblginkdinaaGreatDoor
