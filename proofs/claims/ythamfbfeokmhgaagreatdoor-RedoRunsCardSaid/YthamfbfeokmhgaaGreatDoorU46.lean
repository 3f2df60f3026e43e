/- Commit. Open. -/
import Derived.Test.YthamfbfeokmhgaaGreatDoorU36
import Derived.Test.YthamfbfeokmhgaaGreatDoorU43
import Derived.Test.YthamfbfeokmhgaaGreatDoorU45
set_option linter.unusedVariables false
set_option linter.unusedSimpArgs false
namespace Go.Proofs.YthamfbfeokmhgaaGreatDoor
open Go.ChangeShapes Go.WideShapes Go.ChangeAt Go.RowKit

theorem write_len (D : Dk) (i : Int) (s : ByteArray) : (writeD D i s).1.sure.length = D.sure.length := by
  rw [writeD]
  split
  · rfl
  · split
    · rfl
    · split <;> rfl
theorem flush_len (D : Dk) : (flushD D).1.sure.length = D.sure.length := by
  rw [flushD]
  split
  · rfl
  · split
    · rfl
    · exact D.shown_len
theorem put_len : ∀ (b : Pnd) (D : Dk), (putD D b).1.sure.length = D.sure.length
  | [], D => flush_len D
  | q :: r, D => by
    rw [putD]
    split
    · rw [put_len r, write_len]
    · exact write_len _ _ _
theorem logB_get : ∀ {i j : Nat} {l : Pgs} {p : Nat × ByteArray}, l[j]? = some p → (logB i l)[j]? = some (i + j, p.2)
  | i, j, [], p, h => by simp at h
  | i, 0, x :: r, p, h => by
    simp at h; subst h
    rw [logB]; simp
  | i, j + 1, x :: r, p, h => by
    have h' : r[j]? = some p := by simpa using h
    have := logB_get (i := i + 1) h'
    rw [logB]
    rw [show i + (j + 1) = i + 1 + j by omega]
    simpa using this
theorem commit_split (D : Dk) (l : Pgs) : runD D (commitBs l) = if (putD D (logB 1 l)).2 = 0 then (if (putD (putD D (logB 1 l)).1 [(0, headB l)]).2 = 0 then runD (putD (putD D (logB 1 l)).1 [(0, headB l)]).1 (settleBs l) else putD (putD D (logB 1 l)).1 [(0, headB l)]) else putD D (logB 1 l) := rfl
theorem commit_nil (v : Value) (w : World) : Calls Tryz.prog 14 #[.pointer none, v] w fun e w' => e = .returned (errS 20) ∧ w' = w := by
  go_enter Tryz.func14, Tryz.ntmps14
  go_wp2_with fail
  go_ret
  exact ⟨rfl, rfl⟩
set_option maxHeartbeats 1000000 in
theorem commit_no {Z : Nat → Prop} {q p : Nat} {D : Dk} (v : Value) (r : RawP) (k : Int) (w : World) (hq : RQ w q p) (h : DX Z w p D) (hl : PgR w v r) (hl9 : r.length ≤ 1000000) (hk : (¬ okR (D.sure.length - 64) r ∧ k = 1) ∨ (okR (D.sure.length - 64) r ∧ 63 < r.length ∧ k = 2) ∨ (r = [] ∧ k = 0)) :
    Calls Tryz.prog 14 #[.pointer (some ⟨q, 0, none⟩), v] w fun e w' => e = .returned (errS k) ∧ Below w.heap.size w w' := by
  have HR := Lib.hid (rright_any v r w hq h hl hl9)
  obtain ⟨a, c, rfl⟩ := hl.form
  rcases hk with ⟨h1, rfl⟩ | ⟨h1, h2, rfl⟩ | ⟨rfl, rfl⟩
  · rw [decide_eq_false h1] at HR
    clear h1 hl hl9
    go_enter Tryz.func14, Tryz.ntmps14
    go_wp2_with fail
    refine HR.out.mono ?_
    rintro e w1 ⟨rfl, hb⟩
    have HB := Lib.hid hb
    clear hb
    go_wp2_with fail
    go_ret
    exact ⟨rfl, HB.out⟩
  · rw [decide_eq_true h1] at HR
    obtain ⟨m, hm⟩ : ∃ m, m = r.length := ⟨_, rfl⟩
    rw [← hm] at HR h2 ⊢
    have h2I : (63 : Int) < (m : Int) := by omega
    clear h1 hl hl9 hm
    go_enter Tryz.func14, Tryz.ntmps14
    go_wp2_with fail
    refine HR.out.mono ?_
    rintro e w1 ⟨rfl, hb⟩
    have HB := Lib.hid hb
    clear hb
    go_wp2_with fail
    go_ret
    exact ⟨rfl, HB.out⟩
  · have h1 : okR (D.sure.length - 64) [] := okR_nil _
    rw [decide_eq_true h1] at HR
    clear h1 hl hl9
    simp only [List.length_nil] at HR ⊢
    go_enter Tryz.func14, Tryz.ntmps14
    go_wp2_with fail
    refine HR.out.mono ?_
    rintro e w1 ⟨rfl, hb⟩
    have HB := Lib.hid hb
    clear hb
    go_wp2_with fail
    go_ret
    exact ⟨rfl, HB.out⟩
set_option maxHeartbeats 2000000 in
set_option maxRecDepth 100000 in
theorem commit_run {Z : Nat → Prop} {q p : Nat} {D : Dk} (v : Value) (l : Pgs) (w : World) (hq : RQ w q p) (hqz : ¬ Z q) (h : DX Z w p D) (hl : PgR w v (ofP l)) (hlz : PgZ Z v) (hn1 : 1 ≤ l.length) (hn : l.length ≤ 63) (hg : goodP (D.sure.length - 64) l) (hp : D.pend.length ≤ 800000) (ht : HasTab w) (hk : HasK w) :
    Calls Tryz.prog 14 #[.pointer (some ⟨q, 0, none⟩), v] w fun e w' => e = .returned (errS (runD D (commitBs l)).2) ∧ DPost Z w p (runD D (commitBs l)).1 w' := by
  have n2 := h.ok.n2
  have hne : l ≠ [] := fun e => by rw [e] at hn1; simp at hn1
  have hone : ofP l ≠ [] := fun e => hne (by simpa [ofP] using e)
  have HR := Lib.hid (rright_any v (ofP l) w hq h hl (by rw [ofP_len]; omega))
  rw [decide_eq_true (okR_good.2 hg)] at HR
  have hg5 : ∀ p ∈ l, p.1 < 5000 ∧ p.2.size ≤ 512 := fun p hp => ⟨by have := (hg.1 p hp).1; omega, (hg.1 p hp).2⟩
  have hhs : (headB l).size ≤ 512 := headB_size (fun p hp => by have := (hg5 p hp).1; omega) hn
  have HH : Hid (∀ W, Below w.heap.size w W → Calls Tryz.prog 28 #[v] W fun e w' => e = .returned (.tuple #[.string (headB l), .nilIface]) ∧ Below W.heap.size W w') := Lib.hid (fun W hW => headOf_any l v W (hl.below hW) hg5 hn1 hn (ht.below hW) (hk.below hW))
  have HP : Hid (∀ W, Below w.heap.size w W → Calls Tryz.prog 29 #[.pointer (some ⟨q, 0, none⟩), v, .func (.func 30) #[] #[]] W fun e w' => e = .returned (errS (putD D (logB 1 l)).2) ∧ DPost Z w p (putD D (logB 1 l)).1 w') := Lib.hid (fun W hW => by
    refine (putA_any v (ofP l) (logB 1 l) (fun j => 1 + j) W (hq.below hW) hqz (h.below hW) (hl.below hW) (fun _ => hlz) (by rw [ofP_len]; omega) (by rw [ofP_len]; omega) (fun x hx => by obtain ⟨y, hy, rfl⟩ := ofP_mem hx; exact (hg5 y hy).2) (by rw [logB_len, ofP_len]) (fun j x hx => by obtain ⟨y, hy, rfl⟩ := ofP_inv hx; exact logB_get hy) (fun W' _ j hj => ?_)).mono fun e w' ⟨a, b⟩ => ⟨a, DPost.step (Off.of_below hW) (fun i hi => .inl hi) b⟩
    rw [ofP_len] at hj
    exact (commit1_any j W' (by omega)).mono fun e w' ⟨a, b⟩ => ⟨by rw [a]; simp, b⟩)
  have hlb : ∀ b ∈ [()], True := fun _ _ => trivial
  have HSE : Hid (∀ E wr, DPost Z w p E wr → E.sure.length = D.sure.length → E.pend.length ≤ 900000 → Calls Tryz.prog 24 #[.pointer (some ⟨q, 0, none⟩), v] wr fun e w' => e = .returned (errS (runD E (settleBs l)).2) ∧ DPost Z w p (runD E (settleBs l)).1 w') := Lib.hid (fun E wr hE hEl hEp =>
    settle_any v l w hq hqz hE (hl.off hE.off hlz) (fun _ Z' hz' _ b' o' n' c' e' hzz => (hz' b' hzz).elim (hlz b' o' n' c' e') (fun hge => by have := hl.lt hone e'; omega)) (by omega) (by rw [hEl]; exact hg) hEp)
  have HHD : Hid (∀ E wr, DPost Z w p E wr → E.pend.length ≤ 950000 → Calls Tryz.prog 31 #[.pointer (some ⟨q, 0, none⟩), .string (headB l)] wr fun e w' => e = .returned (errS (putD E [(0, headB l)]).2) ∧ DPost Z w p (putD E [(0, headB l)]).1 w') := Lib.hid (fun E wr hE hEp => putHead_any (headB l) w hq hqz hE hEp (by omega))
  have HN1 := Lib.hid (put_pend (logB 1 l) (D := D))
  rw [logB_len] at HN1
  have HN2 := Lib.hid (fun E : Dk => put_pend [(0, headB l)] (D := E))
  have HL1 := Lib.hid (put_len (logB 1 l) D)
  have HL2 := Lib.hid (fun E : Dk => put_len [(0, headB l)] E)
  rw [commit_split]
  obtain ⟨a, c, rfl⟩ := hl.form
  rw [ofP_len] at HR HH HP HSE ⊢
  obtain ⟨m, hm⟩ : ∃ m, m = l.length := ⟨_, rfl⟩
  rw [← hm] at HR HH HP HSE HN1 hn hn1 ⊢
  have hm63 : ¬ (63 : Int) < (m : Int) := by omega
  have hm0 : ((m : Int) == 0) = false := by
    simp; omega
  have hm0' : ¬ (m : Int) = 0 := by omega
  have HP0 : Hid (D.pend.length ≤ 800000) := Lib.hid hp
  clear hne hone hg5 hhs hq hqz h hl hlz hg hp ht hk hm hlb n2
  obtain ⟨A, hA⟩ : ∃ A, A = putD D (logB 1 l) := ⟨_, rfl⟩
  simp only [← hA] at HP HN1 HL1 ⊢
  obtain ⟨E, k⟩ := A
  simp only at HP HN1 HL1 ⊢
  have HHE := Lib.hid (HHD.out E)
  have HN2E := Lib.hid (HN2.out E)
  have HL2E := Lib.hid (HL2.out E)
  obtain ⟨B, hB⟩ : ∃ B, B = putD E [(0, headB l)] := ⟨_, rfl⟩
  simp only [← hB] at HHE HN2E HL2E ⊢
  obtain ⟨F, k2⟩ := B
  simp only at HHE HN2E HL2E ⊢
  have HSF := Lib.hid (HSE.out F)
  obtain ⟨C, hC⟩ : ∃ C, C = runD F (settleBs l) := ⟨_, rfl⟩
  simp only [← hC] at HSF ⊢
  obtain ⟨H, k3⟩ := C
  simp only at HSF ⊢
  clear hA hB hC HHD HN2 HL2 HSE
  by_cases hk : k = 0
  · subst hk
    rw [if_pos rfl]
    simp only [errS_zero] at HP
    by_cases hk2 : k2 = 0
    · subst hk2
      rw [if_pos rfl]
      simp only [errS_zero] at HHE
      go_enter Tryz.func14, Tryz.ntmps14
      go_wp2_with fail
      refine HR.out.mono ?_
      rintro e w1 ⟨rfl, hb1⟩
      have HB1 := Lib.hid hb1
      clear hb1
      go_wp2_with fail
      refine (HH.out _ HB1.out).mono ?_
      rintro e w2 ⟨rfl, hb2⟩
      have HB2 := Lib.hid (HB1.out.trans (hb2.mono HB1.out.size))
      clear hb2
      go_wp2_with fail
      refine (HP.out _ HB2.out).mono ?_
      rintro e w3 ⟨rfl, hd3⟩
      have HD3 := Lib.hid hd3
      clear hd3
      go_wp2_with fail
      refine (HHE.out _ HD3.out (by have := HN1.out; have := HP0.out; omega)).mono ?_
      rintro e w4 ⟨rfl, hd4⟩
      have HD4 := Lib.hid hd4
      clear hd4
      go_wp2_with fail
      refine (HSF.out _ HD4.out (by rw [HL2E.out, HL1.out]) (by have h1 := HN1.out; have h2 := HN2E.out; have := HP0.out; simp only [List.length_singleton] at h2; omega)).mono ?_
      rintro e w5 ⟨rfl, hd5⟩
      have HD5 := Lib.hid hd5
      clear hd5
      go_wp2_with fail
      go_ret
      exact ⟨by simp, HD5.out⟩
    · rw [if_neg hk2]
      simp only [errS_ne hk2] at HHE ⊢
      clear hk2
      go_enter Tryz.func14, Tryz.ntmps14
      go_wp2_with fail
      refine HR.out.mono ?_
      rintro e w1 ⟨rfl, hb1⟩
      have HB1 := Lib.hid hb1
      clear hb1
      go_wp2_with fail
      refine (HH.out _ HB1.out).mono ?_
      rintro e w2 ⟨rfl, hb2⟩
      have HB2 := Lib.hid (HB1.out.trans (hb2.mono HB1.out.size))
      clear hb2
      go_wp2_with fail
      refine (HP.out _ HB2.out).mono ?_
      rintro e w3 ⟨rfl, hd3⟩
      have HD3 := Lib.hid hd3
      clear hd3
      go_wp2_with fail
      refine (HHE.out _ HD3.out (by have := HN1.out; have := HP0.out; omega)).mono ?_
      rintro e w4 ⟨rfl, hd4⟩
      have HD4 := Lib.hid hd4
      clear hd4
      go_wp2_with fail
      go_ret
      exact ⟨by simp, HD4.out⟩
  · rw [if_neg hk]
    simp only [errS_ne hk] at HP ⊢
    clear hk
    go_enter Tryz.func14, Tryz.ntmps14
    go_wp2_with fail
    refine HR.out.mono ?_
    rintro e w1 ⟨rfl, hb1⟩
    have HB1 := Lib.hid hb1
    clear hb1
    go_wp2_with fail
    refine (HH.out _ HB1.out).mono ?_
    rintro e w2 ⟨rfl, hb2⟩
    have HB2 := Lib.hid (HB1.out.trans (hb2.mono HB1.out.size))
    clear hb2
    go_wp2_with fail
    refine (HP.out _ HB2.out).mono ?_
    rintro e w3 ⟨rfl, hd3⟩
    have HD3 := Lib.hid hd3
    clear hd3
    go_wp2_with fail
    go_ret
    exact ⟨by simp, HD3.out⟩
end Go.Proofs.YthamfbfeokmhgaaGreatDoor
set_option linter.unusedVariables false
set_option linter.unusedSimpArgs false
namespace Go.Proofs.YthamfbfeokmhgaaGreatDoor
open Go.ChangeShapes Go.WideShapes Go.ChangeAt Go.RowKit

def OpP (Z : Nat → Prop) (w : World) (p q : Nat) (D : Dk) (w' : World) : Prop := ∃ Z', DX Z' w' p D ∧ Off Z w w' ∧ (∀ i, Z' i → Z i ∨ w.heap.size ≤ i) ∧ RQ w' q p ∧ ¬ Z' q ∧ w.heap.size ≤ q
set_option maxHeartbeats 1000000 in
set_option maxRecDepth 100000 in
theorem open_no {Z : Nat → Prop} {p : Nat} {D : Dk} (k : Int) (w : World) (h : DX Z w p D) (hk : (D.off = true ∧ k = 20) ∨ (D.off = false ∧ D.sure.length ≤ 64 ∧ k = 22)) :
    Calls Tryz.prog 8 #[.pointer (some ⟨p, 0, none⟩)] w fun e w' => e = .returned (.tuple #[.pointer none, errS k]) ∧ Below w.heap.size w w' := by
  have n1 := h.ok.n1
  have HR := Lib.hid (sread_any 0 w h)
  have HS := Lib.hid (fun W (hW : Below w.heap.size w W) => ssize_any W (h.below hW))
  rcases hk with ⟨ho, rfl⟩ | ⟨ho, hn, rfl⟩
  · have e : readD D 0 = (⟨#[]⟩, 20) := by rw [readD, if_pos ho]
    rw [e] at HR
    simp only [errS_ne (show ¬ (20 : Int) = 0 by decide)] at HR ⊢
    clear e ho h n1 HS
    go_enter Tryz.func8, Tryz.ntmps8
    go_wp2_with fail
    refine HR.out.mono ?_
    rintro e w1 ⟨rfl, hb⟩
    have HB := Lib.hid hb
    clear hb
    go_wp2_with fail
    go_ret2
    exact ⟨rfl, HB.out⟩
  · have e : readD D 0 = (fullB (D.shown.getD 0 ByteArray.empty), 0) := by
      rw [readD, if_neg (by rw [ho]; decide), if_neg (by omega)]
      rfl
    rw [e] at HR
    simp only [errS_zero] at HR
    obtain ⟨s, hs⟩ : ∃ s, s = fullB (D.shown.getD 0 ByteArray.empty) := ⟨_, rfl⟩
    rw [← hs] at HR
    obtain ⟨n, hnn⟩ : ∃ n, n = D.sure.length := ⟨_, rfl⟩
    rw [← hnn] at HS hn
    have hnI : (n : Int) ≤ 64 := by omega
    clear e ho h n1 hs hnn
    go_enter Tryz.func8, Tryz.ntmps8
    go_wp2_with fail
    refine HR.out.mono ?_
    rintro e w1 ⟨rfl, hb⟩
    have HB := Lib.hid hb
    clear hb
    go_wp2_with fail
    refine (HS.out _ HB.out).mono ?_
    rintro e w2 ⟨rfl, rfl⟩
    go_wp2_with fail
    go_ret2
    exact ⟨rfl, HB.out⟩
set_option maxHeartbeats 1000000 in
set_option maxRecDepth 100000 in
theorem open_clean {Z : Nat → Prop} {p : Nat} {D : Dk} (w : World) (h : DX Z w p D) (ho : D.off = false) (hS : 65 ≤ D.sure.length) (hd : D.shown.getD 0 ByteArray.empty = ByteArray.empty) :
    Calls Tryz.prog 8 #[.pointer (some ⟨p, 0, none⟩)] w fun e w' => ∃ q, e = .returned (.tuple #[.pointer (some ⟨q, 0, none⟩), .nilIface]) ∧ OpP Z w p q D w' := by
  have n1 := h.ok.n1
  have HR := Lib.hid (sread_any 0 w h)
  have HS := Lib.hid (fun W (hW : Below w.heap.size w W) => ssize_any W (h.below hW))
  have e : readD D 0 = (fullB ByteArray.empty, 0) := by
    rw [readD, if_neg (by rw [ho]; decide), if_neg (by omega)]
    show (fullB (D.shown.getD 0 ByteArray.empty), (0 : Int)) = _
    rw [hd]
  rw [e] at HR
  simp only [errS_zero] at HR
  have HT := Lib.hid (fun q W => todo_nil q W)
  obtain ⟨s, hs⟩ : ∃ s, s = fullB ByteArray.empty := ⟨_, rfl⟩
  rw [← hs] at HR HT
  obtain ⟨n, hnn⟩ : ∃ n, n = D.sure.length := ⟨_, rfl⟩
  rw [← hnn] at HS hS
  have hnI : ¬ (n : Int) ≤ 64 := by omega
  have HF : Hid (∀ w1, Below w.heap.size w w1 → OpP Z w p w1.heap.size D (w1.alloc (.cells #[.pointer (some ⟨p, 0, none⟩)] 61))) := Lib.hid (fun w1 hb => by
    have hb2 := hb.alloc hb.size (.cells #[.pointer (some ⟨p, 0, none⟩)] 61)
    refine ⟨Z, h.below hb2, Off.of_below hb2, fun i hi => .inl hi, ⟨by simp, by rw [World.cell?_alloc_at _ _ _ _ rfl]; rfl⟩, fun e => by have := h.zlt _ e; have := hb.size; omega, hb.size⟩)
  clear e ho h n1 hs hnn hd
  go_enter Tryz.func8, Tryz.ntmps8
  go_wp2_with fail
  refine HR.out.mono ?_
  rintro e w1 ⟨rfl, hb⟩
  have HB := Lib.hid hb
  clear hb
  go_wp2_with fail
  refine (HS.out _ HB.out).mono ?_
  rintro e w2 ⟨rfl, rfl⟩
  go_wp2_with fail
  refine (HT.out _ _).mono ?_
  rintro e w3 ⟨rfl, rfl⟩
  go_wp2_with fail
  go_ret2
  exact ⟨_, rfl, HF.out _ HB.out⟩
set_option maxHeartbeats 2000000 in
set_option maxRecDepth 100000 in
theorem open_armed {Z : Nat → Prop} {p : Nat} {D : Dk} (l : Pgs) (w : World) (h : DX Z w p D) (ho : D.off = false) (hS : 65 ≤ D.sure.length) (hd : D.shown.getD 0 ByteArray.empty = headB l) (hl : LogIs D.shown l) (hg : goodP (D.sure.length - 64) l) (hn1 : 1 ≤ l.length) (hn : l.length ≤ 63) (hp : D.pend.length ≤ 800000) (hv : HasSents w) (ht : HasTab w) (hk : HasK w) :
    Calls Tryz.prog 8 #[.pointer (some ⟨p, 0, none⟩)] w fun e w' =>
      ((runD D (settleBs (fullP l))).2 = 0 ∧ ∃ q, e = .returned (.tuple #[.pointer (some ⟨q, 0, none⟩), .nilIface]) ∧ OpP Z w p q (runD D (settleBs (fullP l))).1 w') ∨
      ((runD D (settleBs (fullP l))).2 ≠ 0 ∧ e = .returned (.tuple #[.pointer none, errS (runD D (settleBs (fullP l))).2]) ∧ DPost Z w p (runD D (settleBs (fullP l))).1 w') := by
  have n1 := h.ok.n1
  have HR := Lib.hid (sread_any 0 w h)
  have HS := Lib.hid (fun W (hW : Below w.heap.size w W) => ssize_any W (h.below hW))
  have e : readD D 0 = (fullB (headB l), 0) := by
    rw [readD, if_neg (by rw [ho]; decide), if_neg (by omega)]
    show (fullB (D.shown.getD 0 ByteArray.empty), (0 : Int)) = _
    rw [hd]
  rw [e] at HR
  simp only [errS_zero] at HR
  have HT : Hid (∀ q W, Below w.heap.size w W → RQ W q p → Calls Tryz.prog 23 #[.pointer (some ⟨q, 0, none⟩), .string (fullB (headB l))] W fun e w' => ∃ v, e = .returned (.tuple #[v, .nilIface]) ∧ Row 2 W.heap.size w' v l.length (pv (fullP l)) ∧ Below W.heap.size W w') := Lib.hid (fun q W hW hq => todo_any l W hq (h.below hW) ho hl hS hg hn1 hn (hv.below hW) (ht.below hW) (hk.below hW))
  have hgf := fullP_good hg
  have hfl := fullP_len l
  have HSE : Hid (∀ q wq wr v, Below w.heap.size w wq → Below wq.heap.size wq wr → RQ wq q p → w.heap.size ≤ q → Row 2 wq.heap.size wr v l.length (pv (fullP l)) → Calls Tryz.prog 24 #[.pointer (some ⟨q, 0, none⟩), v] wr fun e w' => e = .returned (errS (runD D (settleBs (fullP l))).2) ∧ OpP Z w p q (runD D (settleBs (fullP l))).1 w') := Lib.hid (fun q wq wr v hw hqr hq hq0 hr => by
    have hb := hw.trans (hqr.mono hw.size)
    have hqz : ¬ Z q := fun e => by have := h.zlt q e; omega
    have hqr' := hq.below hqr
    have hr2 : Row 2 wq.heap.size wr v (fullP l).length (pv (fullP l)) := by rw [hfl]; exact hr
    refine (settle_any v (fullP l) wr hqr' hqz (DPost.refl (h.below hb)) (pg_reads hr2) (fun hne Z' hz' _ b o n c e hzz => ?_) (by rw [hfl]; omega) hgf (by omega)).mono fun e w' ⟨a, b⟩ => ⟨a, ?_⟩
    · obtain ⟨b', cap, hv', h1, h2, _⟩ := hr.pos (by omega)
      rw [hv'] at e
      injection e with e1 _ _
      injection e1 with e1
      injection e1 with e1
      subst e1
      rcases hz' b' hzz with e | e
      · have := h.zlt b' e; have := hw.size; omega
      · omega
    · obtain ⟨Z1, k1, k2, k3⟩ := b
      refine ⟨Z1, k1, (Off.of_below hb).trans k2, fun i hi => ?_, hqr'.off k2 hqz, fun e => ?_, hq0⟩
      · rcases k3 i hi with e | e
        · exact .inl e
        · exact .inr (Nat.le_trans hb.size e)
      · rcases k3 q e with e | e
        · exact hqz e
        · have := hqr'.1; omega)
  obtain ⟨s, hs⟩ : ∃ s, s = fullB (headB l) := ⟨_, rfl⟩
  rw [← hs] at HR HT
  obtain ⟨n, hnn⟩ : ∃ n, n = D.sure.length := ⟨_, rfl⟩
  rw [← hnn] at HS hS
  have hnI : ¬ (n : Int) ≤ 64 := by omega
  obtain ⟨m, hm⟩ : ∃ m, m = l.length := ⟨_, rfl⟩
  rw [← hm] at HT HSE hn1
  have hmI : (0 : Int) < (m : Int) := by omega
  obtain ⟨A, hA⟩ : ∃ A, A = runD D (settleBs (fullP l)) := ⟨_, rfl⟩
  simp only [← hA] at HSE ⊢
  obtain ⟨E, k⟩ := A
  simp only at HSE ⊢
  clear e ho h n1 hs hnn hd hl hg hn hp hv ht hk hgf hfl hm hA
  have HBX : Hid (∀ w1, Below w.heap.size w w1 → Below w.heap.size w (w1.alloc (.cells #[.pointer (some ⟨p, 0, none⟩)] 61)) ∧ RQ (w1.alloc (.cells #[.pointer (some ⟨p, 0, none⟩)] 61)) w1.heap.size p) := Lib.hid (fun w1 hb => ⟨hb.alloc hb.size _, ⟨by simp, by rw [World.cell?_alloc_at _ _ _ _ rfl]; rfl⟩⟩)
  by_cases hk : k = 0
  · subst hk
    simp only [errS_zero] at HSE
    go_enter Tryz.func8, Tryz.ntmps8
    go_wp2_with fail
    refine HR.out.mono ?_
    rintro e w1 ⟨rfl, hb⟩
    have HB := Lib.hid hb
    clear hb
    go_wp2_with fail
    refine (HS.out _ HB.out).mono ?_
    rintro e w2 ⟨rfl, rfl⟩
    go_wp2_with fail
    obtain ⟨hbx, hrq⟩ := HBX.out _ HB.out
    refine (HT.out _ _ hbx hrq).mono ?_
    rintro e w3 ⟨v, rfl, hr3, hb3⟩
    obtain ⟨va, vc, rfl⟩ := hr3.form
    have HSF := Lib.hid (HSE.out _ _ _ _ hbx hb3 hrq HB.out.size hr3)
    clear hr3 hb3 hbx hrq
    go_wp2_with fail
    refine HSF.out.mono ?_
    rintro e w4 ⟨rfl, hp4⟩
    have HP4 := Lib.hid hp4
    clear hp4
    go_wp2_with fail
    go_ret2
    exact .inl ⟨trivial, _, rfl, HP4.out⟩
  · simp only [errS_ne hk] at HSE ⊢
    have HK := Lib.hid hk
    clear hk
    go_enter Tryz.func8, Tryz.ntmps8
    go_wp2_with fail
    refine HR.out.mono ?_
    rintro e w1 ⟨rfl, hb⟩
    have HB := Lib.hid hb
    clear hb
    go_wp2_with fail
    refine (HS.out _ HB.out).mono ?_
    rintro e w2 ⟨rfl, rfl⟩
    go_wp2_with fail
    obtain ⟨hbx, hrq⟩ := HBX.out _ HB.out
    refine (HT.out _ _ hbx hrq).mono ?_
    rintro e w3 ⟨v, rfl, hr3, hb3⟩
    obtain ⟨va, vc, rfl⟩ := hr3.form
    have HSF := Lib.hid (HSE.out _ _ _ _ hbx hb3 hrq HB.out.size hr3)
    clear hr3 hb3 hbx hrq
    go_wp2_with fail
    refine HSF.out.mono ?_
    rintro e w4 ⟨rfl, hp4⟩
    have HP4 := Lib.hid hp4
    clear hp4
    go_wp2_with fail
    go_ret2
    obtain ⟨Z1, h1, h2, h3, _⟩ := HP4.out
    exact .inr ⟨HK.out, rfl, Z1, h1, h2, h3⟩
end Go.Proofs.YthamfbfeokmhgaaGreatDoor
