/- A redo beside what a law has: what each call leaves of it. awake: two pages at once. -/
import Derived.Test.YthamfbfeokmhgaaGreatDoorU31
import Derived.Test.YthamfbfeokmhgaaGreatDoorU46
set_option linter.unusedVariables false
set_option linter.unusedSimpArgs false
namespace Go.Proofs.YthamfbfeokmhgaaGreatDoor
open Go.ChangeShapes Go.WideShapes Go.ChangeAt Go.RowKit

def DR (w0 w : World) (p q : Nat) (D : Dk) : Prop := ∃ Z, DX Z w p D ∧ (∀ i, Z i → w0.heap.size ≤ i) ∧ RQ w q p ∧ ¬ Z q ∧ Below w0.heap.size w0 w
section
variable {w0 w w' : World} {p q : Nat} {D : Dk}
theorem DR.dk (h : DR w0 w p q D) : DK w0 w p D := by
  obtain ⟨Z, h1, h2, _, _, h3⟩ := h
  exact ⟨⟨Z, h1, h2⟩, h3⟩
theorem DR.below (h : DR w0 w p q D) (hb : Below w.heap.size w w') : DR w0 w' p q D := by
  obtain ⟨Z, h1, h2, h3, h4, h5⟩ := h
  exact ⟨Z, h1.below hb, h2, h3.below hb, h4, h5.trans (hb.mono h5.size)⟩
theorem DR.bel (h : DR w0 w p q D) : Below w0.heap.size w0 w := by
  obtain ⟨Z, h1, h2, h3, h4, h5⟩ := h
  exact h5
theorem DK.bel (h : DK w0 w p D) : Below w0.heap.size w0 w := h.2
theorem DR.ok (h : DR w0 w p q D) : D.Ok := h.dk.ok
theorem DR.post {D' : Dk} (Z : Nat → Prop) (h1 : ∀ i, Z i → w0.heap.size ≤ i) (h2 : RQ w q p) (h3 : ¬ Z q) (h4 : Below w0.heap.size w0 w) (h : DPost Z w p D' w') : DR w0 w' p q D' := by
  obtain ⟨Z', k1, k2, k3⟩ := h
  refine ⟨Z', k1, fun i hi => ?_, h2.off k2 h3, fun e => ?_, h4.trans (k2.below h1 h4.size)⟩
  · rcases k3 i hi with e | e
    · exact h1 i e
    · exact Nat.le_trans h4.size e
  · rcases k3 q e with e | e
    · exact h3 e
    · have := h2.1; omega
theorem DR.fuel (h : DR w0 w p q D) (n : Int) (hn : n ≤ 9223372036854775807) : Calls Tryz.prog 15 #[.pointer (some ⟨p, 0, none⟩), .int .i64 n] w fun e w' => e = .returned (.tuple #[]) ∧ DR w0 w' p q (fuelD D n) := by
  obtain ⟨Z, ⟨bs, bh, v, h1⟩, h2, h3, h4, h5⟩ := h
  exact (sfuel_any w n h1 hn).mono fun e w' ⟨a, b, c⟩ => ⟨a, DR.post Z h2 h3 h4 h5 ⟨Z, ⟨bs, bh, v, b⟩, c, fun i hi => .inl hi⟩⟩
theorem DR.fall (h : DR w0 w p q D) (ks : List Bool) (kv : Value) (hl : D.pend.length ≤ 1000000) (hk : RB w kv ks) (hz : ks ≠ [] → ∀ b o n c, kv = .slice (some ⟨b, o, none⟩) n c → b < w0.heap.size) : Calls Tryz.prog 16 #[.pointer (some ⟨p, 0, none⟩), kv] w fun e w' => e = .returned (.tuple #[]) ∧ DR w0 w' p q (fallD (fun j => ks.getD j false) D) := by
  obtain ⟨Z, h1, h2, h3, h4, h5⟩ := h
  exact (sfall_any ks kv w h1 hl hk (fun hne b o n c e hb => by have := hz hne b o n c e; have := h2 b hb; omega)).mono fun e w' ⟨a, b⟩ => ⟨a, DR.post Z h2 h3 h4 h5 b⟩
theorem DR.read (h : DR w0 w p q D) (i : Int) : Calls Tryz.prog 18 #[.pointer (some ⟨q, 0, none⟩), .int .i64 i] w fun e w' => e = .returned (.tuple #[.string (preadD D i).1, errS (preadD D i).2]) ∧ DR w0 w' p q D := by
  have h0 := h
  obtain ⟨Z, h1, h2, h3, h4, h5⟩ := h
  exact (pread_any i w h3 h1).mono fun e w' ⟨a, b⟩ => ⟨a, h0.below b⟩
theorem DR.readB (h : DR w0 w p q D) (i : Int) : Calls Tryz.prog 18 #[.pointer (some ⟨q, 0, none⟩), .int .i64 i] w fun e w' => e = .returned (.tuple #[.string (preadD D i).1, errS (preadD D i).2]) ∧ Below w.heap.size w w' := by
  obtain ⟨Z, h1, h2, h3, h4, h5⟩ := h
  exact pread_any i w h3 h1
theorem DR.pages (h : DR w0 w p q D) : Calls Tryz.prog 20 #[.pointer (some ⟨q, 0, none⟩)] w fun e w' => e = .returned (.int .i64 ((D.sure.length - 64 : Nat) : Int)) ∧ w' = w := by
  obtain ⟨Z, h1, h2, h3, h4, h5⟩ := h
  exact rpages_any w h3 h1
theorem DR.commit_no (h : DR w0 w p q D) (v : Value) (r : RawP) (k : Int) (hl : PgR w v r) (hl9 : r.length ≤ 1000000) (hk : (¬ okR (D.sure.length - 64) r ∧ k = 1) ∨ (okR (D.sure.length - 64) r ∧ 63 < r.length ∧ k = 2) ∨ (r = [] ∧ k = 0)) :
    Calls Tryz.prog 14 #[.pointer (some ⟨q, 0, none⟩), v] w fun e w' => e = .returned (errS k) ∧ DR w0 w' p q D := by
  have h0 := h
  obtain ⟨Z, h1, h2, h3, h4, h5⟩ := h
  exact (Go.Proofs.YthamfbfeokmhgaaGreatDoor.commit_no v r k w h3 h1 hl hl9 hk).mono fun e w' ⟨a, b⟩ => ⟨a, h0.below b⟩
theorem DR.commit {W : World} (h : DR w0 w p q D) (hb : Below w.heap.size w W) (v : Value) (l : Pgs) (hl : PgR W v (ofP l)) (hv : ∀ b o n c, v = .slice (some ⟨b, o, none⟩) n c → b < w0.heap.size ∨ w.heap.size ≤ b) (hn1 : 1 ≤ l.length) (hn : l.length ≤ 63) (hg : goodP (D.sure.length - 64) l) (hp : D.pend.length ≤ 800000) (ht : HasTab w0) (hk : HasK w0) :
    Calls Tryz.prog 14 #[.pointer (some ⟨q, 0, none⟩), v] W fun e w' => e = .returned (errS (runD D (commitBs l)).2) ∧ DR w0 w' p q (runD D (commitBs l)).1 := by
  obtain ⟨Z, h1, h2, h3, h4, h5⟩ := h
  have hB := h5.trans (hb.mono h5.size)
  exact (commit_run v l W (h3.below hb) h4 (h1.below hb) hl (fun b o n c e hz => by have := hv b o n c e; have := h2 b hz; have := h1.zlt b hz; omega) hn1 hn hg hp (ht.below hB) (hk.below hB)).mono fun e w' ⟨a, b⟩ => ⟨a, DR.post Z h2 (h3.below hb) h4 hB b⟩
theorem settle_done {l m : Pgs} {P : Nat → ByteArray} (ho : D.off = false) (hp : D.pend = []) (hS : 65 ≤ D.sure.length) (h : Armed D.sure l P) (hm : sameP l m) (hs : ∀ p ∈ m, p.2.size ≤ 512) (hf : D.fuel < 0) : (runD D (settleBs m)).2 = 0 ∧ (runD D (settleBs m)).1.fuel < 0 := by
  rw [run_on _ D ho hp (fun b hb => by
    simp only [settleBs, List.mem_cons, List.not_mem_nil, or_false] at hb
    rcases hb with rfl | rfl
    · exact good_pag h.good hm hs
    · exact good_clear (by omega)) (.inl hf)]
  refine ⟨rfl, ?_⟩
  show lessF D.fuel _ < 0
  unfold lessF
  rw [if_pos hf]; exact hf
def OpenP (w0 : World) (p : Nat) (D : Dk) (P : Nat → ByteArray) (e : Ending) (w' : World) : Prop :=
  ∃ D', D'.sure.length = D.sure.length ∧ D'.pend.length ≤ 63 ∧ ((∃ q, e = .returned (.tuple #[.pointer (some ⟨q, 0, none⟩), .nilIface]) ∧ DR w0 w' p q D' ∧ D'.off = false ∧ D'.pend = [] ∧ Clean D'.sure P ∧ (D.fuel < 0 → D'.fuel < 0)) ∨
    (0 ≤ D.fuel ∧ e = .returned (.tuple #[.pointer none, errS 20]) ∧ DK w0 w' p D' ∧ D'.off = true ∧ ∀ kp, StR (sk kp D'.sure D'.pend D'.pend.length) P))
theorem shown_nil (hp : D.pend = []) : D.shown = D.sure := by
  unfold Dk.shown
  rw [hp]; rfl
theorem DK.open_ {P : Nat → ByteArray} (h : DK w0 w p D) (ho : D.off = false) (hp : D.pend = []) (hS : 65 ≤ D.sure.length) (hst : StR D.sure P) (hv : HasSents w0) (ht : HasTab w0) (hk : HasK w0) :
    Calls Tryz.prog 8 #[.pointer (some ⟨p, 0, none⟩)] w (OpenP w0 p D P) := by
  have hok := h.ok
  obtain ⟨⟨Z, h1, h2⟩, h3⟩ := h
  have hsh := shown_nil hp
  have fin : ∀ {q : Nat} {E : Dk} {w' : World}, OpP Z w p q E w' → DR w0 w' p q E := fun ⟨Z', k1, k2, k3, k4, k5, k6⟩ =>
    ⟨Z', k1, fun i hi => (k3 i hi).elim (h2 i) (fun e => Nat.le_trans h3.size e), k4, k5, h3.trans (k2.below h2 h3.size)⟩
  rcases hst with hc | ⟨l, ha⟩
  · refine (open_clean w h1 ho hS (by rw [hsh]; exact hc.1)).mono fun e w' ⟨q, he, hop⟩ => ⟨D, rfl, by rw [hp]; exact Nat.zero_le _, .inl ⟨q, he, fin hop, ho, hp, hc, fun h => h⟩⟩
  · have hss : ∀ p ∈ l, p.2.size ≤ 512 := fun p hp => (ha.good.1 p hp).2
    have hsf : ∀ p ∈ fullP l, p.2.size ≤ 512 := fun p hp => ((fullP_good ha.good).1 p hp).2
    have hleft := settle_left ho hp hS ha (fullP_same hss) hsf
    have hdone := settle_done (D := D) ho hp hS ha (fullP_same hss) hsf
    refine (open_armed l w h1 ho hS (by rw [hsh]; exact ha.head) (by rw [hsh]; exact ha.log) ha.good ha.n1 ha.n2 (by rw [hp]; exact Nat.zero_le _) (hv.below h3) (ht.below h3) (hk.below h3)).mono fun e w' hc => ?_
    obtain ⟨hl1, hl2, hl3⟩ := hleft
    refine ⟨_, hl1, hl2, ?_⟩
    rcases hc with ⟨hz, q, he, hop⟩ | ⟨hz, he, hpo⟩
    · rcases hl3 with ⟨_, k1, k2, k3⟩ | ⟨k0, _⟩
      · exact .inl ⟨q, he, fin hop, k1, k2, k3, fun hf => (hdone hf).2⟩
      · rw [hz] at k0; cases k0
    · rcases hl3 with ⟨k0, _⟩ | ⟨k0, k1, k2⟩
      · exact absurd k0 hz
      · refine .inr ⟨?_, by rw [he, k0], DK.post h2 h3 hpo, k1, fun kp => ?_⟩
        · rcases Int.lt_or_le D.fuel 0 with h | h
          · exact absurd (hdone h).1 hz
          · exact h
        · obtain ⟨R, rfl, hR⟩ := k2 kp
          exact hR
end
theorem pread_clean {D : Dk} {P : Nat → ByteArray} (ho : D.off = false) (hp : D.pend = []) (hc : Clean D.sure P) (i : Int) : preadD D i = if 0 ≤ i ∧ i < ((D.sure.length - 64 : Nat) : Int) then (P i.toNat, 0) else (⟨#[]⟩, 1) := by
  unfold preadD
  rw [if_neg (by rw [ho]; decide)]
  split
  · rename_i h
    rw [readD, if_neg (by rw [ho]; decide), if_neg (by omega), shown_nil hp, ← hc.2 i.toNat (by omega)]
    have : (64 + i).toNat = 64 + i.toNat := by omega
    rw [this]; rfl
  · rfl
end Go.Proofs.YthamfbfeokmhgaaGreatDoor
set_option linter.unusedVariables false
set_option linter.unusedSimpArgs false
namespace Go.Proofs.YthamfbfeokmhgaaGreatDoor
open Go.ChangeShapes Go.WideShapes Go.ChangeAt Go.RowKit

def P0 : Nat → ByteArray := fun _ => fullB ByteArray.empty
theorem new_clean (n : Nat) : Clean (newD n).sure P0 := by
  have hg : ∀ i, (newD n).sure.getD i ByteArray.empty = ByteArray.empty := fun i => by
    show (List.replicate n ByteArray.empty).getD i ByteArray.empty = _
    rw [List.getD_eq_getElem?_getD, List.getElem?_replicate]
    split <;> rfl
  exact ⟨hg 0, fun j _ => by unfold pgS; rw [hg]; rfl⟩
structure Env13 (w : World) : Prop where
  sents : HasSents w
  tab : HasTab w
  cubes : HasK w
theorem DK.open_new {w w1 : World} {p n : Nat} (h : DK w w1 p (newD n)) (h1 : 65 ≤ n) (he : Env13 w) : Calls Tryz.prog 8 #[.pointer (some ⟨p, 0, none⟩)] w1 fun e w' => ∃ q D', e = .returned (.tuple #[.pointer (some ⟨q, 0, none⟩), .nilIface]) ∧ DR w w' p q D' ∧ D'.off = false ∧ D'.pend = [] ∧ Clean D'.sure P0 ∧ D'.fuel < 0 ∧ D'.sure.length = n := by
  have hl : (newD n).sure.length = n := by show (List.replicate _ _).length = n; simp
  refine (h.open_ rfl rfl (by rw [hl]; exact h1) (.inl (new_clean n)) he.sents he.tab he.cubes).mono fun e w' ⟨D', k1, k2, k3⟩ => ?_
  rcases k3 with ⟨q, a, b, c, d, e, f⟩ | ⟨hf, _⟩
  · exact ⟨q, D', a, b, c, d, e, f (by show (-1 : Int) < 0; omega), by rw [k1, hl]⟩
  · have : (0 : Int) ≤ -1 := hf
    omega
theorem DR.reopen {w w1 : World} {p q : Nat} {D : Dk} {P : Nat → ByteArray} (h : DR w w1 p q D) (kp : Nat → Bool) (E : Dk) (hE : E = fallD kp D) (hk : DK w w1 p E) (hS : 65 ≤ D.sure.length) (hst : StR (sk kp D.sure D.pend D.pend.length) P) (he : Env13 w) : Calls Tryz.prog 8 #[.pointer (some ⟨p, 0, none⟩)] w1 fun e w' => ∃ q D', e = .returned (.tuple #[.pointer (some ⟨q, 0, none⟩), .nilIface]) ∧ DR w w' p q D' ∧ D'.off = false ∧ D'.pend = [] ∧ Clean D'.sure P ∧ D'.fuel < 0 ∧ D'.sure.length = D.sure.length := by
  subst hE
  have hl : (fallD kp D).sure.length = D.sure.length := sk_len _ _ _ _
  refine (hk.open_ rfl rfl (by rw [hl]; exact hS) hst he.sents he.tab he.cubes).mono fun e w' ⟨D', k1, k2, k3⟩ => ?_
  rcases k3 with ⟨q, a, b, c, d, e, f⟩ | ⟨hf, _⟩
  · exact ⟨q, D', a, b, c, d, e, f (by show (-1 : Int) < 0; omega), by rw [k1, hl]⟩
  · have : (0 : Int) ≤ -1 := hf
    omega
abbrev bA : ByteArray := ⟨#[97]⟩
abbrev bB : ByteArray := ⟨#[98]⟩
def awL : Pgs := [(2, bA), (5, bB)]
theorem awL_good : goodP 16 awL := by
  refine ⟨fun p hp => ?_, by decide⟩
  simp only [awL, List.mem_cons, List.not_mem_nil, or_false] at hp
  rcases hp with rfl | rfl
  · exact ⟨by decide, by decide⟩
  · exact ⟨by decide, by decide⟩
theorem awL_five : updP P0 awL 5 = fullB bB := rfl
theorem awL_head : (headB awL).size ≤ 512 := headB_size (fun p hp => by have := (awL_good.1 p hp).1; omega) (by decide)
set_option maxHeartbeats 1000000 in
set_option maxRecDepth 100000 in
theorem rawake_any (w : World) (he : Env13 w) : Calls Tryz.prog 5 #[] w fun e w' => e = .returned (.bool true) ∧ Below w.heap.size w w' := by
  have N := Lib.hid (knew 80 w (by omega) (by omega))
  have HE := Lib.hid he
  obtain ⟨fb, hfb⟩ : ∃ fb, fb = fullB bB := ⟨_, rfl⟩
  have sb : fb.size = 512 := by rw [hfb]; rfl
  have ib : ∀ W : World, (Instr.index 9 (.string fb) (.int .i64 0)).run Tryz.prog W = .ok (.int .u8 98) W := fun W => by rw [hfb]; kernel_rfl
  have HFB := Lib.hid hfb
  clear he hfb
  go_enter Tryz.func5, Tryz.ntmps5
  go_wp2_with fail
  refine N.out.mono ?_
  rintro e w1 ⟨p, rfl, hk⟩
  have HO := Lib.hid (hk.open_new (by omega) HE.out)
  clear hk
  go_wp2_with fail
  refine HO.out.mono ?_
  rintro e w2 ⟨q, D, rfl, hd, ho, hp, hc, hf, hl⟩
  obtain ⟨w3, hw3⟩ : ∃ w3, w3 = w2.alloc (.cells #[.int .i64 2, .string bA, .int .i64 5, .string bB] 49) := ⟨_, rfl⟩
  have hb3 : Below w2.heap.size w2 w3 := by rw [hw3]; exact (Below.refl _ _).alloc (Nat.le_refl _) _
  have hpr : PgR w3 (.slice (some ⟨w2.heap.size, 0, none⟩) 2 2) (ofP awL) := .inr ⟨by simp [ofP, awL], w2.heap.size, 0, 2, rfl, Nat.le_refl _, by unfold maxLen; omega, by rw [hw3]; simp, fun j x hx => by
    rw [hw3, World.cell?_alloc_at _ _ _ _ rfl, World.cell?_alloc_at _ _ _ _ rfl]
    match j, hx with
    | 0, hx => cases hx; exact ⟨rfl, rfl⟩
    | 1, hx => cases hx; exact ⟨rfl, rfl⟩⟩
  have hg : goodP (D.sure.length - 64) awL := by rw [hl]; exact awL_good
  have hcm := hd.commit hb3 (.slice (some ⟨w2.heap.size, 0, none⟩) 2 2) awL hpr (fun b o n c e => by
    injection e with e _ _
    injection e with e
    injection e with e
    right; omega) (by decide) (by decide) hg (by rw [hp]; exact Nat.zero_le _) HE.out.tab HE.out.cubes
  have hd0 := commit_done ho hp (by omega) hg (by decide) awL_head (.inl hf)
  have hl0 := commit_left ho hp (by omega) hc hg (by decide) (by decide) awL_head hd.ok.f1
  rw [hd0] at hcm
  obtain ⟨x, hx⟩ : ∃ x, x = (runD D (commitBs awL)).1 := ⟨_, rfl⟩
  unfold Left at hl0
  rw [hd0] at hl0
  rw [← hx] at hcm hl0
  simp only [errS_zero] at hcm
  obtain ⟨l1, l2, l3⟩ := hl0
  obtain ⟨_, l4, l5, l6⟩ : (0 : Int) = 0 ∧ x.off = false ∧ x.pend = [] ∧ Clean x.sure (updP P0 awL) := l3.resolve_right (fun h => by cases h.1)
  have HC := Lib.hid hcm
  have HW3 := Lib.hid hw3
  clear hd ho hp hc hf hb3 hpr hg hcm hd0 l3 hx hw3
  go_wp2_with fail
  rw [← HW3.out]
  refine HC.out.mono ?_
  rintro e w4 ⟨rfl, hd4⟩
  have HF := Lib.hid (hd4.fall [] (.slice none 0 0) (by rw [l5]; exact Nat.zero_le _) (RB.nil _) (fun h => absurd rfl h))
  clear hd4
  go_wp2_with fail
  refine HF.out.mono ?_
  rintro e w5 ⟨rfl, hd5⟩
  have HO2 := Lib.hid (hd5.dk.open_ (P := updP P0 awL) rfl rfl (by show 65 ≤ (sk _ _ _ _).length; rw [sk_len]; omega) (by
    show StR (sk _ x.sure x.pend x.pend.length) _
    rw [l5]; exact .inl l6) HE.out.sents HE.out.tab HE.out.cubes)
  clear hd5
  go_wp2_with fail
  refine HO2.out.mono ?_
  rintro e w6 ⟨D6, k1, k2, k3⟩
  have hl6 : D6.sure.length = 80 := by
    rw [k1]; show (sk _ _ _ _).length = 80; rw [sk_len]; omega
  rcases k3 with ⟨q6, rfl, hd6, ho6, hp6, hc6, _⟩ | ⟨hf6, _⟩
  · have hr := hd6.read 5
    rw [pread_clean ho6 hp6 hc6, if_pos (by rw [hl6]; decide)] at hr
    have h5 : updP P0 awL (5 : Int).toNat = fb := by rw [HFB.out]; rfl
    rw [h5] at hr
    simp only [errS_zero] at hr
    have HR := Lib.hid hr
    clear hr hd6 ho6 hp6 hc6 k1 k2 h5
    go_wp2_with fail
    refine HR.out.mono ?_
    rintro e w7 ⟨rfl, hd7⟩
    have hpg := hd7.pages
    rw [hl6] at hpg
    have HPG := Lib.hid hpg
    have HB7 := Lib.hid hd7.bel
    clear hpg hd7
    go_wp2_with (first | (rw [ib]) | fail)
    refine HPG.out.mono ?_
    rintro e w8 ⟨rfl, rfl⟩
    go_wp2_with fail
    go_ret
    exact ⟨rfl, HB7.out⟩
  · have : (0 : Int) ≤ -1 := hf6
    omega
end Go.Proofs.YthamfbfeokmhgaaGreatDoor
