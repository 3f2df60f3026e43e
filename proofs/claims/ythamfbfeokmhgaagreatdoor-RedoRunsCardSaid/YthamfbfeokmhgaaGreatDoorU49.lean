/- What the law of the redo keeps from act to act. What the acts of the redo's law do to what the law keeps. -/
import Derived.Test.YthamfbfeokmhgaaGreatDoorU37
import Derived.Test.YthamfbfeokmhgaaGreatDoorU38
import Derived.Test.YthamfbfeokmhgaaGreatDoorU48
set_option linter.unusedVariables false
set_option linter.unusedSimpArgs false
namespace Go.Proofs.YthamfbfeokmhgaaGreatDoor
open Go.ChangeShapes Go.WideShapes Go.ChangeAt Go.RowKit

theorem setP_app : ∀ (S : List ByteArray) (l : Pgs), setP S l = appB S l := fun S l => by
  refine snoc_ind (P := fun l : Pgs => setP S l = appB S l) rfl (fun r x ih => ?_) l
  rw [setP_snoc, ih]
  exact (shown_push S r x).symm
theorem eqP_set {P : Nat → ByteArray} {S : List ByteArray} {l : Pgs} {n : Nat} (h : EqP P S n) (hS : S.length = n) (hg : goodP n l) : EqP (updP P l) (setP S l) n := fun i hi => by
  rw [setP_app]
  rcases page_or l i with ⟨p, hp, rfl⟩ | hno
  · rw [updP_mem hg.2 hp, getDB_some (app_at hg.2 hp (by omega))]
  · rw [updP_not hno, h i hi]
    unfold appB
    rw [getDB_eq (app_miss (i := i) hno)]
def OpenZ (Z : Nat → Prop) (w : World) (p : Nat) (D : Dk) (P : Nat → ByteArray) (e : Ending) (w' : World) : Prop :=
  ∃ D', D'.sure.length = D.sure.length ∧ D'.pend.length ≤ 63 ∧ ((∃ q, e = .returned (.tuple #[.pointer (some ⟨q, 0, none⟩), .nilIface]) ∧ OpP Z w p q D' w' ∧ D'.off = false ∧ D'.pend = [] ∧ Clean D'.sure P) ∨
    (0 ≤ D.fuel ∧ e = .returned (.tuple #[.pointer none, errS 20]) ∧ DPost Z w p D' w' ∧ D'.off = true ∧ ∀ kp, StR (sk kp D'.sure D'.pend D'.pend.length) P))
theorem openZ_any {Z : Nat → Prop} {w : World} {p : Nat} {D : Dk} {P : Nat → ByteArray} (h1 : DX Z w p D) (ho : D.off = false) (hp : D.pend = []) (hS : 65 ≤ D.sure.length) (hst : StR D.sure P) (he : Env13 w) :
    Calls Tryz.prog 8 #[.pointer (some ⟨p, 0, none⟩)] w (OpenZ Z w p D P) := by
  have hsh := shown_nil hp
  rcases hst with hc | ⟨l, ha⟩
  · exact (open_clean w h1 ho hS (by rw [hsh]; exact hc.1)).mono fun e w' ⟨q, he, hop⟩ => ⟨D, rfl, by rw [hp]; exact Nat.zero_le _, .inl ⟨q, he, hop, ho, hp, hc⟩⟩
  · have hss : ∀ p ∈ l, p.2.size ≤ 512 := fun p hp => (ha.good.1 p hp).2
    have hsf : ∀ p ∈ fullP l, p.2.size ≤ 512 := fun p hp => ((fullP_good ha.good).1 p hp).2
    have hleft := settle_left ho hp hS ha (fullP_same hss) hsf
    have hdone := settle_done (D := D) ho hp hS ha (fullP_same hss) hsf
    refine (open_armed l w h1 ho hS (by rw [hsh]; exact ha.head) (by rw [hsh]; exact ha.log) ha.good ha.n1 ha.n2 (by rw [hp]; exact Nat.zero_le _) he.sents he.tab he.cubes).mono fun e w' hc => ?_
    obtain ⟨hl1, hl2, hl3⟩ := hleft
    refine ⟨_, hl1, hl2, ?_⟩
    rcases hc with ⟨hz, q, he, hop⟩ | ⟨hz, he, hpo⟩
    · rcases hl3 with ⟨_, k1, k2, k3⟩ | ⟨k0, _⟩
      · exact .inl ⟨q, he, hop, k1, k2, k3⟩
      · rw [hz] at k0; cases k0
    · rcases hl3 with ⟨k0, _⟩ | ⟨k0, k1, k2⟩
      · exact absurd k0 hz
      · refine .inr ⟨?_, by rw [he, k0], hpo, k1, fun kp => ?_⟩
        · rcases Int.lt_or_le D.fuel 0 with h | h
          · exact absurd (hdone h).1 hz
          · exact h
        · obtain ⟨R, rfl, hR⟩ := k2 kp
          exact hR
abbrev ptrs (ps : List Nat) : List Value := ps.map fun a => .pointer (some ⟨a, 0, none⟩)
def May (B : Nat) (Z : Nat → Prop) (W : World) (mv : Value) (n k : Nat) (Ss : List (List ByteArray)) : Prop :=
  ∃ ps : List Nat, ps.length = Ss.length ∧ Row 1 B W mv Ss.length (ptrs ps) ∧ (∀ b, mv.ownBlock = some b → ¬ Z b) ∧ ∀ (j a : Nat) (S : List ByteArray), ps[j]? = some a → Ss[j]? = some S → ∃ mb, PR W a mb k n S ∧ ¬ Z a ∧ ¬ Z mb ∧ B ≤ a ∧ B ≤ mb
theorem May.off {B : Nat} {Z Z' Y : Nat → Prop} {W W' : World} {mv : Value} {n k : Nat} {Ss : List (List ByteArray)} (h : May B Z W mv n k Ss) (ho : Off Y W W') (hy : ∀ i, i < W.heap.size → ¬ Z i → ¬ Y i ∧ ¬ Z' i) : May B Z' W' mv n k Ss := by
  obtain ⟨ps, h1, h2, h3, h4⟩ := h
  refine ⟨ps, h1, h2.off ho (fun b hb => (hy b (h2.lt b hb).2 (h3 b hb)).1), fun b hb => (hy b (h2.lt b hb).2 (h3 b hb)).2, fun j a S ha hS => ?_⟩
  obtain ⟨mb, hp, ha', hm', hB⟩ := h4 j a S ha hS
  exact ⟨mb, hp.off ho (hy a hp.alt ha').1 (hy mb hp.mp.lt hm').1, (hy a hp.alt ha').2, (hy mb hp.mp.lt hm').2, hB⟩
theorem May.below {B : Nat} {Z : Nat → Prop} {W W' : World} {mv : Value} {n k : Nat} {Ss : List (List ByteArray)} (h : May B Z W mv n k Ss) (hb : Below W.heap.size W W') : May B Z W' mv n k Ss := h.off (Y := fun _ => False) (Off.of_below hb) (fun i _ hz => ⟨fun h => h, hz⟩)
theorem May.more {B : Nat} {Z : Nat → Prop} {W : World} {mv : Value} {n k k' : Nat} {Ss : List (List ByteArray)} (h : May B Z W mv n k Ss) (hk : k ≤ k') : May B Z W mv n k' Ss := by
  obtain ⟨ps, h1, h2, h3, h4⟩ := h
  exact ⟨ps, h1, h2, h3, fun j a S ha hS => by obtain ⟨mb, hp, r⟩ := h4 j a S ha hS; exact ⟨mb, hp.more hk, r⟩⟩
structure LS (w : World) (p n k : Nat) (W : World) (rv mv : Value) (Z : Nat → Prop) (D : Dk) (Ss : List (List ByteArray)) : Prop where
  dx : DX Z W p D
  zb : ∀ i, Z i → w.heap.size ≤ i
  bel : Below w.heap.size w W
  len : D.sure.length = n + 64
  pl : D.pend.length ≤ 63
  may : May w.heap.size Z W mv n k Ss
  red : rv = .pointer none ∨ ∃ q, rv = .pointer (some ⟨q, 0, none⟩) ∧ RQ W q p ∧ ¬ Z q
theorem LS.below {w W W' : World} {p n k : Nat} {rv mv : Value} {Z : Nat → Prop} {D : Dk} {Ss : List (List ByteArray)} (h : LS w p n k W rv mv Z D Ss) (hb : Below W.heap.size W W') : LS w p n k W' rv mv Z D Ss :=
  ⟨h.dx.below hb, h.zb, h.bel.trans (hb.mono h.bel.size), h.len, h.pl, h.may.below hb, h.red.imp (fun e => e) (fun ⟨q, e, h1, h2⟩ => ⟨q, e, h1.below hb, h2⟩)⟩
theorem LS.more {w W : World} {p n k k' : Nat} {rv mv : Value} {Z : Nat → Prop} {D : Dk} {Ss : List (List ByteArray)} (h : LS w p n k W rv mv Z D Ss) (hk : k ≤ k') : LS w p n k' W rv mv Z D Ss := ⟨h.dx, h.zb, h.bel, h.len, h.pl, h.may.more hk, h.red⟩
theorem LS.post {w W W' : World} {p n k : Nat} {rv mv : Value} {Z : Nat → Prop} {D D' : Dk} {Ss : List (List ByteArray)} (h : LS w p n k W rv mv Z D Ss) (hd : DPost Z W p D' W') (hl : D'.sure.length = n + 64) (hp : D'.pend.length ≤ 63) : ∃ Z', LS w p n k W' rv mv Z' D' Ss := by
  obtain ⟨Z', h1, h2, h3⟩ := hd
  have hz : ∀ i, i < W.heap.size → ¬ Z i → ¬ Z' i := fun i hi hz e => (h3 i e).elim hz (fun h => by omega)
  refine ⟨Z', h1, fun i hi => (h3 i hi).elim (h.zb i) (fun e => Nat.le_trans h.bel.size e), h.bel.trans (h2.below h.zb h.bel.size), hl, hp, h.may.off h2 (fun i hi hzi => ⟨hzi, hz i hi hzi⟩), ?_⟩
  rcases h.red with e | ⟨q, e, hq, hqz⟩
  · exact .inl e
  · exact .inr ⟨q, e, hq.off h2 hqz, hz q hq.1 hqz⟩
theorem LS.opened {w W W' : World} {p n k q : Nat} {rv mv : Value} {Z : Nat → Prop} {D D' : Dk} {Ss : List (List ByteArray)} (h : LS w p n k W rv mv Z D Ss) (hd : OpP Z W p q D' W') (hl : D'.sure.length = n + 64) (hp : D'.pend.length ≤ 63) : ∃ Z', LS w p n k W' (.pointer (some ⟨q, 0, none⟩)) mv Z' D' Ss := by
  obtain ⟨Z', h1, h2, h3, h4, h5, h6⟩ := hd
  have hz : ∀ i, i < W.heap.size → ¬ Z i → ¬ Z' i := fun i hi hz e => (h3 i e).elim hz (fun h => by omega)
  exact ⟨Z', h1, fun i hi => (h3 i hi).elim (h.zb i) (fun e => Nat.le_trans h.bel.size e), h.bel.trans (h2.below h.zb h.bel.size), hl, hp, h.may.off h2 (fun i hi hzi => ⟨hzi, hz i hi hzi⟩), .inr ⟨q, rfl, h4, h5⟩⟩
theorem LS.dr {w W : World} {p n k q : Nat} {mv : Value} {Z : Nat → Prop} {D : Dk} {Ss : List (List ByteArray)} (h : LS w p n k W (.pointer (some ⟨q, 0, none⟩)) mv Z D Ss) : DR w W p q D := by
  rcases h.red with e | ⟨q', e, h1, h2⟩
  · cases e
  · injection e with e
    injection e with e
    injection e with e
    subst e
    exact ⟨Z, h.dx, h.zb, h1, h2, h.bel⟩
def ST (n : Nat) (D : Dk) (Ss : List (List ByteArray)) (rv : Value) : Prop :=
  (D.off = false ∧ D.pend = [] ∧ (∃ q, rv = .pointer (some ⟨q, 0, none⟩)) ∧ ∃ S P, Ss = [S] ∧ Clean D.sure P ∧ EqP P S n) ∨
  (D.off = true ∧ 1 ≤ Ss.length ∧ Ss.length ≤ 2 ∧ ∀ kp, ∃ P, StR (sk kp D.sure D.pend D.pend.length) P ∧ ∃ S ∈ Ss, EqP P S n)
theorem ST.fall {n : Nat} {D : Dk} {Ss : List (List ByteArray)} {rv : Value} (h : ST n D Ss rv) (kp : Nat → Bool) : 1 ≤ Ss.length ∧ Ss.length ≤ 2 ∧ ∃ P, StR (sk kp D.sure D.pend D.pend.length) P ∧ ∃ S ∈ Ss, EqP P S n := by
  rcases h with ⟨_, hp, _, S, P, rfl, hc, he⟩ | ⟨_, h1, h2, h3⟩
  · refine ⟨by simp, by simp, P, ?_, S, by simp, he⟩
    rw [hp]; exact .inl hc
  · exact ⟨h1, h2, h3 kp⟩
end Go.Proofs.YthamfbfeokmhgaaGreatDoor
set_option linter.unusedVariables false
set_option linter.unusedSimpArgs false
namespace Go.Proofs.YthamfbfeokmhgaaGreatDoor
open Go.ChangeShapes Go.WideShapes Go.ChangeAt Go.RowKit

theorem pgr_zed {Z : Nat → Prop} {w : World} {v : Value} {l : RawP} (h : PgR w v l) (hn : l ≠ []) (hz : ∀ i, Z i → w.heap.size ≤ i) : PgZ Z v := fun b o n c e hb => by
  have h1 := h.lt hn e
  have h2 := hz b hb
  omega
theorem rb_zed {Z : Nat → Prop} {w : World} {v : Value} {l : List Bool} (h : RB w v l) (hz : ∀ i, Z i → w.heap.size ≤ i) : l ≠ [] → ∀ b o n c, v = .slice (some ⟨b, o, none⟩) n c → ¬ Z b := fun hn b o n c e hb => by
  have h1 := h.lt hn b o n c e
  have h2 := hz b hb
  omega
theorem rcode_ne {n : Nat} {r : RawP} (h : rcode n r ≠ 0) : (¬ okR n r ∧ rcode n r = 1) ∨ (okR n r ∧ 63 < r.length ∧ rcode n r = 2) := by
  unfold rcode at h ⊢
  by_cases ho : okR n r
  · rw [if_pos ho] at h ⊢
    by_cases hl : 63 < r.length
    · rw [if_pos hl]; exact .inr ⟨ho, hl, rfl⟩
    · rw [if_neg hl] at h; exact absurd rfl h
  · rw [if_neg ho]; exact .inl ⟨ho, rfl⟩
theorem rcode_zero {n : Nat} {r : RawP} (h : rcode n r = 0) : r.length ≤ 63 := by
  unfold rcode at h
  by_cases ho : okR n r
  · rw [if_pos ho] at h
    by_cases hl : 63 < r.length
    · rw [if_pos hl] at h; cases h
    · omega
  · rw [if_neg ho] at h; cases h
theorem sfuelP {Z : Nat → Prop} {p : Nat} {D : Dk} (w : World) (n : Int) (h : DX Z w p D) (hn : n ≤ 9223372036854775807) : Calls Tryz.prog 15 #[.pointer (some ⟨p, 0, none⟩), .int .i64 n] w fun e w' => e = .returned (.tuple #[]) ∧ DPost Z w p (fuelD D n) w' := by
  obtain ⟨bs, bh, v, hd⟩ := h
  exact (sfuel_any w n hd hn).mono fun e w' ⟨he, h1, h2⟩ => ⟨he, Z, ⟨_, _, _, h1⟩, h2, fun i hi => .inl hi⟩
theorem LS.postK {w W W' : World} {p n k : Nat} {rv mv : Value} {Z : Nat → Prop} {D D' : Dk} {Ss : List (List ByteArray)} (h : LS w p n k W rv mv Z D Ss) (hd : DPost Z W p D' W') (hl : D'.sure.length = n + 64) (hp : D'.pend.length ≤ 63) : ∃ Z', LS w p n k W' rv mv Z' D' Ss ∧ Off Z W W' ∧ ∀ i, i < W.heap.size → ¬ Z i → ¬ Z' i := by
  obtain ⟨Z', h1, h2, h3⟩ := hd
  have hz : ∀ i, i < W.heap.size → ¬ Z i → ¬ Z' i := fun i hi hz e => (h3 i e).elim hz (fun h => by omega)
  refine ⟨Z', ⟨h1, fun i hi => (h3 i hi).elim (h.zb i) (fun e => Nat.le_trans h.bel.size e), h.bel.trans (h2.below h.zb h.bel.size), hl, hp, h.may.off h2 (fun i hi hzi => ⟨hzi, hz i hi hzi⟩), ?_⟩, h2, hz⟩
  rcases h.red with e | ⟨q, e, hq, hqz⟩
  · exact .inl e
  · exact .inr ⟨q, e, hq.off h2 hqz, hz q hq.1 hqz⟩
theorem LS.bare {w W : World} {p n k : Nat} {rv mv : Value} {Z : Nat → Prop} {D : Dk} {Ss : List (List ByteArray)} (h : LS w p n k W rv mv Z D Ss) : LS w p n k W (.pointer none) mv Z D Ss := ⟨h.dx, h.zb, h.bel, h.len, h.pl, h.may, .inl rfl⟩
theorem LS.single {w W : World} {p n k a mb : Nat} {rv mv : Value} {Z : Nat → Prop} {D : Dk} {Ss : List (List ByteArray)} {S : List ByteArray} (h : LS w p n k W rv mv Z D Ss) (hp : PR W a mb k n S) (ha : ¬ Z a) (hm : ¬ Z mb) (h1 : w.heap.size ≤ a) (h2 : w.heap.size ≤ mb) :
    LS w p n k (W.alloc (.cells #[.pointer (some ⟨a, 0, none⟩)] 34)) rv (.slice (some ⟨W.heap.size, 0, none⟩) 1 1) Z D [S] := by
  have hba : Below W.heap.size W (W.alloc (.cells #[.pointer (some ⟨a, 0, none⟩)] 34)) := (Below.refl _ _).alloc (Nat.le_refl _) _
  have h0 := h.below hba
  refine ⟨h0.dx, h0.zb, h0.bel, h0.len, h0.pl, ⟨[a], rfl, ?_, fun b hb => ?_, fun j a' S' ha' hS => ?_⟩, h0.red⟩
  · exact row_new h.bel.size (by simp) (Nat.le_refl _) (by unfold maxLen; omega) (by simp) (.inl rfl) (fun j u hu => by simpa using hu)
  · have : W.heap.size = b := Option.some.inj hb
    subst this
    intro e
    obtain ⟨_, _, _, hd⟩ := h.dx
    have := hd.zlt _ e
    omega
  · match j, ha', hS with
    | 0, ha', hS =>
      injection ha' with ha'
      injection hS with hS
      subst ha'; subst hS
      exact ⟨mb, hp.below hba, ha, hm, h1, h2⟩
theorem pr_row {W : World} {a mb k n B m : Nat} {S : List ByteArray} {mv : Value} {x : Nat} {cs : List Value} (hp : PR W a mb k n S) (hr : Row 1 B W mv (m + 1) (.pointer (some ⟨x, 0, none⟩) :: cs)) : mv.ownBlock ≠ some a ∧ mv.ownBlock ≠ some mb := by
  obtain ⟨b, c, rfl, _, _, _, _, _, hc⟩ := hr.pos (Nat.succ_pos _)
  have h0 := hc 0 _ rfl
  refine ⟨fun e => ?_, fun e => ?_⟩
  · have e : b = a := own_is e
    subst e
    have := hp.c0
    rw [h0] at this
    cases this
  · have e : b = mb := own_is e
    subst e
    obtain ⟨D, ⟨es, cl, hh, _⟩, _⟩ := hp.mp
    simp [World.cell?, hh] at h0
theorem LS.grow {w W W' : World} {p n k a mb x : Nat} {rv mv mv' : Value} {Z : Nat → Prop} {D : Dk} {S0 S : List ByteArray} (h : LS w p n k W rv mv Z D [S0]) (hq : Row 1 w.heap.size W mv 1 [.pointer (some ⟨x, 0, none⟩)]) (hp : PR W a mb k n S) (ha : ¬ Z a) (hm : ¬ Z mb) (h1 : w.heap.size ≤ a) (h2 : w.heap.size ≤ mb)
    (hr : Row 1 w.heap.size W' mv' 2 [.pointer (some ⟨x, 0, none⟩), .pointer (some ⟨a, 0, none⟩)]) (ho : Off (fun i => mv.ownBlock = some i) W W') (hob : mv'.ownBlock = mv.ownBlock ∨ mv'.ownBlock = some W.heap.size) :
    LS w p n k W' rv mv' Z D [S0, S] := by
  obtain ⟨ps, k1, k2, k3, k4⟩ := h.may
  obtain ⟨y, rfl⟩ : ∃ y, ps = [y] := by
    match ps, k1 with
    | [y], _ => exact ⟨y, rfl⟩
  obtain ⟨b, c, rfl, hbB, hbl, _, _, _, hc⟩ := hq.pos (Nat.succ_pos _)
  obtain ⟨b', c', hbb, _, _, _, _, _, hc'⟩ := k2.pos (Nat.succ_pos _)
  have hbe : b = b' := by injection hbb with e; injection e with e; injection e
  subst hbe
  have hxy : x = y := by
    have e1 := hc 0 _ rfl
    have e2 := hc' 0 (.pointer (some ⟨y, 0, none⟩)) rfl
    rw [e1] at e2
    injection e2 with e2
    injection e2 with e2
    injection e2 with e2
    injection e2
  subst hxy
  have hbz : ¬ Z b := k3 b rfl
  obtain ⟨mbx, kp, kx, km, kB1, kB2⟩ := k4 0 x S0 rfl rfl
  have hcell := hc 0 _ rfl
  have hpx := pr_row kp hq
  have hpa := pr_row hp hq
  refine ⟨h.dx.off ho (fun i hi e => ?_), h.zb, h.bel.trans (ho.below (fun i e => ?_) h.bel.size), h.len, h.pl, ⟨[x, a], rfl, hr, fun i hi hz => ?_, fun j a' S' ha' hS => ?_⟩, ?_⟩
  · have : b = i := own_is e
    subst this
    exact hbz hi
  · have : b = i := own_is e
    subst this
    exact hbB
  · rcases hob with e | e
    · rw [e] at hi
      have : b = i := own_is hi
      subst this
      exact hbz hz
    · rw [e] at hi
      have : W.heap.size = i := Option.some.inj hi
      subst this
      obtain ⟨_, _, _, hd⟩ := h.dx
      have := hd.zlt _ hz
      omega
  · match j, ha', hS with
    | 0, ha', hS =>
      injection ha' with ha'
      injection hS with hS
      subst ha'; subst hS
      exact ⟨mbx, kp.off ho hpx.1 hpx.2, kx, km, kB1, kB2⟩
    | 1, ha', hS =>
      injection ha' with ha'
      injection hS with hS
      subst ha'; subst hS
      exact ⟨mb, hp.off ho hpa.1 hpa.2, ha, hm, h1, h2⟩
  · rcases h.red with e | ⟨q, e, hq', hqz⟩
    · exact .inl e
    · refine .inr ⟨q, e, hq'.off ho (fun e => ?_), hqz⟩
      have : b = q := own_is e
      subst this
      have h0 := hq'.2
      rw [hcell] at h0
      injection h0 with h0
      injection h0 with h0
      injection h0 with h0
      injection h0 with h0
      subst h0
      obtain ⟨_, _, _, hd⟩ := h.dx
      exact kx hd.zp
def FoundP (P : Nat → ByteArray) (Ss : List (List ByteArray)) (n g : Nat) (f : Int) : Prop := (f < 0 ∧ ∀ i S, i < g → Ss[i]? = some S → ¬ EqP P S n) ∨ (∃ fn : Nat, f = (fn : Int) ∧ ∃ S, Ss[fn]? = some S ∧ EqP P S n)
theorem found_hit {P : Nat → ByteArray} {Ss : List (List ByteArray)} {n g : Nat} {S : List ByteArray} (h : Ss[g]? = some S) (he : EqP P S n) : FoundP P Ss n (g + 1) (g : Int) := .inr ⟨g, rfl, S, h, he⟩
theorem found_miss {P : Nat → ByteArray} {Ss : List (List ByteArray)} {n g : Nat} {f : Int} {S : List ByteArray} (hf : FoundP P Ss n g f) (h : Ss[g]? = some S) (he : ¬ EqP P S n) : FoundP P Ss n (g + 1) f := by
  rcases hf with ⟨h1, h2⟩ | h
  · refine .inl ⟨h1, fun i S' hi hS => ?_⟩
    by_cases e : i < g
    · exact h2 i S' e hS
    · have : i = g := by omega
      subst this
      rw [h] at hS
      injection hS with hS
      subst hS
      exact he
  · exact .inr h
end Go.Proofs.YthamfbfeokmhgaaGreatDoor
