/- Of package sector: settle, at each of its two closures. -/
import Derived.Test.YthamfbfeokmhgaaGreatDoorU18
set_option linter.unusedVariables false
set_option linter.unusedSimpArgs false
namespace Go.Proofs.YthamfbfeokmhgaaGreatDoor
open Go.ChangeShapes Go.WideShapes Go.ChangeAt Go.RowKit

structure DS (Z : Nat → Prop) (w : World) (p bs bh n : Nat) (v : Value) (S H : List ByteArray) (Q : Pnd) (f : Int) (o : Bool) : Prop where
  zlt : ∀ i, Z i → i < w.heap.size
  zp : Z p
  zs : Z bs
  zh : Z bh
  zv : ∀ b, v.ownBlock = some b → Z b
  ps : p ≠ bs
  ph : p ≠ bh
  sh : bs ≠ bh
  pw : ∀ b, v.ownBlock = some b → b ≠ p ∧ b ≠ bs ∧ b ≠ bh
  c0 : w.cell? ⟨p, 0, none⟩ = some (.slice (some ⟨bs, 0, none⟩) n n)
  c1 : w.cell? ⟨p, 1, none⟩ = some (.slice (some ⟨bh, 0, none⟩) n n)
  c2 : w.cell? ⟨p, 2, none⟩ = some v
  c3 : w.cell? ⟨p, 3, none⟩ = some (.int .i64 f)
  c4 : w.cell? ⟨p, 4, none⟩ = some (.bool o)
  fz : ∀ j, j < 5 → w.frozen? ⟨p, j, none⟩ = false
  rs : Row 1 0 w (.slice (some ⟨bs, 0, none⟩) n n) n (sv S)
  rh : Row 1 0 w (.slice (some ⟨bh, 0, none⟩) n n) n (sv H)
  rp : Row 2 0 w v Q.length (pv Q)
section
variable {Z : Nat → Prop} {w w' : World} {p bs bh n : Nat} {v : Value} {S H : List ByteArray} {Q : Pnd} {f : Int} {o : Bool} {D : Dk}
theorem DM.raw (h : DM Z w p bs bh v D) : DS Z w p bs bh D.sure.length v D.sure D.shown D.pend D.fuel D.off :=
  ⟨h.zlt, h.zp, h.zs, h.zh, h.zv, h.ps, h.ph, h.sh, h.pw, h.c0, h.c1, h.c2, h.c3, h.c4, h.fz, h.rs, h.rh, h.rp⟩
theorem DS.dm (h : DS Z w p bs bh n v S H Q f o) (hn : n = D.sure.length) (hS : S = D.sure) (hH : H = D.shown) (hQ : Q = D.pend) (hf : f = D.fuel) (ho : o = D.off) (hok : D.Ok) : DM Z w p bs bh v D := by
  subst hn; subst hS; subst hH; subst hQ; subst hf; subst ho
  exact ⟨hok, h.zlt, h.zp, h.zs, h.zh, h.zv, h.ps, h.ph, h.sh, h.pw, h.c0, h.c1, h.c2, h.c3, h.c4, h.fz, h.rs, h.rh, h.rp⟩
theorem DS.off {Y : Nat → Prop} (h : DS Z w p bs bh n v S H Q f o) (ho : Off Y w w') (hz : ∀ i, Z i → ¬ Y i) : DS Z w' p bs bh n v S H Q f o := by
  have hp := h.zlt p h.zp
  have hc : ∀ j, w'.cell? ⟨p, j, none⟩ = w.cell? ⟨p, j, none⟩ := fun j => ho.cell (p := ⟨p, j, none⟩) hp (hz p h.zp)
  exact ⟨fun i hi => Nat.lt_of_lt_of_le (h.zlt i hi) ho.size, h.zp, h.zs, h.zh, h.zv, h.ps, h.ph, h.sh, h.pw, (hc 0).trans h.c0, (hc 1).trans h.c1, (hc 2).trans h.c2, (hc 3).trans h.c3, (hc 4).trans h.c4,
    fun j hj => (ho.frozen (p := ⟨p, j, none⟩) hp (hz p h.zp)).trans (h.fz j hj), h.rs.off ho (fun b hb => hz b (own_is hb ▸ h.zs)), h.rh.off ho (fun b hb => hz b (own_is hb ▸ h.zh)), h.rp.off ho (fun b hb => hz b (h.zv b hb))⟩
theorem DS.below (h : DS Z w p bs bh n v S H Q f o) (hb : Below w.heap.size w w') : DS Z w' p bs bh n v S H Q f o := h.off (Y := fun _ => False) (Off.of_below hb) (fun _ _ h => h)
theorem DS.setSure (h : DS Z w p bs bh n v S H Q f o) {i : Nat} (hi : i < S.length) (s : ByteArray) : DS Z (w.setCell ⟨bs, i, none⟩ (.string s)) p bs bh n v (S.set i s) H Q f o := by
  have hc : ∀ j, (w.setCell ⟨bs, i, none⟩ (.string s)).cell? ⟨p, j, none⟩ = w.cell? ⟨p, j, none⟩ := fun j => World.cell?_setCell_other _ _ _ _ (fun e => h.ps (by injection e with e; exact e.symm))
  refine ⟨fun i hi => by simpa [World.setCell] using h.zlt i hi, h.zp, h.zs, h.zh, h.zv, h.ps, h.ph, h.sh, h.pw, (hc 0).trans h.c0, (hc 1).trans h.c1, (hc 2).trans h.c2, (hc 3).trans h.c3, (hc 4).trans h.c4,
    fun j hj => by rw [World.frozen?_setCell]; exact h.fz j hj, ?_, h.rh.setOther (fun e => h.sh (own_is e).symm) _, h.rp.setOther (fun e => (h.pw bs e).2.1 rfl) _⟩
  have := h.rs.put (j := i) (by rw [sv_len]; exact hi) (.string s)
  rw [sv_set] at this
  exact this
theorem DS.setShown (h : DS Z w p bs bh n v S H Q f o) {i : Nat} (hi : i < H.length) (s : ByteArray) : DS Z (w.setCell ⟨bh, i, none⟩ (.string s)) p bs bh n v S (H.set i s) Q f o := by
  have hc : ∀ j, (w.setCell ⟨bh, i, none⟩ (.string s)).cell? ⟨p, j, none⟩ = w.cell? ⟨p, j, none⟩ := fun j => World.cell?_setCell_other _ _ _ _ (fun e => h.ph (by injection e with e; exact e.symm))
  refine ⟨fun i hi => by simpa [World.setCell] using h.zlt i hi, h.zp, h.zs, h.zh, h.zv, h.ps, h.ph, h.sh, h.pw, (hc 0).trans h.c0, (hc 1).trans h.c1, (hc 2).trans h.c2, (hc 3).trans h.c3, (hc 4).trans h.c4,
    fun j hj => by rw [World.frozen?_setCell]; exact h.fz j hj, h.rs.setOther (fun e => h.sh (own_is e)) _, ?_, h.rp.setOther (fun e => (h.pw bh e).2.2 rfl) _⟩
  have := h.rh.put (j := i) (by rw [sv_len]; exact hi) (.string s)
  rw [sv_set] at this
  exact this
theorem DS.setPend (h : DS Z w p bs bh n v S H Q f o) {v' : Value} {Q' : Pnd} (hz : ∀ b, v'.ownBlock = some b → Z b) (hw : ∀ b, v'.ownBlock = some b → b ≠ p ∧ b ≠ bs ∧ b ≠ bh) (hr : Row 2 0 w v' Q'.length (pv Q')) : DS Z (w.setCell ⟨p, 2, none⟩ v') p bs bh n v' S H Q' f o := by
  have hc := fun k => box_set (u := v') h.c2 k
  refine ⟨fun i hi => by simpa [World.setCell] using h.zlt i hi, h.zp, h.zs, h.zh, hz, h.ps, h.ph, h.sh, hw, by rw [hc]; exact h.c0, by rw [hc]; exact h.c1, by rw [hc]; rfl, by rw [hc]; exact h.c3, by rw [hc]; exact h.c4,
    fun j hj => by rw [World.frozen?_setCell]; exact h.fz j hj, h.rs.setOther (fun e => h.ps (own_is e).symm) _, h.rh.setOther (fun e => h.ph (own_is e).symm) _, hr.setOther (fun e => (hw p e).1 rfl) _⟩
theorem DS.nilPend (h : DS Z w p bs bh n v S H Q f o) : DS Z (w.setCell ⟨p, 2, none⟩ (.slice none 0 0)) p bs bh n (.slice none 0 0) S H [] f o :=
  h.setPend (fun b hb => by cases hb) (fun b hb => by cases hb) (Row.nil _ _ _)
theorem DS.atPend (h : DS Z w p bs bh n v S H Q f o) {j : Nat} {q : Nat × ByteArray} (hq : Q[j]? = some q) : ∃ b c, v = .slice (some ⟨b, 0, none⟩) Q.length c ∧ Q.length ≤ c ∧ c ≤ maxLen ∧ Z b ∧ b < w.heap.size ∧ w.cell? ⟨b, j * 2, none⟩ = some (.int .i64 (q.1 : Int)) ∧ w.cell? ⟨b, j * 2 + 1, none⟩ = some (.string q.2) := by
  have hl := (List.getElem?_eq_some_iff.1 hq).1
  obtain ⟨b, c, rfl, h2, h3, h4, h5, h6, h7⟩ := h.rp.pos (by omega)
  obtain ⟨a0, a1⟩ := pv_at hq
  exact ⟨b, c, rfl, h4, h5, h.zv b rfl, h3, h7 _ _ a0, h7 _ _ a1⟩
end

set_option maxHeartbeats 2000000 in
set_option maxRecDepth 100000 in
theorem settleA_any {Z : Nat → Prop} {p bs bh n q0 : Nat} {v : Value} {S : List ByteArray} {Q : Pnd} {f : Int} {o : Bool} (kp : Nat → Bool) (w : World) (h : DS Z w p bs bh n v S (sk allK S Q Q.length) Q f o) (hn : S.length = n) (hn9 : n ≤ 4096) (hQ : ∀ q ∈ Q, q.1 < n) (hl : Q.length ≤ 1000000)
    (C : ∀ W, Off Z w W → ∀ j : Nat, j < Q.length → Calls Tryz.prog 77 #[.int .i64 (j : Int)] W fun e w' => e = .returned (.bool (kp j)) ∧ w' = W) :
    Calls Tryz.prog 32 #[.pointer (some ⟨p, 0, none⟩), .func (.func 77) #[] #[]] w fun e w' => e = .returned (.tuple #[]) ∧ DS Z w' p bs bh n (.slice none 0 0) (sk kp S Q Q.length) (sk kp S Q Q.length) [] f o ∧ Off Z w w' := by
  obtain ⟨va, vc, rfl⟩ := h.rp.form
  obtain ⟨m, hm⟩ : ∃ m, m = Q.length := ⟨_, rfl⟩
  rw [← hm] at hl
  have c2 := h.c2
  rw [← hm] at c2
  have HM := Lib.hid hm
  have HN := Lib.hid hn
  have HQ := Lib.hid hQ
  have HC := Lib.hid C
  have H0 := Lib.hid h
  have HPA := Lib.hid (show pk (sk kp S Q Q.length) (sk allK S Q Q.length) Q Q.length = sk kp S Q Q.length from pk_all kp allK S Q)
  obtain ⟨H, hH⟩ : ∃ H, H = sk allK S Q Q.length := ⟨_, rfl⟩
  have HHL : Hid (H.length = n) := Lib.hid (by rw [hH, sk_len]; exact hn)
  rw [← hH] at H0 HPA
  rw [← hm] at H0 HPA
  have HW0 : Hid (Off Z w w) := Lib.hid (Off.refl _ _)
  clear h hn hQ C hH hm
  go_enter Tryz.func32, Tryz.ntmps32
  go_wp2_with fail
  clear c2
  go_loopw [13] (fun jv wr => ∃ j : Nat, jv = .int .i64 (j : Nat) ∧ j ≤ m ∧ Hid (DS Z wr p bs bh n (.slice va Q.length vc) (sk kp S Q j) H Q f o) ∧ Hid (Off Z w wr)) (fun jv _ => m - (intOf jv).toNat)
  case atStart => exact ⟨0, rfl, Nat.zero_le _, by rw [HM.out] at H0; exact H0, HW0⟩
  case round =>
    obtain ⟨j, rfl, hjm, HD, HO⟩ := hrel
    by_cases hlt : j < m
    · obtain ⟨q, hq⟩ : ∃ q, Q[j]? = some q := ⟨Q[j]'(by rw [← HM.out]; exact hlt), by simp⟩
      have hqn := HQ.out q (List.mem_of_getElem? hq)
      obtain ⟨vb, vc', hv, hvc1, hvc2, hzb, hvb, d0, d1⟩ := HD.out.atPend hq
      injection hv with hv1 _ hv3
      subst hv1; subst hv3
      have hsk := sk_succ (kp := kp) (S := S) hq
      obtain ⟨qa, qt⟩ := q
      simp only at hqn d0 d1 hsk
      obtain ⟨z, hz⟩ : ∃ z, z = wr.heap.size := ⟨_, rfl⟩
      obtain ⟨wz, hwz⟩ : ∃ wz, wz = wr.alloc (.cells #[.int .i64 (qa : Int), .string qt] 112) := ⟨_, rfl⟩
      have hbz : Below wr.heap.size wr wz := by rw [hwz]; exact (Below.refl _ _).alloc (Nat.le_refl _) _
      have z0 : wz.cell? ⟨z, 0, none⟩ = some (.int .i64 (qa : Int)) := by rw [hwz, hz, World.cell?_alloc_at _ _ _ _ rfl]; rfl
      have z1 : wz.cell? ⟨z, 1, none⟩ = some (.string qt) := by rw [hwz, hz, World.cell?_alloc_at _ _ _ _ rfl]; rfl
      have hdz := HD.out.below hbz
      have c0 := hdz.c0
      obtain ⟨s0, hs0⟩ : ∃ s0, (sk kp S Q j)[qa]? = some s0 := ⟨(sk kp S Q j)[qa]'(by rw [sk_len, HN.out]; exact hqn), by simp⟩
      obtain ⟨xs, fs, _⟩ := hdz.rs.cellF (sv_at hs0)
      have hqnI : (qa : Int) < (n : Int) := by omega
      have HOZ := Lib.hid (HO.out.trans (Off.of_below hbz))
      have HDZ := Lib.hid hdz
      have HDP := Lib.hid (hdz.setSure (i := qa) (by rw [sk_len, HN.out]; exact hqn) qt)
      have HSK := Lib.hid hsk
      have HCJ := Lib.hid (HC.out wz HOZ.out j (by rw [← HM.out]; exact hlt))
      have HWZ := Lib.hid hwz
      have HZS := Lib.hid hdz.zs
      have HMQ := HM.out
      rw [← HMQ] at hvc1
      unfold maxLen at hvc2
      obtain ⟨t, ht⟩ : ∃ t, t = kp j := ⟨_, rfl⟩
      rw [← ht] at HCJ HSK
      clear hq hdz hsk hbz hwz hvb hzb ht HMQ hs0
      go_wp2_with fail
      rw [← hz, ← HWZ.out]
      clear hz d0 d1
      refine HCJ.out.mono ?_
      rintro e w5 ⟨rfl, rfl⟩
      cases t with
      | true =>
        go_wp2_with fail
        go_region
        go_wp2_with fail
        have hdp := HDP.out
        have hs : sk kp S Q (j + 1) = (sk kp S Q j).set qa qt := by simpa using HSK.out
        rw [← hs] at hdp
        exact ⟨⟨j + 1, by go_num, by omega, Lib.hid (hdp.below (Below.refl _ _).drew), Lib.hid ((HOZ.out.setCell (p := ⟨bs, qa, none⟩) (.inr HZS.out) (.string qt)).drew)⟩, by simp [intOf]; omega⟩
      | false =>
        go_wp2_with fail
        have hdp := HDZ.out
        have hs : sk kp S Q (j + 1) = sk kp S Q j := by simpa using HSK.out
        rw [← hs] at hdp
        exact ⟨⟨j + 1, by go_num, by omega, Lib.hid hdp, HOZ⟩, by simp [intOf]; omega⟩
    · have hjj : m = j := by omega
      have hd := HD.out
      have c2 := hd.c2
      rw [← HM.out] at c2
      obtain ⟨T, hT⟩ : ∃ T, T = sk kp S Q m := ⟨_, rfl⟩
      have HTL : Hid (T.length = n) := Lib.hid (by rw [hT, sk_len]; exact HN.out)
      rw [← hjj, ← hT] at hd
      rw [← hT] at HPA
      have HD1 := Lib.hid hd
      have HO1 := HO
      have HTE := Lib.hid hT
      clear hd HD hT HO
      subst hjj
      go_wp2_with fail
      clear c2
      obtain ⟨wa, rfl⟩ : ∃ wa, wa = wr := ⟨wr, rfl⟩
      go_loopw [36] (fun jv wr => ∃ j : Nat, jv = .int .i64 (j : Nat) ∧ j ≤ m ∧ Hid (DS Z wr p bs bh n (.slice va Q.length vc) T (pk T H Q j) Q f o) ∧ Hid (Off Z w wr)) (fun jv _ => m - (intOf jv).toNat)
      case atStart => exact ⟨0, rfl, Nat.zero_le _, HD1, HO1⟩
      case round =>
        obtain ⟨j, rfl, hjm, HD, HO⟩ := hrel
        by_cases hlt : j < m
        · obtain ⟨q, hq⟩ : ∃ q, Q[j]? = some q := ⟨Q[j]'(by rw [← HM.out]; exact hlt), by simp⟩
          have hqn := HQ.out q (List.mem_of_getElem? hq)
          obtain ⟨vb, vc', hv, hvc1, hvc2, hzb, hvb, d0, d1⟩ := HD.out.atPend hq
          injection hv with hv1 _ hv3
          subst hv1; subst hv3
          have hsk := pk_succ (T := T) (A := H) hq
          obtain ⟨qa, qt⟩ := q
          simp only at hqn d0 d1 hsk
          obtain ⟨tq, htq⟩ : ∃ tq, tq = T.getD qa ByteArray.empty := ⟨_, rfl⟩
          have hTq : T[qa]? = some tq := by rw [htq]; exact getD_at (by rw [HTL.out]; exact hqn)
          rw [← htq] at hsk
          obtain ⟨z, hz⟩ : ∃ z, z = wr.heap.size := ⟨_, rfl⟩
          obtain ⟨wz, hwz⟩ : ∃ wz, wz = wr.alloc (.cells #[.int .i64 (qa : Int), .string qt] 112) := ⟨_, rfl⟩
          have hbz : Below wr.heap.size wr wz := by rw [hwz]; exact (Below.refl _ _).alloc (Nat.le_refl _) _
          have z0 : wz.cell? ⟨z, 0, none⟩ = some (.int .i64 (qa : Int)) := by rw [hwz, hz, World.cell?_alloc_at _ _ _ _ rfl]; rfl
          have z1 : wz.cell? ⟨z, 1, none⟩ = some (.string qt) := by rw [hwz, hz, World.cell?_alloc_at _ _ _ _ rfl]; rfl
          have hdz := HD.out.below hbz
          have c0 := hdz.c0
          have c1 := hdz.c1
          have hpl : (pk T H Q j).length = n := by rw [pk_len]; exact HHL.out
          obtain ⟨s0, hs0⟩ : ∃ s0, (pk T H Q j)[qa]? = some s0 := ⟨(pk T H Q j)[qa]'(by rw [hpl]; exact hqn), by simp⟩
          obtain ⟨xs, fs, _⟩ := hdz.rs.cellF (sv_at hTq)
          obtain ⟨xh, fh, _⟩ := hdz.rh.cellF (sv_at hs0)
          have hqnI : (qa : Int) < (n : Int) := by omega
          have HOZ := Lib.hid (HO.out.trans (Off.of_below hbz))
          have HDP := Lib.hid (hdz.setShown (i := qa) (by rw [hpl]; exact hqn) tq)
          have HSK := Lib.hid hsk
          have HWZ := Lib.hid hwz
          have HZS := Lib.hid hdz.zh
          have HMQ := HM.out
          rw [← HMQ] at hvc1
          unfold maxLen at hvc2
          clear hq hdz hsk hbz hwz hvb hzb htq HMQ hs0 hTq hpl
          go_wp2_with fail
          rw [← hz, ← HWZ.out]
          clear hz d0 d1
          go_region
          go_wp2_with fail
          have hdp := HDP.out
          rw [← HSK.out] at hdp
          exact ⟨⟨j + 1, by go_num, by omega, Lib.hid (hdp.below (Below.refl _ _).drew), Lib.hid ((HOZ.out.setCell (p := ⟨bh, qa, none⟩) (.inr HZS.out) (.string tq)).drew)⟩, by simp [intOf]; omega⟩
        · have hjj : m = j := by omega
          have hd := HD.out
          rw [← hjj, HPA.out] at hd
          have c2 := hd.c2
          have f2 := hd.fz 2 (by omega)
          have HE := Lib.hid hd.nilPend
          have HO2 := Lib.hid (HO.out.setCell (p := ⟨p, 2, none⟩) (.inr hd.zp) (.slice none 0 0))
          clear hd HD HO
          subst hjj
          go_wp2_with fail
          go_end0
          refine ⟨rfl, ?_, HO2.out⟩
          rw [← HM.out, ← HTE.out]
          exact HE.out

set_option maxHeartbeats 2000000 in
set_option maxRecDepth 100000 in
theorem settleF_any {Z : Nat → Prop} {p bs bh n q0 : Nat} {v : Value} {S : List ByteArray} {Q : Pnd} {f : Int} {o : Bool} (kp : Nat → Bool) (w : World) (h : DS Z w p bs bh n v S (sk allK S Q Q.length) Q f o) (hn : S.length = n) (hn9 : n ≤ 4096) (hQ : ∀ q ∈ Q, q.1 < n) (hl : Q.length ≤ 1000000)
    (C : ∀ W, Off Z w W → ∀ j : Nat, j < Q.length → Calls Tryz.prog 33 #[.int .i64 (j : Int), .pointer (some ⟨q0, 0, none⟩)] W fun e w' => e = .returned (.bool (kp j)) ∧ w' = W) :
    Calls Tryz.prog 32 #[.pointer (some ⟨p, 0, none⟩), .func (.func 33) #[] #[.pointer (some ⟨q0, 0, none⟩)]] w fun e w' => e = .returned (.tuple #[]) ∧ DS Z w' p bs bh n (.slice none 0 0) (sk kp S Q Q.length) (sk kp S Q Q.length) [] f o ∧ Off Z w w' := by
  obtain ⟨va, vc, rfl⟩ := h.rp.form
  obtain ⟨m, hm⟩ : ∃ m, m = Q.length := ⟨_, rfl⟩
  rw [← hm] at hl
  have c2 := h.c2
  rw [← hm] at c2
  have HM := Lib.hid hm
  have HN := Lib.hid hn
  have HQ := Lib.hid hQ
  have HC := Lib.hid C
  have H0 := Lib.hid h
  have HPA := Lib.hid (show pk (sk kp S Q Q.length) (sk allK S Q Q.length) Q Q.length = sk kp S Q Q.length from pk_all kp allK S Q)
  obtain ⟨H, hH⟩ : ∃ H, H = sk allK S Q Q.length := ⟨_, rfl⟩
  have HHL : Hid (H.length = n) := Lib.hid (by rw [hH, sk_len]; exact hn)
  rw [← hH] at H0 HPA
  rw [← hm] at H0 HPA
  have HW0 : Hid (Off Z w w) := Lib.hid (Off.refl _ _)
  clear h hn hQ C hH hm
  go_enter Tryz.func32, Tryz.ntmps32
  go_wp2_with fail
  clear c2
  go_loopw [13] (fun jv wr => ∃ j : Nat, jv = .int .i64 (j : Nat) ∧ j ≤ m ∧ Hid (DS Z wr p bs bh n (.slice va Q.length vc) (sk kp S Q j) H Q f o) ∧ Hid (Off Z w wr)) (fun jv _ => m - (intOf jv).toNat)
  case atStart => exact ⟨0, rfl, Nat.zero_le _, by rw [HM.out] at H0; exact H0, HW0⟩
  case round =>
    obtain ⟨j, rfl, hjm, HD, HO⟩ := hrel
    by_cases hlt : j < m
    · obtain ⟨q, hq⟩ : ∃ q, Q[j]? = some q := ⟨Q[j]'(by rw [← HM.out]; exact hlt), by simp⟩
      have hqn := HQ.out q (List.mem_of_getElem? hq)
      obtain ⟨vb, vc', hv, hvc1, hvc2, hzb, hvb, d0, d1⟩ := HD.out.atPend hq
      injection hv with hv1 _ hv3
      subst hv1; subst hv3
      have hsk := sk_succ (kp := kp) (S := S) hq
      obtain ⟨qa, qt⟩ := q
      simp only at hqn d0 d1 hsk
      obtain ⟨z, hz⟩ : ∃ z, z = wr.heap.size := ⟨_, rfl⟩
      obtain ⟨wz, hwz⟩ : ∃ wz, wz = wr.alloc (.cells #[.int .i64 (qa : Int), .string qt] 112) := ⟨_, rfl⟩
      have hbz : Below wr.heap.size wr wz := by rw [hwz]; exact (Below.refl _ _).alloc (Nat.le_refl _) _
      have z0 : wz.cell? ⟨z, 0, none⟩ = some (.int .i64 (qa : Int)) := by rw [hwz, hz, World.cell?_alloc_at _ _ _ _ rfl]; rfl
      have z1 : wz.cell? ⟨z, 1, none⟩ = some (.string qt) := by rw [hwz, hz, World.cell?_alloc_at _ _ _ _ rfl]; rfl
      have hdz := HD.out.below hbz
      have c0 := hdz.c0
      obtain ⟨s0, hs0⟩ : ∃ s0, (sk kp S Q j)[qa]? = some s0 := ⟨(sk kp S Q j)[qa]'(by rw [sk_len, HN.out]; exact hqn), by simp⟩
      obtain ⟨xs, fs, _⟩ := hdz.rs.cellF (sv_at hs0)
      have hqnI : (qa : Int) < (n : Int) := by omega
      have HOZ := Lib.hid (HO.out.trans (Off.of_below hbz))
      have HDZ := Lib.hid hdz
      have HDP := Lib.hid (hdz.setSure (i := qa) (by rw [sk_len, HN.out]; exact hqn) qt)
      have HSK := Lib.hid hsk
      have HCJ := Lib.hid (HC.out wz HOZ.out j (by rw [← HM.out]; exact hlt))
      have HWZ := Lib.hid hwz
      have HZS := Lib.hid hdz.zs
      have HMQ := HM.out
      rw [← HMQ] at hvc1
      unfold maxLen at hvc2
      obtain ⟨t, ht⟩ : ∃ t, t = kp j := ⟨_, rfl⟩
      rw [← ht] at HCJ HSK
      clear hq hdz hsk hbz hwz hvb hzb ht HMQ hs0
      go_wp2_with fail
      rw [← hz, ← HWZ.out]
      clear hz d0 d1
      refine HCJ.out.mono ?_
      rintro e w5 ⟨rfl, rfl⟩
      cases t with
      | true =>
        go_wp2_with fail
        go_region
        go_wp2_with fail
        have hdp := HDP.out
        have hs : sk kp S Q (j + 1) = (sk kp S Q j).set qa qt := by simpa using HSK.out
        rw [← hs] at hdp
        exact ⟨⟨j + 1, by go_num, by omega, Lib.hid (hdp.below (Below.refl _ _).drew), Lib.hid ((HOZ.out.setCell (p := ⟨bs, qa, none⟩) (.inr HZS.out) (.string qt)).drew)⟩, by simp [intOf]; omega⟩
      | false =>
        go_wp2_with fail
        have hdp := HDZ.out
        have hs : sk kp S Q (j + 1) = sk kp S Q j := by simpa using HSK.out
        rw [← hs] at hdp
        exact ⟨⟨j + 1, by go_num, by omega, Lib.hid hdp, HOZ⟩, by simp [intOf]; omega⟩
    · have hjj : m = j := by omega
      have hd := HD.out
      have c2 := hd.c2
      rw [← HM.out] at c2
      obtain ⟨T, hT⟩ : ∃ T, T = sk kp S Q m := ⟨_, rfl⟩
      have HTL : Hid (T.length = n) := Lib.hid (by rw [hT, sk_len]; exact HN.out)
      rw [← hjj, ← hT] at hd
      rw [← hT] at HPA
      have HD1 := Lib.hid hd
      have HO1 := HO
      have HTE := Lib.hid hT
      clear hd HD hT HO
      subst hjj
      go_wp2_with fail
      clear c2
      obtain ⟨wa, rfl⟩ : ∃ wa, wa = wr := ⟨wr, rfl⟩
      go_loopw [36] (fun jv wr => ∃ j : Nat, jv = .int .i64 (j : Nat) ∧ j ≤ m ∧ Hid (DS Z wr p bs bh n (.slice va Q.length vc) T (pk T H Q j) Q f o) ∧ Hid (Off Z w wr)) (fun jv _ => m - (intOf jv).toNat)
      case atStart => exact ⟨0, rfl, Nat.zero_le _, HD1, HO1⟩
      case round =>
        obtain ⟨j, rfl, hjm, HD, HO⟩ := hrel
        by_cases hlt : j < m
        · obtain ⟨q, hq⟩ : ∃ q, Q[j]? = some q := ⟨Q[j]'(by rw [← HM.out]; exact hlt), by simp⟩
          have hqn := HQ.out q (List.mem_of_getElem? hq)
          obtain ⟨vb, vc', hv, hvc1, hvc2, hzb, hvb, d0, d1⟩ := HD.out.atPend hq
          injection hv with hv1 _ hv3
          subst hv1; subst hv3
          have hsk := pk_succ (T := T) (A := H) hq
          obtain ⟨qa, qt⟩ := q
          simp only at hqn d0 d1 hsk
          obtain ⟨tq, htq⟩ : ∃ tq, tq = T.getD qa ByteArray.empty := ⟨_, rfl⟩
          have hTq : T[qa]? = some tq := by rw [htq]; exact getD_at (by rw [HTL.out]; exact hqn)
          rw [← htq] at hsk
          obtain ⟨z, hz⟩ : ∃ z, z = wr.heap.size := ⟨_, rfl⟩
          obtain ⟨wz, hwz⟩ : ∃ wz, wz = wr.alloc (.cells #[.int .i64 (qa : Int), .string qt] 112) := ⟨_, rfl⟩
          have hbz : Below wr.heap.size wr wz := by rw [hwz]; exact (Below.refl _ _).alloc (Nat.le_refl _) _
          have z0 : wz.cell? ⟨z, 0, none⟩ = some (.int .i64 (qa : Int)) := by rw [hwz, hz, World.cell?_alloc_at _ _ _ _ rfl]; rfl
          have z1 : wz.cell? ⟨z, 1, none⟩ = some (.string qt) := by rw [hwz, hz, World.cell?_alloc_at _ _ _ _ rfl]; rfl
          have hdz := HD.out.below hbz
          have c0 := hdz.c0
          have c1 := hdz.c1
          have hpl : (pk T H Q j).length = n := by rw [pk_len]; exact HHL.out
          obtain ⟨s0, hs0⟩ : ∃ s0, (pk T H Q j)[qa]? = some s0 := ⟨(pk T H Q j)[qa]'(by rw [hpl]; exact hqn), by simp⟩
          obtain ⟨xs, fs, _⟩ := hdz.rs.cellF (sv_at hTq)
          obtain ⟨xh, fh, _⟩ := hdz.rh.cellF (sv_at hs0)
          have hqnI : (qa : Int) < (n : Int) := by omega
          have HOZ := Lib.hid (HO.out.trans (Off.of_below hbz))
          have HDP := Lib.hid (hdz.setShown (i := qa) (by rw [hpl]; exact hqn) tq)
          have HSK := Lib.hid hsk
          have HWZ := Lib.hid hwz
          have HZS := Lib.hid hdz.zh
          have HMQ := HM.out
          rw [← HMQ] at hvc1
          unfold maxLen at hvc2
          clear hq hdz hsk hbz hwz hvb hzb htq HMQ hs0 hTq hpl
          go_wp2_with fail
          rw [← hz, ← HWZ.out]
          clear hz d0 d1
          go_region
          go_wp2_with fail
          have hdp := HDP.out
          rw [← HSK.out] at hdp
          exact ⟨⟨j + 1, by go_num, by omega, Lib.hid (hdp.below (Below.refl _ _).drew), Lib.hid ((HOZ.out.setCell (p := ⟨bh, qa, none⟩) (.inr HZS.out) (.string tq)).drew)⟩, by simp [intOf]; omega⟩
        · have hjj : m = j := by omega
          have hd := HD.out
          rw [← hjj, HPA.out] at hd
          have c2 := hd.c2
          have f2 := hd.fz 2 (by omega)
          have HE := Lib.hid hd.nilPend
          have HO2 := Lib.hid (HO.out.setCell (p := ⟨p, 2, none⟩) (.inr hd.zp) (.slice none 0 0))
          clear hd HD HO
          subst hjj
          go_wp2_with fail
          go_end0
          refine ⟨rfl, ?_, HO2.out⟩
          rw [← HM.out, ← HTE.out]
          exact HE.out
end Go.Proofs.YthamfbfeokmhgaaGreatDoor
