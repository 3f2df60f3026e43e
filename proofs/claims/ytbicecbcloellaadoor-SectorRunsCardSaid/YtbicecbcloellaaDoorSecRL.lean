/- SectorRuns: its walk. -/
import Derived.Test.YtbicecbcloellaaDoorSecT
import Derived.Test.YtbicecbcloellaaDoorSecG
import Derived.Deep.Cut
import Derived.Deep.CutRange
import Derived.Deep.CutBlock
import Derived.Deep.RegionHeld3
set_option linter.unusedVariables false
set_option linter.unusedSimpArgs false
namespace Go.Proofs.YtbicecbcloellaaDoor
open Go.ChangeShapes Go.WideShapes Go.ChangeAt Go.RowKit

theorem ob_cell {w : World} {z j : Nat} {xs : Array Value} {t : TypeId} {u : Value} (h : w.heap[z]? = some (.cells xs t)) (hu : xs[j]? = some u) : w.cell? ⟨z, j, none⟩ = some u := by
  simp [World.cell?, h, hu]
theorem same_str (x : ByteArray) : (!x.toList == x.toList) = false := by simp
/-- What is known of the disk behind j acts. -/
def ActsP (N j k : Nat) (D : Dk) : Prop := D.sure.length = N ∧ D.pend.length ≤ j ∧ k ≤ 100 * j
theorem acts_write {N j k : Nat} {D : Dk} (h : ActsP N j k D) (i : Int) (s : ByteArray) : ActsP N (j + 1) k (writeD D i s).1 := by
  obtain ⟨h1, h2, h3⟩ := h
  unfold writeD
  split
  · exact ⟨h1, Nat.le_succ_of_le h2, by omega⟩
  · split
    · exact ⟨h1, Nat.le_succ_of_le h2, by omega⟩
    · split
      · exact ⟨h1, Nat.le_succ_of_le h2, by omega⟩
      · exact ⟨h1, by show (D.pend ++ _).length ≤ _; simp; omega, by omega⟩
theorem acts_flush {N j k k' : Nat} {D : Dk} (h : ActsP N j k D) (hj : j ≤ 99) (hk : k' ≤ k + D.pend.length) : ActsP N (j + 1) k' (flushD D).1 := by
  obtain ⟨h1, h2, h3⟩ := h
  unfold flushD
  split
  · exact ⟨h1, Nat.le_succ_of_le h2, by omega⟩
  · split
    · exact ⟨h1, Nat.le_succ_of_le h2, by omega⟩
    · exact ⟨by show D.shown.length = N; rw [D.shown_len]; exact h1, by show ([] : Pnd).length ≤ _; simp, by omega⟩
theorem acts_fuel {N j k : Nat} {D : Dk} (h : ActsP N j k D) (n : Int) : ActsP N (j + 1) k (fuelD D n) := ⟨h.1, Nat.le_succ_of_le h.2.1, by have := h.2.2; omega⟩
theorem acts_fall {N j k k' : Nat} {D : Dk} (h : ActsP N j k D) (hj : j ≤ 99) (hk : k' ≤ k + D.pend.length) (kp : Nat → Bool) : ActsP N (j + 1) k' (fallD kp D) := ⟨by show (sk _ _ _ _).length = N; rw [sk_len]; exact h.1, by show ([] : Pnd).length ≤ _; simp, by have := h.2.1; have := h.2.2; omega⟩
theorem acts_none {N j k : Nat} {D : Dk} (h : ActsP N j k D) : ActsP N (j + 1) k D := ⟨h.1, Nat.le_succ_of_le h.2.1, by have := h.2.2; omega⟩
/-- What a move leaves. -/
def MoveP (w2 : World) (p q z N j : Nat) (ob : Obj) (e c : Value) (W : World) : Prop := ∃ ek D' k', e = errS ek ∧ c = .int .i64 ek ∧ Two w2 W p q z k' ob D' D' ∧ ActsP N (j + 1) k' D'
@[reducible] def ChkS (wc : World) (q z : Nat) (of : Bool) (qa : Option Addr) (pl qc : Nat) (at_ : Int) (W : World) : Prop := W.cell? ⟨q, 2, none⟩ = some (.bool of) ∧ W.cell? ⟨q, 4, none⟩ = some (.slice qa pl qc) ∧ W.cell? ⟨z, 1, none⟩ = some (.int .i64 at_) ∧ Below wc.heap.size wc W
set_option maxHeartbeats 8000000 in
set_option maxRecDepth 100000 in
theorem sruns_law (n : Int) (xs : List Ac) (v : Value) (w : World) (hE : HasErr w) (hA : AReads w v xs) (hl : xs.length ≤ 140737488355328) (hx : ∀ a ∈ xs, a.fine) (hn1 : -9223372036854775808 ≤ n) (hn2 : n ≤ 9223372036854775807) :
    Calls Tryd.prog 3 #[.int .i64 n, v] w fun e w' => e = .returned (.bool true) ∧ Below w.heap.size w w' := by
  obtain ⟨xa, xc, rfl⟩ := hA.form
  obtain ⟨m, hm⟩ : ∃ m, m = xs.length := ⟨_, rfl⟩
  rw [← hm] at hA hl ⊢
  have HA := Lib.hid hA
  have HX := Lib.hid hx
  have HM := Lib.hid hm
  have HE := Lib.hid hE
  have AW := Lib.hid (sawake_any w)
  clear hA hx hm hE
  go_enter Tryd.func3, Tryd.ntmps3
  go_wp2_with fail
  refine AW.out.mono ?_
  rintro e w2 ⟨rfl, hb2⟩
  have HB2 := Lib.hid hb2
  clear hb2 AW
  by_cases hn : n < 1 ∨ 4096 < n
  · as_aux_lemma =>
    have SN := Lib.hid (snew_bad n w2 hn)
    have RN := Lib.hid (rnew_bad n w2 hn)
    have E1 : errS 1 = .iface 53 (.int .i64 1) := rfl
    have E20 : errS 20 = .iface 53 (.int .i64 20) := rfl
    rw [E1] at SN
    have CO := Lib.hid (code_errno 1 w2 (HE.out.below HB2.out))
    go_wp2_with fail
    refine SN.out.mono ?_
    rintro e w3 ⟨rfl, rfl⟩
    go_wp2_with fail
    refine RN.out.mono ?_
    rintro e w4 ⟨rfl, rfl⟩
    go_wp2_with fail
    refine CO.out.mono ?_
    rintro e w5 ⟨rfl, hb5⟩
    have HB5 := Lib.hid (HB2.out.trans (hb5.mono HB2.out.size))
    have SR := Lib.hid (sread_nil 0 w5)
    rw [E20] at SR
    clear hb5 CO SN RN
    go_wp2_with fail
    refine SR.out.mono ?_
    rintro e w6 ⟨rfl, rfl⟩
    have C1 := Lib.hid (code_errno 20 w6 (HE.out.below HB5.out))
    go_wp2_with fail
    refine C1.out.mono ?_
    rintro e w7 ⟨rfl, hb7⟩
    have HB7 := Lib.hid (HB5.out.trans (hb7.mono HB5.out.size))
    have SW := Lib.hid (swrite_nil 0 ⟨#[]⟩ w7)
    have C2 := Lib.hid (code_errno 20 w7 (HE.out.below HB7.out))
    rw [E20] at SW
    clear hb7
    go_wp2_with fail
    refine SW.out.mono ?_
    rintro e w8 ⟨rfl, rfl⟩
    go_wp2_with fail
    refine C2.out.mono ?_
    rintro e w9 ⟨rfl, hb9⟩
    have HB9 := Lib.hid (HB7.out.trans (hb9.mono HB7.out.size))
    have SF := Lib.hid (sflush_nil w9)
    have C3 := Lib.hid (code_errno 20 w9 (HE.out.below HB9.out))
    rw [E20] at SF
    clear hb9
    go_wp2_with fail
    refine SF.out.mono ?_
    rintro e w10 ⟨rfl, rfl⟩
    go_wp2_with fail
    refine C3.out.mono ?_
    rintro e w11 ⟨rfl, hb11⟩
    have HB11 := Lib.hid (HB9.out.trans (hb11.mono HB9.out.size))
    clear hb11
    go_wp2_with fail
    refine (soff_nil _).mono ?_
    rintro e w12 ⟨rfl, rfl⟩
    go_wp2_with fail
    refine (ssize_nil _).mono ?_
    rintro e w13 ⟨rfl, rfl⟩
    go_wp2_with fail
    refine (spend_nil _).mono ?_
    rintro e w14 ⟨rfl, rfl⟩
    go_wp2_with fail
    go_ret
    exact ⟨rfl, HB11.out⟩
  obtain ⟨N, rfl⟩ : ∃ N : Nat, n = (N : Int) := ⟨n.toNat, by omega⟩
  have hN1 : 1 ≤ N := by omega
  have hN9 : N ≤ 4096 := by omega
  have SN := Lib.hid (snew_ok N w2 hN1 hN9)
  clear hn hn1 hn2
  go_wp2_with fail
  refine SN.out.mono ?_
  rintro e w3 ⟨p, rfl, hz3, hb3⟩
  have HZ3 := Lib.hid hz3
  have HB3 := Lib.hid hb3
  have RN := Lib.hid (rnew_ok N w3 hN1 hN9)
  clear hz3 hb3 SN
  go_wp2_with fail
  refine RN.out.mono ?_
  rintro e w4 ⟨q, rfl, hz4, hb4⟩
  have HD4 : Hid (Duo w2 w4 p q 0 (newD N)) := Lib.hid (by
    obtain ⟨Z1, h1, h2⟩ := HZ3.out
    obtain ⟨Z2, g1, g2⟩ := hz4
    exact ⟨⟨Z1, Z2, h1.below hb4, g1, fun j a b => by have := h1.zlt j a; have := g2 j b; omega, h2, fun j a => Nat.le_trans HB3.out.size (g2 j a)⟩, HB3.out.trans (hb4.mono HB3.out.size)⟩)
  have CO := Lib.hid (code_nil w4)
  clear hz4 hb4 HZ3 HB3 RN
  go_wp2_with fail
  refine CO.out.mono ?_
  rintro e w5 ⟨rfl, rfl⟩
  clear CO
  go_wp2_with fail
  obtain ⟨M, hM⟩ : ∃ M, M = min N 40 := ⟨_, rfl⟩
  have HMM := Lib.hid hM
  have hM40 : M ≤ 40 := by omega
  have hMI : Hid (∀ W : World, (Builtin.min_ #[3, 3] 3 #[.int .i64 (N : Int), .int .i64 40]).run Tryd.prog W = .ok (.int .i64 (M : Int)) W) := Lib.hid (fun W => by
    have h : (M : Int) = if (40 : Int) < (N : Int) then 40 else (N : Int) := by rw [hM]; split <;> omega
    rw [h]
    simp [Builtin.min_, Builtin.min2])
  clear hM
  go_loopw [91] (fun jv wr => ∃ (j k : Nat) (D : Dk), jv = .int .i64 (j : Nat) ∧ j ≤ m ∧ j ≤ 100 ∧ Hid (Duo w2 wr p q k D) ∧ Hid (ActsP N j k D)) (fun jv _ => m - (intOf jv).toNat)
  case atStart => exact ⟨0, 0, _, rfl, Nat.zero_le _, Nat.zero_le _, HD4, Lib.hid ⟨by show (List.replicate _ _).length = N; simp, by show ([] : Pnd).length ≤ 0; simp, Nat.zero_le _⟩⟩
  case round =>
    obtain ⟨j, k, D, rfl, hjm, hj100, HDD, HAC⟩ := hrel
    have HPL : Hid (D.pend.length ≤ 1000000) := Lib.hid (by have := HAC.out.2.1; omega)
    by_cases hlt : j < m
    · as_aux_lemma =>
      obtain ⟨a, ha⟩ : ∃ a, xs[j]? = some a := ⟨xs[j]'(by rw [← HM.out]; exact hlt), by simp⟩
      have hfi := HX.out a (List.mem_of_getElem? ha)
      have hbw : Below w.heap.size w wr := HB2.out.trans (HDD.out.2.mono HB2.out.size)
      obtain ⟨xb, xo, kv, rfl, hxl, hxc1, hxc2, d0, d1, d2, d3, hkv⟩ := (HA.out.below hbw).at ha
      obtain ⟨_, _, kv2, hxe, _, _, _, e0, e1, e2, e3, hkv0⟩ := HA.out.at ha
      have hkve : kv2 = kv := by
        simp only [Option.some.injEq, Addr.mk.injEq] at hxe
        obtain ⟨rfl, rfl, _⟩ := hxe
        have := (hbw.cell (p := ⟨xb, xo + j * 4 + 3, none⟩) (cell_lt e3)).trans e3
        rw [d3] at this
        exact (Option.some.inj this).symm
      subst hkve
      obtain ⟨ka, kcc, hkf⟩ := hkv.form
      obtain ⟨kl, hkl⟩ : ∃ kl, kl = a.keep.length := ⟨_, rfl⟩
      rw [← hkl] at hkf
      subst hkf
      obtain ⟨wt, at_, tx, kp⟩ := a
      simp only at d0 d1 d2 d3 hkv hkv0
      obtain ⟨hf1, hf2, hf3, hf4⟩ := hfi
      simp only at hf1 hf2 hf3 hf4
      obtain ⟨z, hz⟩ : ∃ z, z = wr.heap.size := ⟨_, rfl⟩
      obtain ⟨ob, hob⟩ : ∃ ob, ob = Obj.cells #[.int .i64 wt, .int .i64 at_, .string tx, .slice ka kl kcc] 40 := ⟨_, rfl⟩
      obtain ⟨wz, hwz⟩ : ∃ wz, wz = wr.alloc (.cells #[.int .i64 wt, .int .i64 at_, .string tx, .slice ka kl kcc] 40) := ⟨_, rfl⟩
      have htz : Two w2 wz p q z k ob D D := by rw [hwz, hz, hob]; exact HDD.out.watch _
      have HKV : Hid (∀ W, Below w2.heap.size w2 W → RB W (.slice ka kl kcc) kp) := Lib.hid (fun W hb => hkv0.below (HB2.out.trans (hb.mono HB2.out.size)))
      have HKZ : Hid (kp ≠ [] → ∀ b o n c, Value.slice ka kl kcc = .slice (some ⟨b, o, none⟩) n c → b < w2.heap.size) := Lib.hid (fun hne b o n c e => Nat.lt_of_lt_of_le (hkv0.lt hne b o n c e) HB2.out.size)
      have HOB : Hid (∀ W : World, W.heap[z]? = some ob → W.cell? ⟨z, 0, none⟩ = some (.int .i64 wt) ∧ W.cell? ⟨z, 1, none⟩ = some (.int .i64 at_) ∧ W.cell? ⟨z, 2, none⟩ = some (.string tx) ∧ W.cell? ⟨z, 3, none⟩ = some (.slice ka kl kcc)) := Lib.hid (fun W h => by
        rw [hob] at h
        exact ⟨ob_cell h rfl, ob_cell h rfl, ob_cell h rfl, ob_cell h rfl⟩)
      have HTZ := Lib.hid htz
      obtain ⟨z0, z1, z2, z3⟩ := HOB.out wz htz.2.2.1
      have HWZ := Lib.hid hwz
      unfold maxLen at hxc2
      clear ha hbw hkv hkv0 hxe e0 e1 e2 e3 htz hob hwz hxl hkl
      by_cases h100 : j = 100
      · have hjb : ((j : Int) == (100 : Int)) = true := by rw [beq_iff_eq]; omega
        have HDF := Lib.hid HTZ.out.duo
        have hmin := hMI.out
        clear h100
        as_aux_lemma =>
        go_wp2_with fail
        rw [← HWZ.out]
        go_loopw [205] (fun iv wr => ∃ i : Nat, iv = .int .i64 (i : Nat) ∧ i ≤ M ∧ Hid (Duo w2 wr p q k D)) (fun iv _ => M - (intOf iv).toNat)
        case atStart => exact ⟨0, rfl, Nat.zero_le _, HDF⟩
        case round => as_aux_lemma =>
          obtain ⟨i, rfl, hiM, HDR⟩ := hrel
          by_cases hil : i < M
          · have RD := Lib.hid (dread HDR.out (i : Int))
            obtain ⟨rs, hrs⟩ : ∃ rs, rs = (readD D (i : Int)).1 := ⟨_, rfl⟩
            obtain ⟨rk, hrk⟩ : ∃ rk, rk = (readD D (i : Int)).2 := ⟨_, rfl⟩
            have HRS := Lib.hid (And.intro hrs hrk)
            rw [← hrs, ← hrk] at RD
            obtain ⟨ev, hev⟩ : ∃ ev, ev = errS rk := ⟨_, rfl⟩
            rw [← hev] at RD
            have HEV := Lib.hid hev
            clear hrs hrk hev
            have hsx := same_str rs
            go_wp2_with fail
            refine RD.out.mono ?_
            rintro e w7 ⟨rfl, hb7⟩
            have HD7 := Lib.hid (HDR.out.below hb7)
            have RR := Lib.hid (durread HD7.out (i : Int) HPL.out)
            rw [← HRS.out.1, ← HRS.out.2] at RR
            clear hb7 RD
            go_wp2_with fail
            refine RR.out.mono ?_
            rintro e w8 ⟨rfl, hb8⟩
            have HD8 := Lib.hid (HD7.out.below hb8)
            have CE := Lib.hid (code_s rk w8 (HE.out.below (HB2.out.trans (HD8.out.2.mono HB2.out.size))))
            rw [← HEV.out] at CE
            clear hb8 RR
            go_wp2_with fail
            refine CE.out.mono ?_
            rintro e w9 ⟨rfl, hb9⟩
            have HD9 := Lib.hid (HD8.out.below hb9)
            clear hb9 CE
            go_wp2_with fail
            exact ⟨⟨i + 1, by go_num, by omega, HD9⟩, by simp [intOf]; omega⟩
          · have hie : M = i := by omega
            subst hie
            have HBF := Lib.hid (HB2.out.trans (HDR.out.2.mono HB2.out.size))
            go_wp2_with fail
            go_ret
            exact ⟨rfl, HBF.out⟩
      have hjb : ((j : Int) == (100 : Int)) = false := by rw [beq_eq_false_iff_ne]; omega
      have hj99 : j ≤ 99 := by omega
      clear h100
      go_upto_block 2 with fail
      rw [← hz, ← HWZ.out]
      clear hz d0 d1 d2 d3
      go_cut [13, 14] from 98 to 141 (fun e c W => MoveP w2 p q z N j ob e c W)
      case first =>
        as_aux_lemma =>
        by_cases h0 : wt = 0
        · have b0 : (wt == (0 : Int)) = true := by rw [beq_iff_eq]; exact h0
          have TW := Lib.hid (twrite HTZ.out at_ tx HPL.out hf3)
          clear h0
          go_wp2_with fail
          refine TW.out.mono ?_
          rintro e w7 ⟨rfl, ht⟩
          obtain ⟨y0, y1, y2, y3⟩ := HOB.out w7 ht.2.2.1
          have TR := Lib.hid (urwrite ht HTZ.out.ok at_ tx HPL.out)
          clear ht TW
          go_wp2_with fail
          refine TR.out.mono ?_
          rintro e w8 ⟨rfl, ht⟩
          have HMV : Hid (MoveP w2 p q z N j ob (errS (writeD D at_ tx).2) (.int .i64 (writeD D at_ tx).2) w8) := Lib.hid ⟨_, _, _, rfl, rfl, ht, acts_write HAC.out at_ tx⟩
          clear ht TR
          go_wp2_with fail
          go_meet
          exact HMV.out
        have b0 : (wt == (0 : Int)) = false := by rw [beq_eq_false_iff_ne]; exact h0
        by_cases h1 : wt = 1
        · have b1 : (wt == (1 : Int)) = true := by rw [beq_iff_eq]; exact h1
          have TW := Lib.hid (tflush HTZ.out HPL.out)
          clear h0 h1
          go_wp2_with fail
          refine TW.out.mono ?_
          rintro e w7 ⟨rfl, ht⟩
          have hk9 : k ≤ 100000000 := by have := HAC.out.2.2; omega
          have TR := Lib.hid (urflush ht HTZ.out.ok HPL.out hk9)
          clear ht TW hk9
          go_wp2_with fail
          refine TR.out.mono ?_
          rintro e w8 ⟨rfl, k', ht, hk'⟩
          have HMV : Hid (MoveP w2 p q z N j ob (errS (flushD D).2) (.int .i64 (flushD D).2) w8) := Lib.hid ⟨_, _, _, rfl, rfl, ht, acts_flush HAC.out hj99 hk'⟩
          clear ht TR hk'
          go_wp2_with fail
          go_meet
          exact HMV.out
        have b1 : (wt == (1 : Int)) = false := by rw [beq_eq_false_iff_ne]; exact h1
        by_cases h2 : wt = 2
        · have b2 : (wt == (2 : Int)) = true := by rw [beq_iff_eq]; exact h2
          have TW := Lib.hid (tfuel HTZ.out at_ hf1)
          clear h0 h1 h2
          have E0 : errS 0 = .nilIface := rfl
          go_wp2_with fail
          refine TW.out.mono ?_
          rintro e w7 ⟨rfl, ht⟩
          obtain ⟨y0, y1, y2, y3⟩ := HOB.out w7 ht.2.2.1
          obtain ⟨ca, cc, _, _, q1, q1f⟩ := ht.cells
          have hlf := ht.left at_
          have HMV : Hid (MoveP w2 p q z N j ob .nilIface (.int .i64 0) (w7.setCell ⟨q, 1, none⟩ (.int .i64 (max at_ (-1))))) := Lib.hid ⟨0, fuelD D at_, k, rfl, rfl, hlf, acts_fuel HAC.out at_⟩
          clear ht TW hlf
          go_wp2_with fail
          go_meet
          exact HMV.out
        have b2 : (wt == (2 : Int)) = false := by rw [beq_eq_false_iff_ne]; exact h2
        by_cases h3 : wt = 3
        · have b3 : (wt == (3 : Int)) = true := by rw [beq_iff_eq]; exact h3
          have TW := Lib.hid (tfall HTZ.out kp (.slice ka kl kcc) HPL.out (HKV.out wz HTZ.out.2.2.2) HKZ.out)
          clear h0 h1 h2 h3
          go_wp2_with fail
          refine TW.out.mono ?_
          rintro e w7 ⟨rfl, ht⟩
          obtain ⟨y0, y1, y2, y3⟩ := HOB.out w7 ht.2.2.1
          have hk9 : k ≤ 100000000 := by have := HAC.out.2.2; omega
          have TR := Lib.hid (urfall ht HTZ.out.ok kp (.slice ka kl kcc) HPL.out hk9 (HKV.out w7 ht.2.2.2) HKZ.out)
          clear ht TW hk9
          go_wp2_with fail
          refine TR.out.mono ?_
          rintro e w8 ⟨rfl, k', ht, hk'⟩
          have HMV : Hid (MoveP w2 p q z N j ob .nilIface (.int .i64 0) w8) := Lib.hid ⟨0, _, _, rfl, rfl, ht, acts_fall HAC.out hj99 hk' _⟩
          clear ht TR hk'
          go_wp2_with fail
          go_meet
          exact HMV.out
        have b3 : (wt == (3 : Int)) = false := by rw [beq_eq_false_iff_ne]; exact h3
        have HMV : Hid (MoveP w2 p q z N j ob .nilIface (.int .i64 0) wz) := Lib.hid ⟨0, _, _, rfl, rfl, HTZ.out, acts_none HAC.out⟩
        clear h0 h1 h2 h3
        go_wp2_with fail
        go_meet
        exact HMV.out
      case rest =>
        as_aux_lemma =>
        obtain ⟨ek, D', k', rfl, rfl, ht, hac⟩ := hcut
        obtain ⟨y0, y1, y2, y3⟩ := HOB.out wc ht.2.2.1
        obtain ⟨qa, qc, q2, q4, _, _⟩ := ht.cells
        obtain ⟨ev, hev⟩ : ∃ ev, ev = errS ek := ⟨_, rfl⟩
        rw [← hev]
        obtain ⟨pl, hpl⟩ : ∃ pl, pl = D'.pend.length := ⟨_, rfl⟩
        obtain ⟨of, hof⟩ : ∃ of, of = D'.off := ⟨_, rfl⟩
        rw [← hpl] at q4
        rw [← hof] at q2
        have HSL := Lib.hid hac.1
        have HAC2 := Lib.hid hac
        have HT := Lib.hid ht
        have HQL : Hid (q < wc.heap.size) := Lib.hid (cell_lt q2)
        have HZL : Hid (z < wc.heap.size) := Lib.hid ht.2.1
        have hS0 : ChkS wc q z of qa pl qc at_ wc := ⟨q2, q4, y1, Below.refl _ _⟩
        have HS0 : Hid (ChkS wc q z of qa pl qc at_ wc.drew) := Lib.hid ⟨q2, q4, y1, (Below.refl _ _).drew⟩
        have HBL : Hid (∀ W W', ChkS wc q z of qa pl qc at_ W → Below W.heap.size W W' → ChkS wc q z of qa pl qc at_ W') := Lib.hid (fun W W' h hb => by
          have h4 := h.2.2.2
          have hq := Nat.lt_of_lt_of_le HQL.out h4.size
          have hz := Nat.lt_of_lt_of_le HZL.out h4.size
          exact ⟨(hb.cell (p := ⟨q, 2, none⟩) hq).trans h.1, (hb.cell (p := ⟨q, 4, none⟩) hq).trans h.2.1, (hb.cell (p := ⟨z, 1, none⟩) hz).trans h.2.2.1, h4.trans (hb.mono h4.size)⟩)
        have HCO : Hid (∀ W, ChkS wc q z of qa pl qc at_ W → Calls Tryd.prog 8 #[ev] W fun e w' => e = .returned (.int .i64 ek) ∧ Below W.heap.size W w') := Lib.hid (fun W h => by
          rw [hev]
          exact code_s ek W (HE.out.below (HB2.out.trans ((HT.out.2.2.2.trans (h.2.2.2.mono HT.out.2.2.2.size)).mono HB2.out.size))))
        have HCF : Hid (∀ W, ChkS wc q z of qa pl qc at_ W → Calls Tryd.prog 12 #[.pointer (some ⟨p, 0, none⟩)] W fun e w' => e = .returned (.bool of) ∧ Below W.heap.size W w') := Lib.hid (fun W h => (toff (HT.out.below h.2.2.2)).mono fun e w' ⟨a, b⟩ => ⟨by rw [a, hof], by rw [b]; exact Below.refl _ _⟩)
        have HCP : Hid (∀ W, ChkS wc q z of qa pl qc at_ W → Calls Tryd.prog 14 #[.pointer (some ⟨p, 0, none⟩)] W fun e w' => e = .returned (.int .i64 (pl : Int)) ∧ Below W.heap.size W w') := Lib.hid (fun W h => (tpend (HT.out.below h.2.2.2)).mono fun e w' ⟨a, b⟩ => ⟨by rw [a, hpl], by rw [b]; exact Below.refl _ _⟩)
        have HCS : Hid (∀ W, ChkS wc q z of qa pl qc at_ W → Calls Tryd.prog 13 #[.pointer (some ⟨p, 0, none⟩)] W fun e w' => e = .returned (.int .i64 (N : Int)) ∧ Below W.heap.size W w') := Lib.hid (fun W h => (tsize (HT.out.below h.2.2.2)).mono fun e w' ⟨a, b⟩ => ⟨by rw [a, HSL.out], by rw [b]; exact Below.refl _ _⟩)
        have HEV := Lib.hid hev
        have nn1 : (ek != ek) = false := by simp
        have nn2 : (of != of) = false := by simp
        have nn3 : ((pl : Int) != (pl : Int)) = false := by simp
        have nn4 : ((N : Int) != (N : Int)) = false := by simp
        clear ht hac hev hpl hof hS0 y0 y1 y2 y3 q2 q4
        go_wp2_with fail
        go_region_held3 (fun W => W.cell? ⟨q, 2, none⟩ = some (.bool of) ∧ W.cell? ⟨q, 4, none⟩ = some (.slice qa pl qc) ∧ W.cell? ⟨z, 1, none⟩ = some (.int .i64 at_) ∧ Below wc.heap.size wc W)
          (first | with_reducible exact HS6.out | with_reducible exact HS5.out | with_reducible exact HS4.out | with_reducible exact HS3.out | with_reducible exact HS0.out)
          (first
            | (go_at_call 8; have hq : ChkS wc q z of qa pl qc at_ _ := (by assumption); (with_reducible refine (HCO.out _ hq).mono ?_); rintro e w3 ⟨rfl, hb3⟩; have HS3 := Lib.hid (HBL.out _ w3 hq hb3); clear hq hb3)
            | (go_at_call 12; have hq : ChkS wc q z of qa pl qc at_ _ := (by assumption); (with_reducible refine (HCF.out _ hq).mono ?_); rintro e w4 ⟨rfl, hb4⟩; have HS4 := Lib.hid (HBL.out _ w4 hq hb4); clear hq hb4)
            | (go_at_call 14; have hq : ChkS wc q z of qa pl qc at_ _ := (by assumption); (with_reducible refine (HCP.out _ hq).mono ?_); rintro e w5 ⟨rfl, hb5⟩; have HS5 := Lib.hid (HBL.out _ w5 hq hb5); clear hq hb5)
            | (go_at_call 13; have hq : ChkS wc q z of qa pl qc at_ _ := (by assumption); (with_reducible refine (HCS.out _ hq).mono ?_); rintro e w6 ⟨rfl, hb6⟩; have HS6 := Lib.hid (HBL.out _ w6 hq hb6); clear hq hb6))
        rename_i hHeld
        clear hHeld HS3 HS4 HS5 HS0 HCO HCF HCP HCS HBL
        have y1 := HS6.out.2.2.1
        obtain ⟨bb, hbb⟩ : ∃ bb, bb = w6.heap.size := ⟨_, rfl⟩
        obtain ⟨w7, hw7⟩ : ∃ w7, w7 = w6.alloc (.cells #[.int .i64 (-1), .int .i64 at_, .int .i64 (N : Int)] 3) := ⟨_, rfl⟩
        have hb7 : Below w6.heap.size w6 w7 := by rw [hw7]; exact (Below.refl _ _).alloc (Nat.le_refl _) _
        have x0 : w7.cell? ⟨bb, 0, none⟩ = some (.int .i64 (-1)) := by rw [hw7, hbb, World.cell?_alloc_at _ _ _ _ rfl]; rfl
        have x1 : w7.cell? ⟨bb, 1, none⟩ = some (.int .i64 at_) := by rw [hw7, hbb, World.cell?_alloc_at _ _ _ _ rfl]; rfl
        have x2 : w7.cell? ⟨bb, 2, none⟩ = some (.int .i64 (N : Int)) := by rw [hw7, hbb, World.cell?_alloc_at _ _ _ _ rfl]; rfl
        have HX : Hid (∀ W, Below w7.heap.size w7 W → ∀ i : Nat, i < 3 → ∃ y : Int, W.cell? ⟨bb, i, none⟩ = some (.int .i64 y)) := Lib.hid (fun W hb i hi => by
          have hl := cell_lt x0
          match i, hi with
          | 0, _ => exact ⟨_, (hb.cell (p := ⟨bb, 0, none⟩) hl).trans x0⟩
          | 1, _ => exact ⟨_, (hb.cell (p := ⟨bb, 1, none⟩) hl).trans x1⟩
          | 2, _ => exact ⟨_, (hb.cell (p := ⟨bb, 2, none⟩) hl).trans x2⟩)
        have HD7 := Lib.hid ((HT.out.below HS6.out.2.2.2).duo.below hb7)
        have HW7 := Lib.hid hw7
        have HB0 := Lib.hid (Below.refl w7.heap.size w7)
        have HPL2 : Hid (D'.pend.length ≤ 1000000) := Lib.hid (by have := HAC2.out.2.1; omega)
        clear hb7 hw7 x0 x1 x2 HPL HMM
        go_wp2_with fail
        rw [← hbb, ← HW7.out]
        clear hbb y1
        go_loopw [176] (fun iv wr => ∃ i : Nat, iv = .int .i64 (i : Nat) ∧ i ≤ 3 ∧ Hid (Below w7.heap.size w7 wr)) (fun iv _ => 3 - (intOf iv).toNat)
        case atStart => exact ⟨0, rfl, Nat.zero_le _, HB0⟩
        case round => as_aux_lemma =>
          obtain ⟨i, rfl, hi3, HBI⟩ := hrel
          by_cases hil : i < 3
          · obtain ⟨y, hy⟩ := HX.out wr HBI.out i hil
            have HDR := Lib.hid (HD7.out.below HBI.out)
            have RD := Lib.hid (dread HDR.out y)
            obtain ⟨rs, hrs⟩ : ∃ rs, rs = (readD D' y).1 := ⟨_, rfl⟩
            obtain ⟨rk, hrk⟩ : ∃ rk, rk = (readD D' y).2 := ⟨_, rfl⟩
            have HRS := Lib.hid (And.intro hrs hrk)
            rw [← hrs, ← hrk] at RD
            obtain ⟨ew, hew⟩ : ∃ ew, ew = errS rk := ⟨_, rfl⟩
            rw [← hew] at RD
            have HEW := Lib.hid hew
            clear hrs hrk hew
            have hsx := same_str rs
            go_wp2_with fail
            refine RD.out.mono ?_
            rintro e w8 ⟨rfl, hb8⟩
            have HD8 := Lib.hid (HDR.out.below hb8)
            have HB8 := Lib.hid (HBI.out.trans (hb8.mono HBI.out.size))
            have RR := Lib.hid (durread HD8.out y HPL2.out)
            rw [← HRS.out.1, ← HRS.out.2] at RR
            clear hb8 RD
            go_wp2_with fail
            refine RR.out.mono ?_
            rintro e w9 ⟨rfl, hb9⟩
            have HD9 := Lib.hid (HD8.out.below hb9)
            have HB9 := Lib.hid (HB8.out.trans (hb9.mono HB8.out.size))
            have CE := Lib.hid (code_s rk w9 (HE.out.below (HB2.out.trans (HD9.out.2.mono HB2.out.size))))
            rw [← HEW.out] at CE
            clear hb9 RR
            go_wp2_with fail
            refine CE.out.mono ?_
            rintro e w10 ⟨rfl, hb10⟩
            have HB10 := Lib.hid (HB9.out.trans (hb10.mono HB9.out.size))
            clear hb10 CE
            go_wp2_with fail
            exact ⟨⟨i + 1, by go_num, by omega, HB10⟩, by simp [intOf]; omega⟩
          · have hie : i = 3 := by omega
            have HDX := Lib.hid (HD7.out.below HBI.out)
            subst hie
            go_wp2_with fail
            exact ⟨⟨j + 1, k', D', by go_num, by omega, by omega, HDX, HAC2⟩, by simp [intOf]; omega⟩
    · have hjj : m = j := by omega
      have HDF := HDD
      have hmin := hMI.out
      subst hjj
      as_aux_lemma =>
      go_wp2_with fail
      go_loopw [205] (fun iv wr => ∃ i : Nat, iv = .int .i64 (i : Nat) ∧ i ≤ M ∧ Hid (Duo w2 wr p q k D)) (fun iv _ => M - (intOf iv).toNat)
      case atStart => exact ⟨0, rfl, Nat.zero_le _, HDF⟩
      case round => as_aux_lemma =>
        obtain ⟨i, rfl, hiM, HDR⟩ := hrel
        by_cases hil : i < M
        · have RD := Lib.hid (dread HDR.out (i : Int))
          obtain ⟨rs, hrs⟩ : ∃ rs, rs = (readD D (i : Int)).1 := ⟨_, rfl⟩
          obtain ⟨rk, hrk⟩ : ∃ rk, rk = (readD D (i : Int)).2 := ⟨_, rfl⟩
          have HRS := Lib.hid (And.intro hrs hrk)
          rw [← hrs, ← hrk] at RD
          obtain ⟨ev, hev⟩ : ∃ ev, ev = errS rk := ⟨_, rfl⟩
          rw [← hev] at RD
          have HEV := Lib.hid hev
          clear hrs hrk hev
          have hsx := same_str rs
          go_wp2_with fail
          refine RD.out.mono ?_
          rintro e w7 ⟨rfl, hb7⟩
          have HD7 := Lib.hid (HDR.out.below hb7)
          have RR := Lib.hid (durread HD7.out (i : Int) HPL.out)
          rw [← HRS.out.1, ← HRS.out.2] at RR
          clear hb7 RD
          go_wp2_with fail
          refine RR.out.mono ?_
          rintro e w8 ⟨rfl, hb8⟩
          have HD8 := Lib.hid (HD7.out.below hb8)
          have CE := Lib.hid (code_s rk w8 (HE.out.below (HB2.out.trans (HD8.out.2.mono HB2.out.size))))
          rw [← HEV.out] at CE
          clear hb8 RR
          go_wp2_with fail
          refine CE.out.mono ?_
          rintro e w9 ⟨rfl, hb9⟩
          have HD9 := Lib.hid (HD8.out.below hb9)
          clear hb9 CE
          go_wp2_with fail
          exact ⟨⟨i + 1, by go_num, by omega, HD9⟩, by simp [intOf]; omega⟩
        · have hie : M = i := by omega
          subst hie
          have HBF := Lib.hid (HB2.out.trans (HDR.out.2.mono HB2.out.size))
          go_wp2_with fail
          go_ret
          exact ⟨rfl, HBF.out⟩
end Go.Proofs.YtbicecbcloellaaDoor
