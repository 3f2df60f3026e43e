/- The contract of the document's Full. RedoSteps: its walk. -/
import Derived.Deep.OwnRows
import Derived.Test.YthamfbfeokmhgaaGreatDoorV20
import Derived.Test.YthamfbfeokmhgaaGreatDoorV32
import Derived.Test.YthamfbfeokmhgaaGreatDoorV48
set_option linter.unusedVariables false
set_option linter.unusedSimpArgs false
namespace Go.Proofs.YthamfbfeokmhgaaGreatDoor
open Go.ChangeShapes Go.WideShapes Go.ChangeAt Go.RowKit

theorem infoBy : (Tryz.prog.info? 5).map (fun i => (i.zero, i.size, i.bytes)) = some (some (.int .u8 0), 1, 1) := by kernel_rfl
set_option maxRecDepth 100000 in
theorem rfull_any (s : ByteArray) (w : World) (hs : s.size ≤ 512) : Calls Tryz.prog 19 #[.string s] w fun e w' => e = .returned (.string (fullB s)) ∧ Below w.heap.size w w' := by
  obtain ⟨c, hc⟩ : ∃ c, c = 512 - s.size := ⟨_, rfl⟩
  have hwr : IntKind.i64.wrap (512 - (s.size : Int)) = (c : Int) := by rw [IntKind.wrap_i64]; omega
  have mk1 := run_make_row' (P := Tryz.prog) 79 5 (.int .u8 0) 1 Tryz.underlying79 infoBy rfl .i64 .i64 c (by omega) (by omega)
  obtain ⟨zb, hzb⟩ : ∃ zb : ByteArray, zb = ⟨(List.replicate c (0 : UInt8)).toArray⟩ := ⟨_, rfl⟩
  have hcv : (convert 79 9 (.slice (some ⟨w.heap.size, 0, none⟩) c c)).run Tryz.prog (w.alloc (.cells (madeCells #[.int .u8 0] c) 5)) = .ok (.string zb) (w.alloc (.cells (madeCells #[.int .u8 0] c) 5)) := by
    have h := run_convert_bytes_back (P := Tryz.prog) (w.alloc (.cells (madeCells #[.int .u8 0] c) 5)) 79 9 5 ⟨w.heap.size, 0, none⟩ c (List.replicate c (0 : UInt8)) Tryz.underlying79 Tryz.underlying5 Tryz.underlying9 (fun j hj => by
      have hj2 : j < c := by simpa using hj
      rw [Addr.add_lit, World.cell?_alloc_at _ _ _ _ rfl]
      simp [madeCells, hj2, Nat.mod_one])
    rw [List.length_replicate] at h
    rw [h, hzb]
  have hzs : zb.size ≤ 512 := by
    rw [hzb]
    show (List.replicate c (0 : UInt8)).toArray.size ≤ 512
    simp; omega
  have hcat : ¬ 9223372036854775807 < s.size + zb.size := by omega
  have HAP := Lib.hid (show s ++ zb = fullB s by rw [hzb, hc]; exact app_full s)
  have hc9 : c ≤ 512 := by omega
  clear hc hzb
  go_enter Tryz.func19, Tryz.ntmps19
  go_wp2_with fail
  go_ret
  exact ⟨by rw [HAP.out]; rfl, (Below.refl _ _).alloc (Nat.le_refl _) _⟩
end Go.Proofs.YthamfbfeokmhgaaGreatDoor
set_option linter.unusedVariables false
set_option linter.unusedSimpArgs false
namespace Go.Proofs.YthamfbfeokmhgaaGreatDoor
open Go.ChangeShapes Go.WideShapes Go.ChangeAt Go.RowKit

theorem wrap_in {x : Int} (h0 : -9223372036854775808 ≤ x) (h1 : x ≤ 9223372036854775807) : wrap64 x = x := by
  unfold wrap64; omega
theorem cut_is (cut : Int) (m : Nat) (hm : m ≤ 63) : ∃ c : Nat, c < 2 * m + 8 ∧ (wrap64 (wrap64 (cut.tmod (2 * (m : Int) + 6 + 2) + (2 * (m : Int) + 6)) + 2)).tmod (2 * (m : Int) + 6 + 2) = (c : Int) := by
  obtain ⟨M, hM⟩ : ∃ M : Int, M = 2 * (m : Int) + 6 + 2 := ⟨_, rfl⟩
  rw [← hM]
  have h0 : 0 < M := by omega
  have h2 := Int.tmod_lt_of_pos cut h0
  have h3 := Int.lt_tmod_of_pos cut h0
  obtain ⟨u, hu⟩ : ∃ u, u = Int.tmod cut M := ⟨_, rfl⟩
  rw [← hu] at h2 h3 ⊢
  rw [wrap_in (x := u + (2 * (m : Int) + 6)) (by omega) (by omega), wrap_in (x := u + (2 * (m : Int) + 6) + 2) (by omega) (by omega)]
  have h4 : 0 ≤ u + (2 * (m : Int) + 6) + 2 := by omega
  have h5 := Int.tmod_lt_of_pos (u + (2 * (m : Int) + 6) + 2) h0
  have h6 := Int.tmod_nonneg M h4
  exact ⟨(Int.tmod (u + (2 * (m : Int) + 6) + 2) M).toNat, by omega, by omega⟩
set_option maxHeartbeats 2000000 in
set_option maxRecDepth 100000 in
theorem rsteps_law (r : RawP) (v : Value) (cut : Int) (w : World) (he : Env13 w) (hg : HasErr w) (hl : PgR w v r) (hlz : ∀ b o n c, v = .slice (some ⟨b, o, none⟩) n c → r ≠ [] → b < w.heap.size) (hl9 : r.length ≤ 140737488355328) (h0 : -9223372036854775808 ≤ cut) (h1 : cut ≤ 9223372036854775807) :
    Calls Tryz.prog 4 #[v, .int .i64 cut] w fun e w' => e = .returned (.bool true) ∧ Below w.heap.size w w' := by
  have AW := Lib.hid (rawake_any w he)
  obtain ⟨a, c0, rfl⟩ := hl.form
  obtain ⟨m, hm⟩ : ∃ m, m = r.length := ⟨_, rfl⟩
  by_cases hm0 : m = 0
  · rw [← hm, hm0]
    clear hl hlz hl9 he hg hm hm0
    go_enter Tryz.func4, Tryz.ntmps4
    go_wp2_with fail
    refine AW.out.mono ?_
    rintro e w1 ⟨rfl, hb⟩
    have HB := Lib.hid hb
    clear hb
    go_wp2_with fail
    go_ret
    exact ⟨rfl, HB.out⟩
  by_cases hm63 : 63 < m
  · rw [← hm]
    have h63I : (63 : Int) < (m : Int) := by omega
    have h0I : ¬ (m : Int) = 0 := by omega
    clear hl hlz hl9 he hg hm
    go_enter Tryz.func4, Tryz.ntmps4
    go_wp2_with fail
    refine AW.out.mono ?_
    rintro e w1 ⟨rfl, hb⟩
    have HB := Lib.hid hb
    clear hb
    go_wp2_with fail
    go_ret
    exact ⟨rfl, HB.out⟩
  have hone : r ≠ [] := fun e => by rw [e] at hm; simp at hm; omega
  have h63I : ¬ (63 : Int) < (m : Int) := by omega
  have h0I : ¬ (m : Int) = 0 := by omega
  have N := Lib.hid (fun W => knew 130 W (by omega) (by omega))
  have HE := Lib.hid he
  have HG := Lib.hid hg
  have HL := Lib.hid hl
  have HLZ := Lib.hid hlz
  have HM := Lib.hid hm
  obtain ⟨c, hc, hcut⟩ := cut_is cut m (by omega)
  rw [← hm] at HL HLZ ⊢
  have h0B : ((m : Int) == 0) = false := by simp; omega
  clear he hg hl hlz hl9 hm hone hm0
  go_enter Tryz.func4, Tryz.ntmps4
  go_wp2_with fail
  refine AW.out.mono ?_
  rintro e w1 ⟨rfl, hb1⟩
  have HB1 := Lib.hid hb1
  clear hb1
  go_wp2_with fail
  refine (N.out _).mono ?_
  rintro e w2 ⟨p, rfl, hk⟩
  have hk2 : DK w w2 p (newD 130) := by
    obtain ⟨⟨Z, k1, k2⟩, k3⟩ := hk
    exact ⟨⟨Z, k1, fun i hi => Nat.le_trans HB1.out.size (k2 i hi)⟩, HB1.out.trans (k3.mono HB1.out.size)⟩
  have HO := Lib.hid (hk2.open_new (by omega) HE.out)
  clear hk hk2
  go_wp2_with fail
  refine HO.out.mono ?_
  rintro e w3 ⟨q, D, rfl, hd, ho, hp, hcl, _, hln⟩
  have HFU := Lib.hid (hd.fuel (c : Int) (by omega))
  clear hd
  have HCUT := Lib.hid hcut
  clear hcut
  go_wp2_with fail
  rw [HCUT.out]
  clear AW N HO
  by_cases hok : okR 66 r
  · obtain ⟨l, rfl, hgd⟩ := okR_of hok
    have hll : l.length = m := by rw [HM.out, ofP_len]
    have hgd' : goodP (D.sure.length - 64) l := by rw [hln]; exact hgd
    have hhs : (headB l).size ≤ 512 := headB_size (fun p hp => by have := (hgd.1 p hp).1; omega) (by omega)
    obtain ⟨D1, hD1⟩ : ∃ D1, D1 = fuelD D (c : Int) := ⟨_, rfl⟩
    rw [← hD1] at HFU
    have hf1 : D1.fuel = (c : Int) := by rw [hD1]; show max (c : Int) (-1) = _; omega
    have ho1 : D1.off = false := by rw [hD1]; exact ho
    have hp1 : D1.pend = [] := by rw [hD1]; exact hp
    have hs1 : D1.sure = D.sure := by rw [hD1]; rfl
    have hS1 : 65 ≤ D1.sure.length := by rw [hs1, hln]; omega
    have hc1 : Clean D1.sure P0 := by rw [hs1]; exact hcl
    have hgd1 : goodP (D1.sure.length - 64) l := by rw [hs1]; exact hgd'
    obtain ⟨Pf, hPf⟩ : ∃ Pf, Pf = if (c : Int) < (l.length : Int) + 3 then P0 else updP P0 l := ⟨_, rfl⟩
    have key : ∃ X k, runD D1 (commitBs l) = (X, k) ∧ X.sure.length = 130 ∧ X.pend.length ≤ 63 ∧ StR X.sure Pf ∧ ((k = 0 ∧ 2 * m + 6 ≤ c) ∨ (k = 20 ∧ c < 2 * m + 6)) := by
      refine ⟨(runD D1 (commitBs l)).1, (runD D1 (commitBs l)).2, rfl, ?_⟩
      by_cases hcs : c < 2 * m + 6
      · obtain ⟨k1, k2, k3, _, _, k6⟩ := commit_cut ho1 hp1 hS1 hc1 hgd1 (by omega) (by omega) hhs (by omega) (by omega)
        rw [hf1] at k6
        exact ⟨by rw [k1, hs1, hln], k2, by rw [hPf]; exact k6, .inr ⟨k3, hcs⟩⟩
      · have k3 := commit_done ho1 hp1 hS1 hgd1 (by omega) hhs (.inr (by omega))
        obtain ⟨k1, k2, k4⟩ := commit_left ho1 hp1 hS1 hc1 hgd1 (by omega) (by omega) hhs (by omega)
        obtain ⟨_, _, _, k5⟩ := k4.resolve_right (fun h => by rw [k3] at h; cases h.1)
        refine ⟨by rw [k1, hs1, hln], k2, ?_, .inl ⟨k3, by omega⟩⟩
        rw [hPf, if_neg (by omega)]
        exact .inl k5
    obtain ⟨X, k, hX, hXl, hXp, hXs, hkk⟩ := key
    have HPF := Lib.hid hPf
    have HGD := Lib.hid hgd
    have HLL := Lib.hid hll
    have HCM : Hid (∀ W, DR w W p q D1 → Calls Tryz.prog 14 #[.pointer (some ⟨q, 0, none⟩), .slice a m c0] W fun e w' => e = .returned (errS k) ∧ DR w w' p q X) := Lib.hid (fun W hW => by
      have h := hW.commit (Below.refl _ _) (.slice a m c0) l (HL.out.below hW.bel) (fun b o n c e => .inl (HLZ.out b o n c e (fun e2 => by rw [← ofP_len, e2] at hll; simp at hll; omega))) (by omega) (by omega) hgd1 (by rw [hp1]; exact Nat.zero_le _) HE.out.tab HE.out.cubes
      rw [hX] at h
      exact h)
    have HCO : Hid (∀ W, Below w.heap.size w W → Calls Tryz.prog 9 #[errS k] W fun e w' => e = .returned (.int .i64 k) ∧ Below W.heap.size W w') := Lib.hid (fun W hW => code_s k W (HG.out.below hW))
    have hXs2 : StR (sk (fun j => ([] : List Bool).getD j false) X.sure X.pend X.pend.length) Pf := by
      have : (fun j => ([] : List Bool).getD j false) = fun _ => false := by funext j; rfl
      rw [this, sk_none]; exact hXs
    have HOP : Hid (∀ W, DR w W p q (fallD (fun j => ([] : List Bool).getD j false) X) → Calls Tryz.prog 8 #[.pointer (some ⟨p, 0, none⟩)] W fun e w' => ∃ q D', e = .returned (.tuple #[.pointer (some ⟨q, 0, none⟩), .nilIface]) ∧ DR w w' p q D' ∧ D'.off = false ∧ D'.pend = [] ∧ Clean D'.sure Pf ∧ D'.sure.length = 130) := Lib.hid (fun W hW => by
      have hl9 : (fallD (fun j => ([] : List Bool).getD j false) X).sure.length = 130 := by show (sk _ _ _ _).length = 130; rw [sk_len]; exact hXl
      refine (hW.dk.open_ (P := Pf) rfl rfl (by rw [hl9]; omega) hXs2 HE.out.sents HE.out.tab HE.out.cubes).mono fun e w' ⟨D', k1, k2, k3⟩ => ?_
      rcases k3 with ⟨q, a, b, c, d, e, f⟩ | ⟨hf, _⟩
      · exact ⟨q, D', a, b, c, d, e, by rw [k1, hl9]⟩
      · have : (0 : Int) ≤ -1 := hf
        omega)
    have HXP := Lib.hid hXp
    clear hD1 hf1 ho1 hp1 hs1 hS1 hc1 hgd1 hPf hX hXl hXp hXs hXs2 hgd hgd' hhs hll hok ho hp hcl hln
    refine HFU.out.mono ?_
    rintro e w4 ⟨rfl, hd4⟩
    have HC4 := Lib.hid (HCM.out w4 hd4)
    clear hd4 HCM HFU
    by_cases hdn : (m : Int) + 3 ≤ (c : Int)
    · rcases hkk with ⟨rfl, hkc⟩ | ⟨rfl, hkc⟩
      all_goals
        simp only [errS_zero, errS_ne (show ¬ (20 : Int) = 0 by decide)] at HC4 HCO
        go_wp2_with fail
        refine HC4.out.mono ?_
        rintro e w5 ⟨rfl, hd5⟩
        have HD5 := Lib.hid hd5
        have HCO5 := Lib.hid (HCO.out w5 hd5.bel)
        clear hd5
        go_wp2_with fail
        refine HCO5.out.mono ?_
        rintro e w6 ⟨rfl, hb6⟩
        have hd6 := HD5.out.below hb6
        have HFA := Lib.hid (hd6.fall [] (.slice none 0 0) (by have := HXP.out; omega) (RB.nil _) (fun h => absurd rfl h))
        clear hb6 hd6
        first
          | (have hI : 2 * (m : Int) + 6 ≤ (c : Int) := by omega)
          | (have hI : ¬ 2 * (m : Int) + 6 ≤ (c : Int) := by omega)
        go_wp2_with fail
        refine HFA.out.mono ?_
        rintro e w7 ⟨rfl, hd7⟩
        have HO7 := Lib.hid (HOP.out w7 hd7)
        clear hd7
        go_wp2_with fail
        refine HO7.out.mono ?_
        rintro e w8 ⟨q8, D8, rfl, hd8, ho8, hp8, hc8, hl8⟩
        have HD8 := Lib.hid hd8
        have HRD : Hid (∀ W, DR w W p q8 D8 → ∀ i : Int, 0 ≤ i → i < 66 → Calls Tryz.prog 18 #[.pointer (some ⟨q8, 0, none⟩), .int .i64 i] W fun e w' => e = .returned (.tuple #[.string (Pf i.toNat), .nilIface]) ∧ Below W.heap.size W w') := Lib.hid (fun W hW i h0 h1 => by
          have h := hW.readB i
          rw [pread_clean ho8 hp8 hc8, if_pos (by rw [hl8]; exact ⟨h0, by omega⟩)] at h
          exact h)
        clear hd8 ho8 hp8 hc8 hl8
        go_wp2_with fail
        go_loopw [84] (fun jv wr => ∃ j : Nat, jv = .int .i64 (j : Nat) ∧ j ≤ m ∧ Hid (DR w wr p q8 D8)) (fun jv _ => m - (intOf jv).toNat)
        case atStart => exact ⟨0, rfl, Nat.zero_le _, HD8⟩
        case round =>
          obtain ⟨j, rfl, hjm, HDJ⟩ := hrel
          by_cases hlt : j < m
          · obtain ⟨x, hx⟩ : ∃ x, l[j]? = some x := ⟨l[j]'(by rw [HLL.out]; exact hlt), by simp⟩
            obtain ⟨b, o, rfl, hbl, hmc, hcm, d0, d1⟩ := (HL.out.below HDJ.out.bel).at (ofP_at hx)
            unfold maxLen at hcm
            have hxg := HGD.out.1 x (List.mem_of_getElem? hx)
            have hup : updP P0 l x.1 = fullB x.2 := updP_mem HGD.out.2 (List.mem_of_getElem? hx)
            obtain ⟨i, s⟩ := x
            simp only at d0 d1 hxg hup
            have hjI : (j : Int) < (m : Int) := by omega
            obtain ⟨z, hz⟩ : ∃ z, z = wr.heap.size := ⟨_, rfl⟩
            obtain ⟨wz, hwz⟩ : ∃ wz, wz = wr.alloc (.cells #[.int .i64 (i : Int), .string s] 49) := ⟨_, rfl⟩
            have hbz : Below wr.heap.size wr wz := by rw [hwz]; exact (Below.refl _ _).alloc (Nat.le_refl _) _
            have z0 : wz.cell? ⟨z, 0, none⟩ = some (.int .i64 (i : Int)) := by rw [hwz, hz, World.cell?_alloc_at _ _ _ _ rfl]; rfl
            have z1 : wz.cell? ⟨z, 1, none⟩ = some (.string s) := by rw [hwz, hz, World.cell?_alloc_at _ _ _ _ rfl]; rfl
            have HZL : Hid (z < wz.heap.size) := Lib.hid (by rw [hwz, hz]; simp)
            have HDZ := Lib.hid (HDJ.out.below hbz)
            have hrd := HRD.out wz HDZ.out (i : Int) (by omega) (by have := hxg.1; omega)
            have hFE := fun W => rfull_any ⟨#[]⟩ W (by decide)
            have hFS := fun W => rfull_any s W hxg.2
            have hPi : Pf (i : Int).toNat = if (c : Int) < (m : Int) + 3 then fullB ⟨#[]⟩ else fullB s := by
              rw [HPF.out, HLL.out]
              by_cases h : (c : Int) < (m : Int) + 3
              · rw [if_pos h, if_pos h]; rfl
              · rw [if_neg h, if_neg h]; exact hup
            rw [hPi] at hrd
            obtain ⟨fE, hfE⟩ : ∃ fE, fE = fullB ⟨#[]⟩ := ⟨_, rfl⟩
            obtain ⟨fS, hfS⟩ : ∃ fS, fS = fullB s := ⟨_, rfl⟩
            rw [← hfE] at hrd hFE
            rw [← hfS] at hrd hFS
            have HFE := Lib.hid hFE
            have HFS := Lib.hid hFS
            have HWZ := Lib.hid hwz
            have HZ := Lib.hid hz
            rw [if_neg (by omega)] at hrd
            have HRI := Lib.hid hrd
            clear hx hbz hwz hz hbl hup hxg hrd hFE hFS hPi hfE hfS
            go_wp2_with fail
            rw [← HZ.out, ← HWZ.out]
            refine HRI.out.mono ?_
            rintro e w9 ⟨rfl, hb9⟩
            have q1 := (hb9.cell (p := ⟨z, 1, none⟩) HZL.out).trans z1
            have HD9 := Lib.hid (HDZ.out.below hb9)
            have HZ9 := Lib.hid (Nat.lt_of_lt_of_le HZL.out hb9.size)
            clear hb9 z0 z1
            go_wp2_with fail
            refine (HFE.out _).mono ?_
            rintro e w10 ⟨rfl, hb10⟩
            have q2 := (hb10.cell (p := ⟨z, 1, none⟩) HZ9.out).trans q1
            have HD10 := Lib.hid (HD9.out.below hb10)
            clear hb10 q1
            go_wp2_with fail
            refine (HFS.out _).mono ?_
            rintro e w11 ⟨rfl, hb11⟩
            have HD11 := Lib.hid (HD10.out.below hb11)
            clear hb11 q2
            go_wp2_with fail
            exact ⟨⟨j + 1, by go_num, by omega, HD11⟩, by simp [intOf]; omega⟩
          · have hjj : m = j := by omega
            have hltI : ¬ (j : Int) < (m : Int) := by omega
            have HBE := Lib.hid HDJ.out.bel
            clear hjj
            go_wp2_with fail
            go_ret
            exact ⟨rfl, HBE.out⟩

    · obtain ⟨rfl, hkc⟩ := hkk.resolve_left (fun h => by omega)
      simp only [errS_zero, errS_ne (show ¬ (20 : Int) = 0 by decide)] at HC4 HCO
      go_wp2_with fail
      refine HC4.out.mono ?_
      rintro e w5 ⟨rfl, hd5⟩
      have HD5 := Lib.hid hd5
      have HCO5 := Lib.hid (HCO.out w5 hd5.bel)
      clear hd5
      go_wp2_with fail
      refine HCO5.out.mono ?_
      rintro e w6 ⟨rfl, hb6⟩
      have hd6 := HD5.out.below hb6
      have HFA := Lib.hid (hd6.fall [] (.slice none 0 0) (by have := HXP.out; omega) (RB.nil _) (fun h => absurd rfl h))
      clear hb6 hd6
      first
        | (have hI : 2 * (m : Int) + 6 ≤ (c : Int) := by omega)
        | (have hI : ¬ 2 * (m : Int) + 6 ≤ (c : Int) := by omega)
      go_wp2_with fail
      refine HFA.out.mono ?_
      rintro e w7 ⟨rfl, hd7⟩
      have HO7 := Lib.hid (HOP.out w7 hd7)
      clear hd7
      go_wp2_with fail
      refine HO7.out.mono ?_
      rintro e w8 ⟨q8, D8, rfl, hd8, ho8, hp8, hc8, hl8⟩
      have HD8 := Lib.hid hd8
      have HRD : Hid (∀ W, DR w W p q8 D8 → ∀ i : Int, 0 ≤ i → i < 66 → Calls Tryz.prog 18 #[.pointer (some ⟨q8, 0, none⟩), .int .i64 i] W fun e w' => e = .returned (.tuple #[.string (Pf i.toNat), .nilIface]) ∧ Below W.heap.size W w') := Lib.hid (fun W hW i h0 h1 => by
        have h := hW.readB i
        rw [pread_clean ho8 hp8 hc8, if_pos (by rw [hl8]; exact ⟨h0, by omega⟩)] at h
        exact h)
      clear hd8 ho8 hp8 hc8 hl8
      go_wp2_with fail
      go_loopw [84] (fun jv wr => ∃ j : Nat, jv = .int .i64 (j : Nat) ∧ j ≤ m ∧ Hid (DR w wr p q8 D8)) (fun jv _ => m - (intOf jv).toNat)
      case atStart => exact ⟨0, rfl, Nat.zero_le _, HD8⟩
      case round =>
        obtain ⟨j, rfl, hjm, HDJ⟩ := hrel
        by_cases hlt : j < m
        · obtain ⟨x, hx⟩ : ∃ x, l[j]? = some x := ⟨l[j]'(by rw [HLL.out]; exact hlt), by simp⟩
          obtain ⟨b, o, rfl, hbl, hmc, hcm, d0, d1⟩ := (HL.out.below HDJ.out.bel).at (ofP_at hx)
          unfold maxLen at hcm
          have hxg := HGD.out.1 x (List.mem_of_getElem? hx)
          have hup : updP P0 l x.1 = fullB x.2 := updP_mem HGD.out.2 (List.mem_of_getElem? hx)
          obtain ⟨i, s⟩ := x
          simp only at d0 d1 hxg hup
          have hjI : (j : Int) < (m : Int) := by omega
          obtain ⟨z, hz⟩ : ∃ z, z = wr.heap.size := ⟨_, rfl⟩
          obtain ⟨wz, hwz⟩ : ∃ wz, wz = wr.alloc (.cells #[.int .i64 (i : Int), .string s] 49) := ⟨_, rfl⟩
          have hbz : Below wr.heap.size wr wz := by rw [hwz]; exact (Below.refl _ _).alloc (Nat.le_refl _) _
          have z0 : wz.cell? ⟨z, 0, none⟩ = some (.int .i64 (i : Int)) := by rw [hwz, hz, World.cell?_alloc_at _ _ _ _ rfl]; rfl
          have z1 : wz.cell? ⟨z, 1, none⟩ = some (.string s) := by rw [hwz, hz, World.cell?_alloc_at _ _ _ _ rfl]; rfl
          have HZL : Hid (z < wz.heap.size) := Lib.hid (by rw [hwz, hz]; simp)
          have HDZ := Lib.hid (HDJ.out.below hbz)
          have hrd := HRD.out wz HDZ.out (i : Int) (by omega) (by have := hxg.1; omega)
          have hFE := fun W => rfull_any ⟨#[]⟩ W (by decide)
          have hFS := fun W => rfull_any s W hxg.2
          have hPi : Pf (i : Int).toNat = if (c : Int) < (m : Int) + 3 then fullB ⟨#[]⟩ else fullB s := by
            rw [HPF.out, HLL.out]
            by_cases h : (c : Int) < (m : Int) + 3
            · rw [if_pos h, if_pos h]; rfl
            · rw [if_neg h, if_neg h]; exact hup
          rw [hPi] at hrd
          obtain ⟨fE, hfE⟩ : ∃ fE, fE = fullB ⟨#[]⟩ := ⟨_, rfl⟩
          obtain ⟨fS, hfS⟩ : ∃ fS, fS = fullB s := ⟨_, rfl⟩
          rw [← hfE] at hrd hFE
          rw [← hfS] at hrd hFS
          have HFE := Lib.hid hFE
          have HFS := Lib.hid hFS
          have HWZ := Lib.hid hwz
          have HZ := Lib.hid hz
          rw [if_pos (by omega)] at hrd
          have HRI := Lib.hid hrd
          clear hx hbz hwz hz hbl hup hxg hrd hFE hFS hPi hfE hfS
          go_wp2_with fail
          rw [← HZ.out, ← HWZ.out]
          refine HRI.out.mono ?_
          rintro e w9 ⟨rfl, hb9⟩
          have HD9 := Lib.hid (HDZ.out.below hb9)
          clear hb9 z0 z1
          go_wp2_with fail
          refine (HFE.out _).mono ?_
          rintro e w10 ⟨rfl, hb10⟩
          have HD10 := Lib.hid (HD9.out.below hb10)
          clear hb10
          go_wp2_with fail
          exact ⟨⟨j + 1, by go_num, by omega, HD10⟩, by simp [intOf]; omega⟩
        · have hjj : m = j := by omega
          have hltI : ¬ (j : Int) < (m : Int) := by omega
          have HBE := Lib.hid HDJ.out.bel
          clear hjj
          go_wp2_with fail
          go_ret
          exact ⟨rfl, HBE.out⟩
  · have HD1 : Hid (DR w w3 p q D → True) := Lib.hid (fun _ => trivial)
    have hlr : r.length ≤ 1000000 := by rw [← HM.out]; omega
    have HCM : Hid (∀ W, DR w W p q (fuelD D (c : Int)) → Calls Tryz.prog 14 #[.pointer (some ⟨q, 0, none⟩), .slice a m c0] W fun e w' => e = .returned (errS 1) ∧ DR w w' p q (fuelD D (c : Int))) := Lib.hid (fun W hW =>
      hW.commit_no (.slice a m c0) r 1 (HL.out.below hW.bel) hlr (.inl ⟨by show ¬ okR (D.sure.length - 64) r; rw [hln]; exact hok, rfl⟩))
    have HCO : Hid (∀ W, Below w.heap.size w W → Calls Tryz.prog 9 #[errS 1] W fun e w' => e = .returned (.int .i64 1) ∧ Below W.heap.size W w') := Lib.hid (fun W hW => code_s 1 W (HG.out.below hW))
    simp only [errS_ne (show ¬ (1 : Int) = 0 by decide)] at HCM HCO
    clear hok ho hp hcl hln hlr HD1
    refine HFU.out.mono ?_
    rintro e w4 ⟨rfl, hd4⟩
    have HC4 := Lib.hid (HCM.out w4 hd4)
    clear hd4
    go_wp2_with fail
    refine HC4.out.mono ?_
    rintro e w5 ⟨rfl, hd5⟩
    have HB5 := Lib.hid hd5.bel
    have HCO5 := Lib.hid (HCO.out w5 hd5.bel)
    clear hd5
    go_wp2_with fail
    refine HCO5.out.mono ?_
    rintro e w6 ⟨rfl, hb6⟩
    have HB6 := Lib.hid (HB5.out.trans (hb6.mono HB5.out.size))
    clear hb6
    go_wp2_with fail
    go_ret
    exact ⟨rfl, HB6.out⟩
end Go.Proofs.YthamfbfeokmhgaaGreatDoor
