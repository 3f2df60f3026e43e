/- OrderBegins: its walk. -/
import Derived.Test.YtaemegcemmcgdaaBegL
import Derived.Deep.CutRange
set_option linter.unusedVariables false
namespace Go.Proofs.Ytaemegcemmcgdaa
open Go.ChangeShapes Go.WideShapes Go.ChangeAt Go.RowKit

theorem rem_place (x : Int) {n : Nat} (hn : 0 < n) : ∃ r : Int, ∃ j : Nat, x.tmod (n : Int) = r ∧ -(n : Int) < r ∧ r < n ∧ (r + n).tmod (n : Int) = (j : Int) ∧ j < n := by
  refine ⟨_, ((x.tmod n + n).tmod n).toNat, rfl, Int.lt_tmod_of_pos _ (by omega), Int.tmod_lt_of_pos _ (by omega), ?_, ?_⟩
  · have h1 := Int.lt_tmod_of_pos x (show (0 : Int) < n by omega)
    have : 0 ≤ (x.tmod n + n).tmod n := Int.tmod_nonneg _ (by omega)
    omega
  · have h1 := Int.lt_tmod_of_pos x (show (0 : Int) < n by omega)
    have h2 : 0 ≤ (x.tmod n + n).tmod n := Int.tmod_nonneg _ (by omega)
    have h3 := Int.tmod_lt_of_pos (x.tmod n + n) (show (0 : Int) < n by omega)
    omega
/-- Behind the call of Past. -/
def PastCut (S : SetB) (nm : ByteArray) (w4 : World) (pv : Value) (W : World) : Prop := ∃ past pa pc, pv = .slice pa (past : Lb).length pc ∧ PastR S (bsOf nm) past ∧ Reads W (.slice pa past.length pc) past ∧ Below w4.heap.size w4 W
theorem Reads.cellAt {w : World} {b o n c : Nat} {xs : Lb} (h : Reads w (.slice (some ⟨b, o, none⟩) n c) xs) {j : Nat} {x : ByteArray} (hx : xs[j]? = some x) : w.cell? ⟨b, o + j, none⟩ = some (.string x) := by
  obtain ⟨b', o', he, _, hc⟩ := h.at hx
  injection he with he
  injection he with h1 h2
  subst h1; subst h2
  exact hc.2 j x hx
theorem Reads.cap {w : World} {a : Option Addr} {n c : Nat} {xs : Lb} (h : Reads w (.slice a n c) xs) (h0 : 0 < n) : n ≤ c ∧ c ≤ 9223372036854775807 := by
  rcases h with ⟨rfl, a', c', e⟩ | ⟨hn, b, o, c', e, hc, hm, _⟩
  · simp only [Value.slice.injEq] at e
    omega
  · simp only [Value.slice.injEq] at e
    obtain ⟨rfl, rfl, rfl⟩ := e
    exact ⟨hc, hm⟩
set_option maxHeartbeats 1000000 in
set_option maxRecDepth 100000 in
theorem begins_law (S : SetB) (v : Value) (x : Int) (w : World) (hS : SReads w v S) (hD : ∀ p ∈ S, p.2.length ≤ 140737488355328) (hn9 : S.length ≤ 140737488355328) (hx1 : -9223372036854775808 ≤ x) (hx2 : x ≤ 9223372036854775807) :
    Calls Try.prog 3 #[v, .int .i64 x] w fun e w' => e = .returned (.bool true) ∧ Below w.heap.size w w' := by
  obtain ⟨sa, sc, rfl, _⟩ := hS.form
  obtain ⟨n, hnn⟩ : ∃ n, n = S.length := ⟨_, rfl⟩
  rw [← hnn] at hS hn9 ⊢
  obtain ⟨w1, hw1⟩ : ∃ w1, w1 = w.alloc (.cells #[.slice sa n sc] 22) := ⟨_, rfl⟩
  have hb1 : Below w.heap.size w w1 := by rw [hw1]; exact (Below.refl _ _).alloc (Nat.le_refl _) _
  have hq1 : w1.cell? ⟨w.heap.size, 0, none⟩ = some (.slice sa n sc) := by rw [hw1, World.cell?_alloc_at _ _ _ _ rfl]; rfl
  have hl1 : w.heap.size < w1.heap.size := by rw [hw1]; simp
  have BX : ∀ W, Below w1.heap.size w1 W → W.cell? ⟨w.heap.size, 0, none⟩ = some (.slice sa n sc) ∧ SReads W (.slice sa n sc) S ∧ Below w.heap.size w W := fun W hW => ⟨(hW.cell (p := ⟨w.heap.size, 0, none⟩) hl1).trans hq1, (hS.below hb1).below hW, hb1.trans (hW.mono (by omega))⟩
  have HBX := Lib.hid BX
  have HN := Lib.hid hnn
  have HD := Lib.hid hD
  have HAW := Lib.hid (awake_any w1)
  have HW1 := Lib.hid hw1
  have r1 := eqNil
  have r2 := neNil
  have r3 := neHeld
  rw [hw1] at HAW
  clear hS hnn hD hb1 hq1 BX hw1
  go_enter Try.func3, Try.ntmps3
  go_wp2_with fail
  refine HAW.out.mono ?_
  rintro e w2 ⟨rfl, hb2⟩
  rw [← HW1.out] at hb2
  obtain ⟨q2, s2, _⟩ := HBX.out w2 hb2
  have HSM := Lib.hid (small_any S (.slice sa n sc) w2 s2 HD.out (by rw [← HN.out]; exact hn9))
  have HB2 := Lib.hid hb2
  clear s2 hb2
  go_wp2_with fail
  refine HSM.out.mono ?_
  rintro e w3 ⟨b, rfl, hsm, hb3⟩
  have HB3 := Lib.hid (HB2.out.trans (hb3.mono HB2.out.size))
  clear hb3
  cases b with
  | false =>
    clear hsm
    go_wp2_with fail
    go_ret
    exact ⟨rfl, (HBX.out w3 HB3.out).2.2⟩
  | true =>
    have HSS := Lib.hid (hsm.1 rfl)
    have hn60 : n ≤ 60 := by rw [HN.out]; exact HSS.out.1
    obtain ⟨q3, s3, _⟩ := HBX.out w3 HB3.out
    have HLI := Lib.hid (linear_any S (.slice sa n sc) w3 s3 HSS.out)
    clear hsm s3
    go_wp2_with fail
    refine HLI.out.mono ?_
    rintro e w4 ⟨ov, out, k, rfl, hlin, hrd, hb4⟩
    have HB4 := Lib.hid (HB3.out.trans (hb4.mono HB3.out.size))
    clear hb4
    obtain ⟨oa, oc, hov, _⟩ := hrd.form
    by_cases hk : k = 0
    · subst hk
      have h0 : errV 0 = .nilIface := rfl
      rw [h0]
      have hok := lin_ok hlin
      have hol : out.length = n := by have := hok.len; rw [List.length_map] at this; rw [this, HN.out]
      rw [hol] at hov
      subst hov
      by_cases hn0 : n = 0
      · subst hn0
        go_wp2_with fail
        go_ret
        exact ⟨rfl, (HBX.out w4 HB4.out).2.2⟩
      · obtain ⟨r, j, hr, hr1, hr2, hj, hjn⟩ := rem_place x (show 0 < n by omega)
        obtain ⟨nm, hnm⟩ : ∃ s, out[j]? = some s := ⟨out[j]'(by rw [hol]; exact hjn), by simp⟩
        obtain ⟨lb0, lo, rfl, hnl, hcl⟩ := hrd.at hnm
        have hcj := hcl.2 j nm hnm
        obtain ⟨q4, s4, _⟩ := HBX.out w4 HB4.out
        have HPA := Lib.hid (pastS_any S (.slice sa n sc) nm w4.drew (s4.below ((Below.refl _ _).drew)) HSS.out)
        have HOK := Lib.hid hok
        have HOL := Lib.hid hol
        have HRD := Lib.hid hrd
        have HNM := Lib.hid hnm
        have hnz : ¬ (n : Int) = 0 := by omega
        have hnb : ((n : Int) == (0 : Int)) = false := by rw [beq_eq_false_iff_ne]; omega
        clear hlin hok hol h0 hnl hcl s4 hrd hnm
        go_wp2_with fail
        go_cut [8] from 44 to 49 (fun pv W => PastCut S nm w4 pv W)
        case first =>
          go_region_law (go_simp; go_at_call 14; refine HPA.out.mono ?_; rintro e w5 ⟨pv, past, rfl, hpr, hprd, hb5⟩; obtain ⟨pa, pc, hpv, _⟩ := hprd.form; subst hpv)
          all_goals
            (go_wp2_with fail
             go_meet
             exact ⟨past, pa, pc, rfl, hpr, hprd, ((Below.refl _ _).drew).trans hb5⟩)
        case rest =>
          obtain ⟨past, pa, pc, rfl, hpr, hprd, hb5⟩ := hcut
          obtain ⟨P, hP⟩ : ∃ P, P = past.length := ⟨_, rfl⟩
          rw [← hP] at hprd
          have HB5 := Lib.hid (HB4.out.trans (hb5.mono HB4.out.size))
          obtain ⟨q5, s5, _⟩ := HBX.out wc HB5.out
          have HHE := Lib.hid (headsS_any S (.slice sa n sc) wc s5 HSS.out)
          have HPR := Lib.hid hpr
          have HPD := Lib.hid hprd
          have HRD5 := Lib.hid (HRD.out.below hb5)
          have hcj5 := (hb5.cell (p := ⟨lb0, lo + j, none⟩) (cell_lt hcj)).trans hcj
          rw [← hP]
          have HPL := Lib.hid hP
          clear hpr hprd hb5 s5 hP
          go_wp2_with fail
          refine HHE.out.mono ?_
          rintro e w6 ⟨hv, heads, rfl, hhr, hhd, hb6⟩
          obtain ⟨ha, hc, hhv, _⟩ := hhd.form
          obtain ⟨H, hH⟩ : ∃ H, H = heads.length := ⟨_, rfl⟩
          have hHpos : 0 < H := by rw [hH]; exact head_some HOK.out (by rw [List.length_map, HOL.out]; omega) hhr
          rw [← hH] at hhv
          subst hhv
          have HB6 := Lib.hid (HB5.out.trans (hb6.mono HB5.out.size))
          have HPD6 := Lib.hid (HPD.out.below hb6)
          have HRD6 := Lib.hid (HRD5.out.below hb6)
          have HHR := Lib.hid hhr
          have HHD := Lib.hid hhd
          have hH60 : H ≤ 60 := by
            obtain ⟨pred, _, hq⟩ := hhr
            have h1 := onlyL_len (nsOf S) pred (nsB S).length
            have h2 := nsB_len S
            rw [← hq, ← hH] at h1
            rw [← HN.out] at h2
            omega
          obtain ⟨jh, hjh, hjhH⟩ : ∃ jh : Nat, (j : Int).tmod (H : Int) = (jh : Int) ∧ jh < H := by
            refine ⟨j % H, ?_, Nat.mod_lt _ hHpos⟩
            rw [Int.tmod_eq_emod_of_nonneg (by omega)]
            exact Int.natCast_emod j H |>.symm
          obtain ⟨hd, hhn⟩ : ∃ s, heads[jh]? = some s := ⟨heads[jh]'(by rw [← hH]; exact hjhH), by simp⟩
          obtain ⟨hb0, ho, rfl, hnl, hcl⟩ := hhd.at hhn
          have hHz : ¬ (H : Int) = 0 := by omega
          have hHb : ((H : Int) == (0 : Int)) = false := by rw [beq_eq_false_iff_ne]; omega
          have HHN := Lib.hid hhn
          have hlh := hcl.1
          have hch := hcl.2 jh hd hhn
          have HCH := Lib.hid hch
          clear hhr hhd hb6 hH hnl hcl hhn
          go_wp2_with fail
          obtain ⟨hoc1, hoc2⟩ := HRD6.out.cap (by omega)
          have hoc0 : ¬ oc = 0 := by omega
          go_loopw [10, 57] (fun rv jv wr => ∃ i m : Nat, jv = .int .i64 (i : Nat) ∧ i ≤ n ∧ m ≤ i ∧ Hid (m = (restL out hd i).length) ∧ Hid (Row 1 w6.heap.size wr rv m ((restL out hd i).map .string)) ∧ Hid (Below w6.heap.size w6 wr)) (fun _ jv _ => n - (intOf jv).toNat)
          case atStart => exact ⟨0, 0, rfl, Nat.zero_le _, Nat.le_refl _, Lib.hid (by simp [restL]), Lib.hid (by simp [restL]; exact Row.nil _ _ _), Lib.hid (Below.refl _ _)⟩
          case round =>
            obtain ⟨i, m, rfl, hin, hmi, HM, HW, HB⟩ := hrel
            obtain ⟨ra, rc, rfl⟩ := HW.out.form
            have hcd := (HB.out.cell (p := ⟨hb0, ho + jh, none⟩) (cell_lt hch)).trans hch
            by_cases hlt : i < n
            · obtain ⟨s, hs⟩ : ∃ s, out[i]? = some s := ⟨out[i]'(by rw [HOL.out]; exact hlt), by simp⟩
              have hcs := (HRD6.out.below HB.out).cellAt hs
              have hst := restL_step (h := hd) hs
              have HST := Lib.hid hst
              clear hst hs
              by_cases he : bsOf s = bsOf hd
              · obtain rfl := bs_of_eq he
                have HST2 := Lib.hid (show restL out s (i + 1) = restL out s i by rw [HST.out]; simp)
                clear he
                go_wp2_with fail
                exact ⟨⟨i + 1, m, by go_num, by omega, by omega, by rw [HST2.out]; exact HM, by rw [HST2.out]; exact HW, HB⟩, by simp [intOf]; omega⟩
              · have hne : (s.toList == hd.toList) = false := by
                  rw [beq_eq_false_iff_ne]
                  intro e
                  apply he
                  rw [ByteArray.toList_eq, ByteArray.toList_eq] at e
                  exact e
                have HST2 := Lib.hid (show restL out hd (i + 1) = restL out hd i ++ [s] by rw [HST.out, if_pos he])
                have hsrc : Src Try.prog 1 25 (.slice (some ⟨wr.heap.size, 0, none⟩) 1 1) 1 [.string s] (wr.alloc (.cells #[.string s] 9)) := src_new Try.underlying25 [.string s] 1 9 1 rfl oneS6
                have HSRC := Lib.hid hsrc
                have HRA := Lib.hid (HW.out.alloc (.cells #[.string s] 9))
                have hszw : w6.heap.size ≤ (wr.alloc (.cells #[.string s] 9)).heap.size := by have := HB.out.size; simp; omega
                clear he hsrc
                go_wp2_with (at_builtin; refine wpList_append_row rfl (.tmp 70) (.tmp 72) 25 25 rfl 1 9 (.string ByteArray.empty) 16 Try.underlying25 infoS6 rfl w6.heap.size (.slice ra m rc) m ((restL out hd i).map .string) (by simp [Act.eval]) HRA.out (.slice (some ⟨wr.heap.size, 0, none⟩) 1 1) (by simp [Act.eval]) 1 [.string s] HSRC.out hszw (by omega) (by decide) ?_; intro v9 w9 hr9 ho9 hw9; obtain ⟨a9, c9, hv9⟩ := hr9.form; subst hv9; have HR9 := Lib.hid hr9; have HO9 := Lib.hid ho9; clear hr9 ho9 hw9)
                have hoa : Off (fun k => (Value.slice ra m rc).ownBlock = some k) wr w9 := ((Off.refl _ wr).alloc _).trans HO9.out
                have hb9 := HB.out.trans (hoa.below (B := w6.heap.size) (fun k hk => (HW.out.lt k hk).1) HB.out.size)
                exact ⟨⟨i + 1, m + 1, by go_num, by omega, by omega, Lib.hid (by rw [HST2.out, List.length_append, List.length_singleton, HM.out]), Lib.hid (by rw [HST2.out, List.map_append]; exact HR9.out), Lib.hid hb9⟩, by simp [intOf]; omega⟩
            · have hie : n = i := by omega
              subst hie
              have HBW := Lib.hid (HB6.out.trans (HB.out.mono HB6.out.size))
              have PQ : ∀ ls lv W, Reads W lv ls → Below w1.heap.size w1 W → Calls Try.prog 12 #[lv, .pointer (some ⟨w.heap.size, 0, none⟩)] W (PartQ S ls W) := fun ls lv W hl hW => part_q S ls (.slice sa n sc) lv w.heap.size W (HBX.out W hW).2.1 hl (HBX.out W hW).1 (by rw [← HN.out]; exact hn60)
              have HPQ := Lib.hid PQ
              have R1 := Lib.hid ((HRD6.out.below HB.out).front (m := j) (by omega))
              have R2 := Lib.hid (HPD6.out.below HB.out)
              have T6 := Lib.hid (HRD6.out.below HB.out)
              have hrr := HW.out
              rw [HM.out] at hrr
              have R3 := Lib.hid (HM.out ▸ row_reads hrr : Reads wr (.slice ra m rc) (restL out hd n))
              have D1 := Lib.hid (by rw [List.map_take]; exact closed_take HOK.out j : ∀ p ∈ S, bsOf p.1 ∈ (out.take j).map bsOf → ∀ d ∈ p.2, bsOf d ∈ (out.take j).map bsOf)
              have hnmin : bsOf nm ∈ nsB S := (HOK.out.mem _).1 (List.mem_map.2 ⟨nm, List.mem_of_getElem? HNM.out, rfl⟩)
              have D2 := Lib.hid (closed_past HOK.out HPR.out hnmin)
              have D3 := Lib.hid (by rw [← HOL.out, restL_bs]; exact closed_rest HOK.out HHR.out (List.mem_map.2 ⟨hd, List.mem_of_getElem? HHN.out, rfl⟩) : ∀ p ∈ S, bsOf p.1 ∈ (restL out hd n).map bsOf → ∀ d ∈ p.2, bsOf d ∈ (restL out hd n).map bsOf)
              have hcnt := past_count HOK.out HPR.out hnmin
              have hnot : ¬ 0 ≤ Lib.idxOfS past nm := fun h => by
                have h1 := idx_mem.1 h
                obtain ⟨hj1, he1⟩ := List.getElem?_eq_some_iff.1 HNM.out
                have h2 := past_not HOK.out (n := j) (by rw [List.length_map]; exact hj1) (out := past) (by rw [List.getElem_map, he1]; exact HPR.out)
                rw [List.getElem_map, he1] at h2
                exact h2 (List.mem_map.2 ⟨nm, h1, rfl⟩)
              have HCNT := Lib.hid hcnt
              have HNOT := Lib.hid hnot
              clear PQ hrr hcnt hnot hnmin hcd
              have qw := (HBX.out wr HBW.out).1
              go_wp2_with fail
              refine (HPQ.out (out.take j) _ _ R1.out HBW.out).mono ?_
              rintro e w7 ⟨a7, c7, rfl, hs7, hb7⟩
              obtain ⟨m7, hm7⟩ : ∃ m7, m7 = (partS S (fun b => b ∈ (out.take j).map bsOf)).length := ⟨_, rfl⟩
              rw [← hm7] at hs7 ⊢
              have HB7 := Lib.hid (HBW.out.trans (hb7.mono HBW.out.size))
              have K7 := Lib.hid (check_ok HOK.out HSS.out D1.out _ w7 hs7)
              have P7 := Lib.hid (R2.out.below hb7)
              have T7 := Lib.hid (T6.out.below hb7)
              have Q7 := Lib.hid (R3.out.below hb7)
              have M7 := Lib.hid hm7
              clear hs7 hb7 hm7
              go_wp2_with fail
              refine K7.out.mono ?_
              rintro e w8 ⟨rfl, hb8⟩
              have HB8 := Lib.hid (HB7.out.trans (hb8.mono HB7.out.size))
              have P8 := Lib.hid (P7.out.below hb8)
              have T8 := Lib.hid (T7.out.below hb8)
              have Q8 := Lib.hid (Q7.out.below hb8)
              clear hb8
              go_wp2_with fail
              refine (HPQ.out past _ _ P8.out HB8.out).mono ?_
              rintro e w9 ⟨a9, c9, rfl, hs9, hb9⟩
              obtain ⟨m9, hm9⟩ : ∃ m9, m9 = (partS S (fun b => b ∈ past.map bsOf)).length := ⟨_, rfl⟩
              rw [← hm9] at hs9 ⊢
              have HB9 := Lib.hid (HB8.out.trans (hb9.mono HB8.out.size))
              have K9 := Lib.hid (check_ok HOK.out HSS.out D2.out _ w9 hs9)
              have P9 := Lib.hid (P8.out.below hb9)
              have T9 := Lib.hid (T8.out.below hb9)
              have Q9 := Lib.hid (Q8.out.below hb9)
              clear hs9 hb9 hm9
              go_wp2_with fail
              refine K9.out.mono ?_
              rintro e w10 ⟨rfl, hb10⟩
              have HB10 := Lib.hid (HB9.out.trans (hb10.mono HB9.out.size))
              have P10 := Lib.hid (P9.out.below hb10)
              have T10 := Lib.hid (T9.out.below hb10)
              have Q10 := Lib.hid (Q9.out.below hb10)
              have c10 : w10.cell? ⟨lb0, lo + j, none⟩ = some (.string nm) := T10.out.cellAt HNM.out
              clear hb10
              have PLC := rplace_any past (.slice pa P pc) nm w10 P10.out
              obtain ⟨ix, hix⟩ : ∃ ix, ix = Lib.idxOfS past nm := ⟨_, rfl⟩
              rw [← hix] at PLC
              have hix0 : ix < 0 := by rw [hix]; have := HNOT.out; omega
              have HPLC := Lib.hid PLC
              clear PLC hix
              go_wp2_with fail
              refine HPLC.out.mono ?_
              rintro e w11 ⟨rfl, hb11⟩
              have HB11 := Lib.hid (HB10.out.trans (hb11.mono HB10.out.size))
              have P11 := Lib.hid (P10.out.below hb11)
              have Q11 := Lib.hid (Q10.out.below hb11)
              clear hb11
              go_wp2_with fail
              refine (HPQ.out (restL out hd n) _ _ Q11.out HB11.out).mono ?_
              rintro e w12 ⟨a12, c12, rfl, hs12, hb12⟩
              obtain ⟨m12, hm12⟩ : ∃ m12, m12 = (partS S (fun b => b ∈ (restL out hd n).map bsOf)).length := ⟨_, rfl⟩
              rw [← hm12] at hs12 ⊢
              have HB12 := Lib.hid (HB11.out.trans (hb12.mono HB11.out.size))
              have K12 := Lib.hid (check_ok HOK.out HSS.out D3.out _ w12 hs12)
              have P12 := Lib.hid (P11.out.below hb12)
              clear hs12 hb12 hm12
              go_wp2_with fail
              refine K12.out.mono ?_
              rintro e w13 ⟨rfl, hb13⟩
              have HB13 := Lib.hid (HB12.out.trans (hb13.mono HB12.out.size))
              have P13 := Lib.hid (P12.out.below hb13)
              clear hb13
              go_wp2_with fail
              refine (HPQ.out past _ _ P13.out HB13.out).mono ?_
              rintro e w14 ⟨a14, c14, rfl, hs14, hb14⟩
              rw [HCNT.out, ← HPL.out] at hs14 ⊢
              have HB14 := Lib.hid (HB13.out.trans (hb14.mono HB13.out.size))
              clear hs14 hb14
              go_wp2_with fail
              go_ret
              exact ⟨rfl, (HBX.out w14 HB14.out).2.2⟩
    · obtain rfl := lin_err hlin hk
      have he : errV k = .iface 57 (.int .i64 k) := by unfold errV; rw [if_neg hk]
      rw [he]
      have h00 : ([] : Lb).length = 0 := rfl
      rw [h00] at hov
      subst hov
      clear hlin hrd he
      go_wp2_with fail
      go_ret
      exact ⟨rfl, (HBX.out w4 HB4.out).2.2⟩
end Go.Proofs.Ytaemegcemmcgdaa
