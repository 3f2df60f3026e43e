/- GraphDeletes: its walk. -/
import Derived.Test.YtojnagonhihknaaGreatDoorU12
import Derived.Test.YtojnagonhihknaaGreatDoorU45
import Derived.Test.YtojnagonhihknaaGreatDoorU48
set_option linter.unusedVariables false
set_option linter.unusedSimpArgs false
namespace Go.Proofs.YtojnagonhihknaaGreatDoor
open Go.ChangeShapes Go.WideShapes Go.ChangeAt Go.RowKit

theorem w64 {n : Int} (h : -9223372036854775808 ≤ n ∧ n ≤ 9223372036854775807) : IntKind.i64.wrap n = n := by rw [IntKind.wrap_i64]; omega
theorem rem_at (x : Int) {m : Nat} (hm : 0 < m) : ∃ r : Int, ∃ j : Nat, x.tmod (m : Int) = r ∧ -(m : Int) < r ∧ r < m ∧ (r + m).tmod (m : Int) = (j : Int) ∧ j < m := rem_place7 x hm
theorem gver_le {S : SetP} (h : SmallG S) {V : List (GVx ByteArray)} {E : List (Nat × Nat)} (hg : GraphS ltB nil0 (gsetS S) V E) : V.length ≤ 1000000 := by
  have hnd : (V.map (·.id)).Nodup := List.Pairwise.imp (fun {a b} hab e2 => by subst e2; exact idLt_asymm ltB_asymm _ _ hab hab) hg.rise
  have h1 := nodup_sub hnd (m := idsR nil0 (gsetS S)) (fun x hx => idsR_mem.2 ((hg.ids x).1 hx))
  rw [List.length_map] at h1
  exact Nat.le_trans h1 (ids_small h (List.Perm.refl _))
theorem did_le {S : SetP} (hf : S.fine) {V : List (GVx ByteArray)} {E : List (Nat × Nat)} (hg : GraphS ltB nil0 (gsetS S) V E) {p : Nat} {u : GVx ByteArray} (hu : V[p]? = some u) : u.id.1.size ≤ 140737488355328 := by
  rcases (hg.ids u.id).1 (List.mem_map.2 ⟨u, List.mem_of_getElem? hu, rfl⟩) with h | h | ⟨x, hx, h1, _⟩
  · rw [h]; show nil0.size ≤ _; decide
  · rw [h]; show nil0.size ≤ _; decide
  · obtain ⟨q, hq, rfl⟩ := List.mem_map.1 hx
    rw [h1]
    exact (hf.2 q hq).2.1
theorem own_list : ownN.toList = [97, 32, 110, 97, 109, 101, 32, 111, 102, 32, 105, 116, 115, 32, 111, 119, 110] := by kernel_rfl
theorem vx_cell {w : World} {b : Nat} {V : List (GVx ByteArray)} (h : ∀ j u, (vxs (V.map vxG))[j]? = some u → w.cell? ⟨b, j, none⟩ = some u) {p : Nat} {u : GVx ByteArray} (hu : V[p]? = some u) : ∀ i c, (vcs (vxG u))[i]? = some c → w.cell? ⟨b, p * 8 + i, none⟩ = some c := fun i c hc => h _ _ (vxs_at (by rw [List.getElem?_map, hu]; rfl) hc)
set_option maxHeartbeats 4000000 in
set_option maxRecDepth 100000 in
theorem gdel_law (S : SetP) (v : Value) (x : Int) (rv : Bool) (w : World) (hr : GReads w v S) (hf : S.fine) (ht : HasTab w) :
    Calls Tryz.prog 6 #[v, .int .i64 x, .bool rv] w fun e w' => e = .returned (.bool true) ∧ Below w.heap.size w w' := by
  obtain ⟨sa, sc, rfl, _⟩ := hr.form
  obtain ⟨n, hnn⟩ : ∃ n, n = S.length := ⟨_, rfl⟩
  have hn9 := hf.1
  have hsmall : ∀ wz, Below w.heap.size w wz → Calls Tryz.prog 8 #[.slice sa S.length sc] wz fun e w' => ∃ b, e = .returned (.bool b) ∧ (b = true ↔ smallG S) ∧ Below wz.heap.size wz w' := fun wz hz => gsmall_any S _ wz (hr.below hz) hf
  rw [← hnn] at hr hn9 hsmall ⊢
  have HR := Lib.hid hr
  have HF := Lib.hid hf
  have HN := Lib.hid hnn
  have HT := Lib.hid ht
  have HSML := Lib.hid hsmall
  have HAW := Lib.hid (gawake_any w ht)
  clear hr hf hnn ht hsmall
  go_enter Tryz.func6, Tryz.ntmps6
  go_wp2_with fail
  refine HAW.out.mono ?_
  rintro e w2 ⟨rfl, hb2⟩
  have HB2 := Lib.hid hb2
  have HSM := Lib.hid (HSML.out w2 hb2)
  clear hb2 HSML HAW
  go_wp2_with fail
  refine HSM.out.mono ?_
  rintro e w3 ⟨b, rfl, hsm, hb3⟩
  have HB3 := Lib.hid (HB2.out.trans (hb3.mono HB2.out.size))
  clear hb3 HSM
  cases b with
  | false =>
    clear hsm
    go_wp2_with fail
    go_ret
    exact ⟨rfl, HB3.out⟩
  | true =>
    have HSS := Lib.hid (hsm.1 rfl)
    have hn60 : n ≤ 60 := by rw [HN.out]; have := HSS.out.1.1; unfold sdeps at this; rwa [List.length_map] at this
    have HBA := Lib.hid (gbuild_any S HF.out HSS.out.big (.slice sa n sc) w3 (HR.out.below HB3.out) (HT.out.below HB3.out))
    clear hsm
    go_wp2_with fail
    refine HBA.out.mono ?_
    rintro e w5 ⟨va, ea, k1, rfl, hbr1, hb5, hok1, hno1⟩
    obtain ⟨⟨a1, N, c1, rfl⟩, b1, m1, d1, rfl⟩ := bu_form hok1 hno1
    obtain ⟨wA, hwA⟩ : ∃ wA, wA = w5.alloc (.cells #[.slice a1 N c1, .slice b1 m1 d1] 30) := ⟨_, rfl⟩
    obtain ⟨g1, gb, gs⟩ := boxA1 (Below.refl _ (w5.alloc (.cells #[.slice a1 N c1, .slice b1 m1 d1] 30)))
    rw [← hwA] at g1 gb gs
    obtain ⟨q7, hq7⟩ : ∃ q7, q7 = w5.heap.size := ⟨_, rfl⟩
    rw [← hq7] at g1
    have hb5w := HB3.out.trans (hb5.mono HB3.out.size)
    have hbA := hb5w.trans (gb.mono hb5w.size)
    have HBA2 := Lib.hid hbA
    have HGB := Lib.hid gb
    have HB5 := Lib.hid hb5
    have HBR1 := Lib.hid hbr1
    have HOK1 := Lib.hid hok1
    have HQ7 := Lib.hid hq7
    have HWA := Lib.hid hwA
    have c70 : wA.cell? ⟨q7, 0, none⟩ = some (.slice a1 N c1) := g1 0
    have c71 : wA.cell? ⟨q7, 1, none⟩ = some (.slice b1 m1 d1) := g1 1
    have HC7 := Lib.hid (And.intro c70 c71)
    by_cases hk0 : k1 = 0
    · subst hk0
      have e0 : errO 0 = Value.nilIface := rfl
      rw [e0]
      have x1 := neNilNil
      obtain ⟨⟨V, E, hV1, hE1, hgr1⟩, hown⟩ := HOK1.out rfl
      have hNV : N = V.length := by obtain ⟨a', c', e⟩ := hV1.form; injection e
      by_cases h3 : N < 3
      · have hlt : (N : Int) < 3 := by omega
        rw [HWA.out] at c70 c71
        rw [HQ7.out] at c70 c71
        have HBD := HBA2
        rw [HWA.out] at HBD
        clear hbr1 hb5 hok1 hno1 hwA g1 gb gs hq7 hb5w hbA HBA hV1 hE1 hgr1 hown hNV
        go_wp2_with fail
        first
          | (go_ret; exact ⟨rfl, HBD.out⟩)
          | (go_quiet (fail)
             go_wp2_with fail
             go_ret
             exact ⟨rfl, below_dn HBD.out⟩)
      · have hlt : ¬ (N : Int) < 3 := by omega
        obtain ⟨m, hm⟩ : ∃ m, N = m + 2 := ⟨N - 2, by omega⟩
        have hm0 : 0 < m := by omega
        obtain ⟨r, j, hrr, hr1, hr2, hk, hkn⟩ := rem_at x hm0
        have hN2 : (N : Int) - 2 = (m : Int) := by omega
        have hz : r + (N : Int) - 2 = r + (m : Int) := by omega
        have hmz : ¬ (m : Int) = 0 := by omega
        have hmb : ((m : Int) == (0 : Int)) = false := by rw [beq_eq_false_iff_ne]; omega
        obtain ⟨p, hp⟩ : ∃ p, p = 2 + j := ⟨_, rfl⟩
        have hp2 : 2 + (j : Int) = (p : Int) := by omega
        have hpN : p < N := by omega
        obtain ⟨u, hu⟩ : ∃ u, V[p]? = some u := ⟨V[p]'(by omega), by simp⟩
        obtain ⟨gb0, cap, hva, hgb, hgl, hnc, hcm, hcl, hval⟩ := hV1.pos (by omega)
        simp only [Value.slice.injEq] at hva
        obtain ⟨rfl, -, rfl⟩ := hva
        have hN9 : N ≤ 1000000 := by rw [hNV]; exact gver_le HSS.out.big hgr1
        have hmn : ¬ m = 0 := by omega
        have k0w : IntKind.i64.wrap (m : Int) = (m : Int) := w64 (by omega)
        have k9w : IntKind.i64.wrap (r + (m : Int)) = r + (m : Int) := w64 (by omega)
        have kaw : IntKind.i64.wrap (p : Int) = (p : Int) := w64 (by omega)
        have k1w : IntKind.i64.wrap ((N : Int) - 2) = (m : Int) := by rw [hN2]; exact w64 (by omega)
        have k2w : IntKind.i64.wrap (x.tmod (m : Int)) = r := by rw [hrr]; exact w64 (by omega)
        have k3w : IntKind.i64.wrap r = r := w64 (by omega)
        have k4w : IntKind.i64.wrap (r + (N : Int)) = r + (N : Int) := w64 (by omega)
        have k5w : IntKind.i64.wrap (r + (N : Int) - 2) = r + (m : Int) := by rw [hz]; exact w64 (by omega)
        have k6w : IntKind.i64.wrap ((r + (m : Int)).tmod (m : Int)) = (j : Int) := by rw [hk]; exact w64 (by omega)
        have k7w : IntKind.i64.wrap (j : Int) = (j : Int) := w64 (by omega)
        have k8w : IntKind.i64.wrap (2 + (j : Int)) = (p : Int) := by rw [hp2]; exact w64 (by omega)
        have hvc := vx_cell hval hu
        have v0 : wA.cell? ⟨gb0, p * 8, none⟩ = some (.string u.id.1) := (HGB.out.cell (p := ⟨gb0, p * 8, none⟩) hgl).trans (hvc 0 _ rfl)
        have v1 : wA.cell? ⟨gb0, p * 8 + 1, none⟩ = some (.int .i64 (u.id.2 : Int)) := (HGB.out.cell (p := ⟨gb0, p * 8 + 1, none⟩) hgl).trans (hvc 1 _ rfl)
        have v2 : wA.cell? ⟨gb0, p * 8 + 2, none⟩ = some (.string u.line) := (HGB.out.cell (p := ⟨gb0, p * 8 + 2, none⟩) hgl).trans (hvc 2 _ rfl)
        have v3 : wA.cell? ⟨gb0, p * 8 + 3, none⟩ = some (.int .i64 u.del) := (HGB.out.cell (p := ⟨gb0, p * 8 + 3, none⟩) hgl).trans (hvc 3 _ rfl)
        have v4 : wA.cell? ⟨gb0, p * 8 + 4, none⟩ = some (.string u.above.1) := (HGB.out.cell (p := ⟨gb0, p * 8 + 4, none⟩) hgl).trans (hvc 4 _ rfl)
        have v5 : wA.cell? ⟨gb0, p * 8 + 5, none⟩ = some (.int .i64 (u.above.2 : Int)) := (HGB.out.cell (p := ⟨gb0, p * 8 + 5, none⟩) hgl).trans (hvc 5 _ rfl)
        have v6 : wA.cell? ⟨gb0, p * 8 + 6, none⟩ = some (.string u.below.1) := (HGB.out.cell (p := ⟨gb0, p * 8 + 6, none⟩) hgl).trans (hvc 6 _ rfl)
        have v7 : wA.cell? ⟨gb0, p * 8 + 7, none⟩ = some (.int .i64 (u.below.2 : Int)) := (HGB.out.cell (p := ⟨gb0, p * 8 + 7, none⟩) hgl).trans (hvc 7 _ rfl)
        have HV := Lib.hid (And.intro hV1 (And.intro hE1 (And.intro hgr1 (And.intro hown (And.intro hNV hu)))))
        have HP := Lib.hid hp
        obtain ⟨d, hd⟩ : ∃ d, d = u.id.1 := ⟨_, rfl⟩
        have hds : d.size ≤ 140737488355328 := by rw [hd]; exact did_le HF.out hgr1 hu
        have HRT := Lib.hid (fun wz => rrightD_any d wz hds)
        obtain ⟨un, hun⟩ : ∃ un, un = u.id.2 := ⟨_, rfl⟩
        rw [← hd] at v0
        rw [← hun] at v1
        have HD := Lib.hid hd
        have HUN := Lib.hid hun
        clear hbr1 hb5 hok1 hno1 g1 gb gs hb5w hbA HBA hV1 hE1 hgr1 hown hNV hgb hnc hcm hcl hval hvc hp hu hd hun hm
        rw [hwA] at c70 c71
        rw [hq7] at c70 c71
        clear hwA hq7
        go_wp2_with fail
        rw [← HQ7.out]
        rw [← HWA.out]
        clear c70 c71
        obtain ⟨c70, c71⟩ := HC7.out
        go_region_held3 (fun W => W.cell? ⟨q7, 0, none⟩ = some (.slice (some ⟨gb0, 0, none⟩) N c1)) (go_keep) (fail)
        clear k0w k1w k2w k3w k4w k5w k6w k7w k8w k9w kaw hrr hr1 hr2 hk hkn hz hN2 hp2 hmn hmz hmb hm0
        have hpI : (p : Int) < (N : Int) := by omega
        have hpI0 : (0 : Int) ≤ (p : Int) := by omega
        go_wp2_with fail
        obtain ⟨wB, hwB⟩ : ∃ wB, wB = (wA.alloc (.cells #[.string d, .int .i64 (un : Int), .string u.line, .int .i64 u.del, .string u.above.1, .int .i64 (u.above.2 : Int), .string u.below.1, .int .i64 (u.below.2 : Int)] 42)).drew := ⟨_, rfl⟩
        obtain ⟨t1, tb, ts⟩ := boxA1 (Below.refl _ (wA.alloc (.cells #[.string d, .int .i64 (un : Int), .string u.line, .int .i64 u.del, .string u.above.1, .int .i64 (u.above.2 : Int), .string u.below.1, .int .i64 (u.below.2 : Int)] 42)))
        have tb' : Below wA.heap.size wA wB := by rw [hwB]; exact tb.trans ((Below.refl _ _).drew)
        obtain ⟨q10, hq10⟩ : ∃ q10, q10 = wA.heap.size := ⟨_, rfl⟩
        have t10 : wB.cell? ⟨q10, 0, none⟩ = some (.string d) := by rw [hwB, hq10]; exact t1 0
        have t11 : wB.cell? ⟨q10, 1, none⟩ = some (.int .i64 (un : Int)) := by rw [hwB, hq10]; exact t1 1
        rw [← hwB, ← hq10]
        have HTB := Lib.hid tb'
        have HWB := Lib.hid hwB
        have HQ10 := Lib.hid hq10
        have HVC := Lib.hid (And.intro v0 (And.intro v1 (And.intro v2 v3)))
        refine (HRT.out _).mono ?_
        rintro e w7 ⟨rfl, hb7⟩
        have hbA7 : Below wA.heap.size wA w7 := tb'.trans (hb7.mono tb'.size)
        have c100 : w7.cell? ⟨q10, 0, none⟩ = some (.string d) := (hb7.cell (p := ⟨q10, 0, none⟩) (cell_lt t10)).trans t10
        have c101 : w7.cell? ⟨q10, 1, none⟩ = some (.int .i64 (un : Int)) := (hb7.cell (p := ⟨q10, 1, none⟩) (cell_lt t11)).trans t11
        have HBA7 := Lib.hid hbA7
        have HB7 := Lib.hid (HBA2.out.trans (hbA7.mono HBA2.out.size))
        have HC10 := Lib.hid (And.intro c100 c101)
        obtain ⟨rd, hrd⟩ : ∃ rd, rd = rightL d.data.toList := ⟨_, rfl⟩
        rw [← hrd]
        have HRD := Lib.hid hrd
        clear t1 tb tb' ts t10 t11 hwB hq10 hb7 hbA7 v0 v1 v2 v3 v4 v5 v6 v7 HRT hds c70 c71 hrd
        cases rd with
        | false =>
          go_wp2_with fail
          go_ret
          exact ⟨rfl, HB7.out⟩
        | true =>
          by_cases h299 : (299 : Int) < (un : Int)
          · have d299 : decide ((299 : Int) < (un : Int)) = true := decide_eq_true h299
            go_wp2_with fail
            go_ret
            exact ⟨rfl, HB7.out⟩
          · have d299 : decide ((299 : Int) < (un : Int)) = false := decide_eq_false h299
            go_wp2_with fail
            go_loopw [71] (fun iv wr => ∃ t : Nat, iv = .int .i64 (t : Nat) ∧ t ≤ n ∧ Hid (Below w7.heap.size w7 wr) ∧ Hid (∀ p ∈ S.take t, p.1 ≠ ownN)) (fun iv _ => n - (intOf iv).toNat)
            case atStart => exact ⟨0, rfl, Nat.zero_le _, Lib.hid (Below.refl _ _), Lib.hid (fun p hp => by simp at hp)⟩
            case round =>
              obtain ⟨t, rfl, htn, HB, HFR⟩ := hrel
              have hbw : Below w.heap.size w wr := HB7.out.trans (HB.out.mono HB7.out.size)
              have HBW := Lib.hid hbw
              by_cases hlt : t < n
              · obtain ⟨y, hy⟩ : ∃ y, S[t]? = some y := ⟨S[t]'(by rw [← HN.out]; exact hlt), by simp⟩
                obtain ⟨b, o, rfl, hbl, _, _, dv, ov, m0, m1', m2, m3, hpr⟩ := HR.out.at hy
                obtain ⟨da, dc, hdv, _⟩ := hpr.deps.form
                obtain ⟨oa, oc, hov, _⟩ := hpr.ops.form
                obtain ⟨dn, hdn⟩ : ∃ dn, dn = y.2.deps.length := ⟨_, rfl⟩
                obtain ⟨on, hon⟩ : ∃ on, on = y.2.ops.length := ⟨_, rfl⟩
                rw [← hdn] at hdv
                rw [← hon] at hov
                subst hdv hov
                obtain ⟨nm, P⟩ := y
                simp only at m0 m1' hpr hdn hon
                obtain ⟨nt, htt⟩ : ∃ nt, nt = P.note := ⟨_, rfl⟩
                rw [← htt] at m1'
                have d0 := (hbw.cell (p := ⟨b, o + t * 4, none⟩) hbl).trans m0
                have d1 := (hbw.cell (p := ⟨b, o + t * 4 + 1, none⟩) hbl).trans m1'
                have d2 := (hbw.cell (p := ⟨b, o + t * 4 + 2, none⟩) hbl).trans m2
                have d3 := (hbw.cell (p := ⟨b, o + t * 4 + 3, none⟩) hbl).trans m3
                have HBY := Lib.hid (hbw.alloc hbw.size (.cells #[.string nm, .string nt, .slice da dn dc, .slice oa on oc] 49))
                have HBZ := Lib.hid (HB.out.alloc HB.out.size (.cells #[.string nm, .string nt, .slice da dn dc, .slice oa on oc] 49))
                have HY := Lib.hid hy
                clear m0 m1' m2 m3 hpr hdn hon htt hbw hy
                by_cases hnm : nm = ownN
                · subst hnm
                  go_wp2_with fail
                  go_ret
                  exact ⟨rfl, HBY.out⟩
                · have hne : (nm.toList == ownN.toList) = false := by
                    rw [beq_eq_false_iff_ne]
                    intro e
                    rw [ByteArray.toList_eq, ByteArray.toList_eq] at e
                    exact hnm (by rw [← tx_data nm, ← tx_data ownN, e])
                  have hlo : ownN.toList = [97, 32, 110, 97, 109, 101, 32, 111, 102, 32, 105, 116, 115, 32, 111, 119, 110] := own_list
                  have hne2 : (nm.toList == [97, 32, 110, 97, 109, 101, 32, 111, 102, 32, 105, 116, 115, 32, 111, 119, 110]) = false := by rw [← hlo]; exact hne
                  go_wp2_with fail
                  exact ⟨⟨t + 1, by first | rfl | go_num, by omega, HBZ, Lib.hid (fun q hq => by
                    rw [List.take_add_one, HY.out] at hq
                    rcases List.mem_append.1 hq with hq | hq
                    · exact HFR.out q hq
                    · have : q = (nm, P) := by simpa using hq
                      rw [this]; exact hnm)⟩, by simp [intOf]; omega⟩
              · have htn2 : t = n := by omega
                subst htn2
                obtain ⟨hV1, hE1, hgr1, hown, hNV, hu⟩ := HV.out
                have hfr : ownN ∉ S.map (·.1) := fun h => by
                  obtain ⟨q, hq, e⟩ := List.mem_map.1 h
                  refine HFR.out q ?_ e
                  rw [HN.out, List.take_length]
                  exact hq
                have HFRS := Lib.hid hfr
                have c10r : wr.cell? ⟨q10, 0, none⟩ = some (.string d) := (HB.out.cell (p := ⟨q10, 0, none⟩) (cell_lt HC10.out.1)).trans HC10.out.1
                have c11r : wr.cell? ⟨q10, 1, none⟩ = some (.int .i64 (un : Int)) := (HB.out.cell (p := ⟨q10, 1, none⟩) (cell_lt HC10.out.2)).trans HC10.out.2
                clear hfr hbw c100 c101 htn hlt
                cases rv with
                | false =>
                  go_wp2_with fail
                  obtain ⟨wE, hwE⟩ : ∃ wE, wE = wr.alloc (.cells #[.int .i64 4, .int .i64 0, .int .i64 (un : Int), .int .i64 0, .int .i64 0, .slice none 0 0] 59) := ⟨_, rfl⟩
                  obtain ⟨s1, sb, ss⟩ := boxA1 (Below.refl _ (wr.alloc (.cells #[.int .i64 4, .int .i64 0, .int .i64 (un : Int), .int .i64 0, .int .i64 0, .slice none 0 0] 59)))
                  rw [← hwE] at s1 sb ss
                  obtain ⟨q13, hq13⟩ : ∃ q13, q13 = wr.heap.size := ⟨_, rfl⟩
                  rw [← hq13] at s1
                  rw [← hwE, ← hq13]
                  have hbE : Below w.heap.size w wE := HBW.out.trans (sb.mono HBW.out.size)
                  have hbA9 : Below wA.heap.size wA wE := (HBA7.out.trans (HB.out.mono HBA7.out.size)).trans (sb.mono (Nat.le_trans HBA7.out.size HB.out.size))
                  have c10e : wE.cell? ⟨q10, 0, none⟩ = some (.string d) := (sb.cell (p := ⟨q10, 0, none⟩) (cell_lt c10r)).trans c10r
                  obtain ⟨els, hk, hpe, hsrc⟩ := gsrc (HR.out.below hbE)
                  have hdk : DelK S d 4 (un : Int) := by
                    rw [HD.out, HUN.out]
                    exact delK_of hgr1 hu (by rw [← HD.out]; exact HRD.out.symm) (by rw [← HUN.out]; omega) (by omega) HFRS.out
                  have HDK := Lib.hid hdk
                  have HK := Lib.hid hk
                  have HPE := Lib.hid hpe
                  have HBE := Lib.hid hbE
                  have HBA9 := Lib.hid hbA9
                  have hnS := HN.out
                  refine gd22 d 4 (un : Int) sa t sc (els.flatMap El7.cells) q10 q13 _ wE _ rfl rfl rfl rfl c10e (fun i u hu => (s1 i).trans (by simpa using hu)) hsrc (by omega) ?_
                  intro a' w' q1 q2 hsz hdf hoff hbw' hc1 hc2 hrow
                  have ha' := lit22 rfl hsz hdf hoff
                  obtain ⟨y15, h15⟩ : ∃ y, y = a'.tmps.getD 15 undef := ⟨_, rfl⟩
                  rw [← h15] at ha' hrow
                  have hlen : t = els.length := by rw [hnS, ← hk, List.length_map]
                  have hrd : GReads w' y15 (addD S d 4 (un : Int)) := addD_reads (B := wE.heap.size) hk (fun e he => (hpe e he).below hbw') (by rw [hlen]) hrow hc1 ⟨hc2 0 _ rfl, hc2 1 _ rfl, hc2 2 _ rfl, hc2 3 _ rfl, hc2 4 _ rfl, hc2 5 _ rfl⟩
                  obtain ⟨a2, c2, hv15⟩ := hrow.form
                  subst hv15
                  have hbF : Below w.heap.size w w' := hbE.trans (hbw'.mono hbE.size)
                  have hbAF : Below wA.heap.size wA w' := hbA9.trans (hbw'.mono hbA9.size)
                  have HBB := Lib.hid (gbuild_any (addD S d 4 (un : Int)) (addD_fine HF.out HSS.out hdk.rd hdk.kd hdk.n0 hdk.n1) (addD_small HSS.out) (.slice a2 (t + 1) c2) w' hrd (HT.out.below hbF))
                  have HBF := Lib.hid hbF
                  have HBAF := Lib.hid hbAF
                  generalize a'.tmps.getD 86 undef = y86 at ha'
                  generalize a'.tmps.getD 87 undef = y87 at ha'
                  generalize a'.tmps.getD 88 undef = y88 at ha'
                  generalize a'.tmps.getD 89 undef = y89 at ha'
                  generalize a'.tmps.getD 90 undef = y90 at ha'
                  generalize a'.tmps.getD 91 undef = y91 at ha'
                  generalize a'.tmps.getD 92 undef = y92 at ha'
                  generalize a'.tmps.getD 93 undef = y93 at ha'
                  generalize a'.tmps.getD 94 undef = y94 at ha'
                  generalize a'.tmps.getD 95 undef = y95 at ha'
                  generalize a'.tmps.getD 96 undef = y96 at ha'
                  generalize a'.tmps.getD 97 undef = y97 at ha'
                  generalize a'.tmps.getD 98 undef = y98 at ha'
                  clear h15 hsz hdf hoff
                  rw [ha']
                  simp only [List.setIfInBounds_toArray, List.set_cons_zero, List.set_cons_succ]
                  clear hnS ha' hrd hrow hc1 hc2 hlen hbF hbAF hbw' hsrc hpe hk hdk hbE hbA9 s1 sb ss hwE hq13 c10e c10r c11r hV1 hE1 hgr1 hown hu hNV
                  go_wp2_with fail
                  refine HBB.out.mono ?_
                  rintro e w9 ⟨va2, ea2, k2, rfl, hbr2, hb9, hok2, hno2⟩
                  obtain rfl : k2 = 0 := addD_build HF.out HBR1.out HDK.out hbr2
                  obtain ⟨⟨V2, E2, hV2, hE2, hgr2⟩, hown2, hown2e⟩ := hok2 rfl
                  obtain ⟨hV1, hE1, hgr1, hown, hNV, hu⟩ := HV.out
                  have hgA := addD_graph (k := 4) (n := (un : Int)) (c := 1) (by first | exact .inl ⟨rfl, rfl⟩ | exact .inr ⟨rfl, rfl⟩) hgr1 hu (d := d) (by rw [HD.out, HUN.out]; rfl)
                  obtain ⟨rfl, rfl⟩ := graph_one ltB_asymm (addD_good HBR1.out.good.1 HDK.out).tame hgA hgr2
                  obtain ⟨⟨a3, n3, c3, rfl⟩, b3, m3, d3, rfl⟩ := bu_form hok2 hno2
                  obtain ⟨wC, hwC⟩ : ∃ wC, wC = w9.alloc (.cells #[.slice a3 n3 c3, .slice b3 m3 d3] 30) := ⟨_, rfl⟩
                  obtain ⟨r1, rb, rs⟩ := boxA1 (Below.refl _ (w9.alloc (.cells #[.slice a3 n3 c3, .slice b3 m3 d3] 30)))
                  rw [← hwC] at r1 rb rs
                  obtain ⟨q16, hq16⟩ : ∃ q16, q16 = w9.heap.size := ⟨_, rfl⟩
                  rw [← hq16] at r1
                  have hb9C : Below w'.heap.size w' wC := hb9.trans (rb.mono hb9.size)
                  have hbAC : Below wA.heap.size wA wC := HBAF.out.trans (hb9C.mono HBAF.out.size)
                  have hbC : Below w.heap.size w wC := HBF.out.trans (hb9C.mono HBF.out.size)
                  have z70 : wC.cell? ⟨q7, 0, none⟩ = some (.slice (some ⟨gb0, 0, none⟩) N c1) := (hbAC.cell (p := ⟨q7, 0, none⟩) (cell_lt HC7.out.1)).trans HC7.out.1
                  have z71 : wC.cell? ⟨q7, 1, none⟩ = some (.slice b1 m1 d1) := (hbAC.cell (p := ⟨q7, 1, none⟩) (cell_lt HC7.out.2)).trans HC7.out.2
                  have hvl := cell_lt HVC.out.2.2.2
                  have zv : wC.cell? ⟨gb0, p * 8 + 3, none⟩ = some (.int .i64 u.del) := (hbAC.cell (p := ⟨gb0, p * 8 + 3, none⟩) hvl).trans HVC.out.2.2.2
                  obtain ⟨gbx, cpx, hvx, _, hglx, hncx, _, hclx, _⟩ := hV1.pos (by omega)
                  simp only [Value.slice.injEq, Option.some.injEq, Addr.mk.injEq, and_true, true_and] at hvx
                  obtain ⟨hvx1, -, hvx2⟩ := hvx
                  subst hvx1 hvx2
                  have zf : wC.frozen? ⟨gb0, p * 8 + 3, none⟩ = false := (hbAC.frozen (p := ⟨gb0, p * 8 + 3, none⟩) hvl).trans ((HGB.out.frozen (p := ⟨gb0, p * 8 + 3, none⟩) hglx).trans (hclx (p * 8 + 3) (by omega)).2)
                  have hdb := del_bound HSS.out hgr1 (List.mem_of_getElem? hu)
                  have i9 : IntKind.i64.wrap (u.del + 1) = u.del + 1 := w64 (by omega)
                  obtain ⟨wD, hwD⟩ : ∃ wD, wD = wC.setCell ⟨gb0, p * 8 + 3, none⟩ (.int .i64 (u.del + 1)) := ⟨_, rfl⟩
                  have ho : Off (fun i => i = gb0) wC wD := by rw [hwD]; exact (Off.refl (fun i => i = gb0) wC).setCell (p := ⟨gb0, p * 8 + 3, none⟩) (.inr rfl) _
                  have hrowV : Row 8 0 wC (.slice (some ⟨gb0, 0, none⟩) N c1) N (vxs (V.map vxG)) := by
                    have := (hV1.below HGB.out).below hbAC
                    rw [← hNV] at this
                    exact this
                  have hrowD := Row.put hrowV (j := p * 8 + 3) (by rw [vxs_len, List.length_map, ← hNV]; omega) (.int .i64 (u.del + 1))
                  have hvs := vxs_set (L := V.map vxG) (j := p) (i := 3) (x := vxG u) (y := vxG { u with del := u.del + 1 }) (u := .int .i64 (u.del + 1)) (by rw [List.getElem?_map, hu]; rfl) (by omega) rfl
                  rw [← hwD, hvs, ← List.map_set] at hrowD
                  clear hvs
                  have hvD : VReads wD (.slice (some ⟨gb0, 0, none⟩) N c1) ((V.set p { u with del := u.del + 1 }).map vxG) := VReads.ofRow (B := 0) (by rw [List.length_map, List.length_set, ← hNV]; exact hrowD)
                  have hgw : gb0 < w'.heap.size := Nat.lt_of_lt_of_le (Nat.lt_of_lt_of_le hglx HGB.out.size) HBAF.out.size
                  have he1 : RE wD (.slice b1 m1 d1) (prI E) := ((hE1.below HGB.out).below hbAC).off ho (fun b hb e => (hown.1 gb0 rfl).2 (by rw [hb, e]))
                  have hv2 : VReads wD (.slice a3 n3 c3) ((V.set p { u with del := u.del + 1 }).map vxG) := VReads.ofRow (B := 0) (by rw [List.length_map]; exact (hV2.below rb).off ho (fun b hb e => by have := (hown2 b hb).1; omega))
                  have he2 : RE wD (.slice b3 m3 d3) (prI E) := (hE2.below rb).off ho (fun b hb e => by have := hown2e b hb; omega)
                  have hd64 := right_size HDK.out.rd
                  have hav : aliveV ((V.set p { u with del := u.del + 1 }).map vxG) (p : Int) = decide (u.del + 1 ≤ 0) := by
                    unfold aliveV
                    have h1 : ((V.set p { u with del := u.del + 1 }).map vxG)[(p : Int).toNat]? = some (vxG { u with del := u.del + 1 }) := by
                      rw [Int.toNat_natCast, List.getElem?_map, List.getElem?_set_self (by omega)]
                      rfl
                    have h2 : ¬ u.id.1 = ByteArray.empty := fun e => by
                      rw [HD.out, e] at hd64
                      cases hd64
                    rw [h1]
                    show (decide ((0 : Int) ≤ (p : Int)) && (!decide (u.id.1 = ByteArray.empty) && decide (u.del + 1 ≤ 0))) = _
                    rw [decide_eq_true hpI0, decide_eq_false h2]
                    rfl
                  obtain ⟨al, hal⟩ : ∃ al, al = decide (u.del + 1 ≤ 0) := ⟨_, rfl⟩
                  have hbD : Below w.heap.size w wD := hbC.trans (ho.below (B := w.heap.size) (fun i hi => by rw [hi]; exact Nat.le_trans HB3.out.size (hown.1 gb0 rfl).1) hbC.size)
                  have HBD := Lib.hid hbD
                  have HSA := Lib.hid (fun wz (hz : Below wD.heap.size wD wz) => gsame_any ((V.set p { u with del := u.del + 1 }).map vxG) (prI E) (.slice (some ⟨gb0, 0, none⟩) N c1) (.slice b1 m1 d1) (.slice a3 n3 c3) (.slice b3 m3 d3) wz (hvD.below hz) (hv2.below hz) (he1.below hz) (he2.below hz))
                  have HAL := Lib.hid (fun wz (hz : Below wD.heap.size wD wz) => by have h := alive_any ((V.set p { u with del := u.del + 1 }).map vxG) (.slice a3 n3 c3) (.slice b3 m3 d3) (p : Int) wz (hv2.below hz); rw [hav, ← hal] at h; exact h)
                  have HWD := Lib.hid hwD
                  have HWC := Lib.hid hwC
                  have HQ16 := Lib.hid hq16
                  have y70 : wD.cell? ⟨q7, 0, none⟩ = some (.slice (some ⟨gb0, 0, none⟩) N c1) := (ho.cell (p := ⟨q7, 0, none⟩) (cell_lt z70) (fun e => (Nat.ne_of_gt (Nat.lt_of_lt_of_le hglx (Nat.le_of_eq HQ7.out.symm))) e)).trans z70
                  have y71 : wD.cell? ⟨q7, 1, none⟩ = some (.slice b1 m1 d1) := (ho.cell (p := ⟨q7, 1, none⟩) (cell_lt z71) (fun e => (Nat.ne_of_gt (Nat.lt_of_lt_of_le hglx (Nat.le_of_eq HQ7.out.symm))) e)).trans z71
                  have hq16g : q16 ≠ gb0 := fun e => by have := hb9.size; omega
                  have y160 : wD.cell? ⟨q16, 0, none⟩ = some (.slice a3 n3 c3) := (ho.cell (p := ⟨q16, 0, none⟩) (cell_lt (r1 0)) hq16g).trans (r1 0)
                  have y161 : wD.cell? ⟨q16, 1, none⟩ = some (.slice b3 m3 d3) := (ho.cell (p := ⟨q16, 1, none⟩) (cell_lt (r1 1)) hq16g).trans (r1 1)
                  have yv : wD.cell? ⟨gb0, p * 8 + 3, none⟩ = some (.int .i64 (u.del + 1)) := by rw [hwD]; exact World.cell?_setCell_same _ _ _ zv
                  have HY := Lib.hid (And.intro y70 (And.intro y71 (And.intro y160 (And.intro y161 yv))))
                  have e0 : errO 0 = Value.nilIface := rfl
                  rw [e0]
                  have x1 := neNilNil
                  have hxa : decide (u.del + 1 ≤ 0) = al := hal.symm
                  rw [hwC] at z70 z71 zv zf
                  clear hbr2 hok2 hno2 hV2 hE2 hgr2 hown2 hown2e hV1 hE1 hgr1 hown hNV hu hgA hwC r1 rb rs hq16 hb9C hbAC hbC hvl hglx hncx hclx hdb hwD ho hrowV hrowD hvD hgw he1 hv2 he2 hd64 hav hal hbD y70 y71 y160 y161 yv hq16g hb9 HBB
                  go_wp2_with fail
                  rw [← HQ16.out]
                  rw [← HWC.out]
                  rw [← HWD.out]
                  clear z70 z71 zv zf i9 x1 e0
                  have HCAR := Lib.hid (fun (W W' : World) (h : W.cell? ⟨q7, 0, none⟩ = some (.slice (some ⟨gb0, 0, none⟩) N c1) ∧ W.cell? ⟨q7, 1, none⟩ = some (.slice b1 m1 d1) ∧ W.cell? ⟨q16, 0, none⟩ = some (.slice a3 n3 c3) ∧ W.cell? ⟨q16, 1, none⟩ = some (.slice b3 m3 d3) ∧ W.cell? ⟨gb0, p * 8 + 3, none⟩ = some (.int .i64 (u.del + 1)) ∧ Below wD.heap.size wD W) (hb : Below W.heap.size W W') => (show W'.cell? ⟨q7, 0, none⟩ = some (.slice (some ⟨gb0, 0, none⟩) N c1) ∧ W'.cell? ⟨q7, 1, none⟩ = some (.slice b1 m1 d1) ∧ W'.cell? ⟨q16, 0, none⟩ = some (.slice a3 n3 c3) ∧ W'.cell? ⟨q16, 1, none⟩ = some (.slice b3 m3 d3) ∧ W'.cell? ⟨gb0, p * 8 + 3, none⟩ = some (.int .i64 (u.del + 1)) ∧ Below wD.heap.size wD W' from ⟨(hb.cell (p := ⟨q7, 0, none⟩) (cell_lt h.1)).trans h.1, (hb.cell (p := ⟨q7, 1, none⟩) (cell_lt h.2.1)).trans h.2.1, (hb.cell (p := ⟨q16, 0, none⟩) (cell_lt h.2.2.1)).trans h.2.2.1, (hb.cell (p := ⟨q16, 1, none⟩) (cell_lt h.2.2.2.1)).trans h.2.2.2.1, (hb.cell (p := ⟨gb0, p * 8 + 3, none⟩) (cell_lt h.2.2.2.2.1)).trans h.2.2.2.2.1, h.2.2.2.2.2.trans (hb.mono h.2.2.2.2.2.size)⟩))
                  have HS0 := Lib.hid (HCAR.out wD wD.drew ⟨HY.out.1, HY.out.2.1, HY.out.2.2.1, HY.out.2.2.2.1, HY.out.2.2.2.2, Below.refl _ _⟩ ((Below.refl _ _).drew))
                  go_region_held3 (fun W => W.cell? ⟨q7, 0, none⟩ = some (.slice (some ⟨gb0, 0, none⟩) N c1) ∧ W.cell? ⟨q7, 1, none⟩ = some (.slice b1 m1 d1) ∧ W.cell? ⟨q16, 0, none⟩ = some (.slice a3 n3 c3) ∧ W.cell? ⟨q16, 1, none⟩ = some (.slice b3 m3 d3) ∧ W.cell? ⟨gb0, p * 8 + 3, none⟩ = some (.int .i64 (u.del + 1)) ∧ Below wD.heap.size wD W) (first | with_reducible exact HS2.out | with_reducible exact HS1.out | with_reducible exact HS0.out) (first | (go_at_call 11; (with_reducible refine (HSA.out _ HS0.out.2.2.2.2.2).mono ?_); rintro e w11 ⟨rfl, hb11⟩; have HS1 := Lib.hid (HCAR.out _ w11 HS0.out hb11); clear hb11) | (go_at_call 15; (with_reducible refine (HAL.out _ HS1.out.2.2.2.2.2).mono ?_); rintro e w12 ⟨rfl, hb12⟩; have HS2 := Lib.hid (HCAR.out _ w12 HS1.out hb12); clear hb12))
                  rename_i hHeld
                  clear hHeld
                  go_wp2_with fail
                  go_ret
                  exact ⟨rfl, HBD.out.trans (HS2.out.2.2.2.2.2.mono HBD.out.size)⟩
                | true =>
                  go_wp2_with fail
                  obtain ⟨wE, hwE⟩ : ∃ wE, wE = wr.alloc (.cells #[.int .i64 5, .int .i64 0, .int .i64 (un : Int), .int .i64 0, .int .i64 0, .slice none 0 0] 59) := ⟨_, rfl⟩
                  obtain ⟨s1, sb, ss⟩ := boxA1 (Below.refl _ (wr.alloc (.cells #[.int .i64 5, .int .i64 0, .int .i64 (un : Int), .int .i64 0, .int .i64 0, .slice none 0 0] 59)))
                  rw [← hwE] at s1 sb ss
                  obtain ⟨q13, hq13⟩ : ∃ q13, q13 = wr.heap.size := ⟨_, rfl⟩
                  rw [← hq13] at s1
                  rw [← hwE, ← hq13]
                  have hbE : Below w.heap.size w wE := HBW.out.trans (sb.mono HBW.out.size)
                  have hbA9 : Below wA.heap.size wA wE := (HBA7.out.trans (HB.out.mono HBA7.out.size)).trans (sb.mono (Nat.le_trans HBA7.out.size HB.out.size))
                  have c10e : wE.cell? ⟨q10, 0, none⟩ = some (.string d) := (sb.cell (p := ⟨q10, 0, none⟩) (cell_lt c10r)).trans c10r
                  obtain ⟨els, hk, hpe, hsrc⟩ := gsrc (HR.out.below hbE)
                  have hdk : DelK S d 5 (un : Int) := by
                    rw [HD.out, HUN.out]
                    exact delK_of hgr1 hu (by rw [← HD.out]; exact HRD.out.symm) (by rw [← HUN.out]; omega) (by omega) HFRS.out
                  have HDK := Lib.hid hdk
                  have HK := Lib.hid hk
                  have HPE := Lib.hid hpe
                  have HBE := Lib.hid hbE
                  have HBA9 := Lib.hid hbA9
                  have hnS := HN.out
                  refine gd22 d 5 (un : Int) sa t sc (els.flatMap El7.cells) q10 q13 _ wE _ rfl rfl rfl rfl c10e (fun i u hu => (s1 i).trans (by simpa using hu)) hsrc (by omega) ?_
                  intro a' w' q1 q2 hsz hdf hoff hbw' hc1 hc2 hrow
                  have ha' := lit22 rfl hsz hdf hoff
                  obtain ⟨y15, h15⟩ : ∃ y, y = a'.tmps.getD 15 undef := ⟨_, rfl⟩
                  rw [← h15] at ha' hrow
                  have hlen : t = els.length := by rw [hnS, ← hk, List.length_map]
                  have hrd : GReads w' y15 (addD S d 5 (un : Int)) := addD_reads (B := wE.heap.size) hk (fun e he => (hpe e he).below hbw') (by rw [hlen]) hrow hc1 ⟨hc2 0 _ rfl, hc2 1 _ rfl, hc2 2 _ rfl, hc2 3 _ rfl, hc2 4 _ rfl, hc2 5 _ rfl⟩
                  obtain ⟨a2, c2, hv15⟩ := hrow.form
                  subst hv15
                  have hbF : Below w.heap.size w w' := hbE.trans (hbw'.mono hbE.size)
                  have hbAF : Below wA.heap.size wA w' := hbA9.trans (hbw'.mono hbA9.size)
                  have HBB := Lib.hid (gbuild_any (addD S d 5 (un : Int)) (addD_fine HF.out HSS.out hdk.rd hdk.kd hdk.n0 hdk.n1) (addD_small HSS.out) (.slice a2 (t + 1) c2) w' hrd (HT.out.below hbF))
                  have HBF := Lib.hid hbF
                  have HBAF := Lib.hid hbAF
                  generalize a'.tmps.getD 86 undef = y86 at ha'
                  generalize a'.tmps.getD 87 undef = y87 at ha'
                  generalize a'.tmps.getD 88 undef = y88 at ha'
                  generalize a'.tmps.getD 89 undef = y89 at ha'
                  generalize a'.tmps.getD 90 undef = y90 at ha'
                  generalize a'.tmps.getD 91 undef = y91 at ha'
                  generalize a'.tmps.getD 92 undef = y92 at ha'
                  generalize a'.tmps.getD 93 undef = y93 at ha'
                  generalize a'.tmps.getD 94 undef = y94 at ha'
                  generalize a'.tmps.getD 95 undef = y95 at ha'
                  generalize a'.tmps.getD 96 undef = y96 at ha'
                  generalize a'.tmps.getD 97 undef = y97 at ha'
                  generalize a'.tmps.getD 98 undef = y98 at ha'
                  clear h15 hsz hdf hoff
                  rw [ha']
                  simp only [List.setIfInBounds_toArray, List.set_cons_zero, List.set_cons_succ]
                  clear hnS ha' hrd hrow hc1 hc2 hlen hbF hbAF hbw' hsrc hpe hk hdk hbE hbA9 s1 sb ss hwE hq13 c10e c10r c11r hV1 hE1 hgr1 hown hu hNV
                  go_wp2_with fail
                  refine HBB.out.mono ?_
                  rintro e w9 ⟨va2, ea2, k2, rfl, hbr2, hb9, hok2, hno2⟩
                  obtain rfl : k2 = 0 := addD_build HF.out HBR1.out HDK.out hbr2
                  obtain ⟨⟨V2, E2, hV2, hE2, hgr2⟩, hown2, hown2e⟩ := hok2 rfl
                  obtain ⟨hV1, hE1, hgr1, hown, hNV, hu⟩ := HV.out
                  have hgA := addD_graph (k := 5) (n := (un : Int)) (c := (-1)) (by first | exact .inl ⟨rfl, rfl⟩ | exact .inr ⟨rfl, rfl⟩) hgr1 hu (d := d) (by rw [HD.out, HUN.out]; rfl)
                  obtain ⟨rfl, rfl⟩ := graph_one ltB_asymm (addD_good HBR1.out.good.1 HDK.out).tame hgA hgr2
                  obtain ⟨⟨a3, n3, c3, rfl⟩, b3, m3, d3, rfl⟩ := bu_form hok2 hno2
                  obtain ⟨wC, hwC⟩ : ∃ wC, wC = w9.alloc (.cells #[.slice a3 n3 c3, .slice b3 m3 d3] 30) := ⟨_, rfl⟩
                  obtain ⟨r1, rb, rs⟩ := boxA1 (Below.refl _ (w9.alloc (.cells #[.slice a3 n3 c3, .slice b3 m3 d3] 30)))
                  rw [← hwC] at r1 rb rs
                  obtain ⟨q16, hq16⟩ : ∃ q16, q16 = w9.heap.size := ⟨_, rfl⟩
                  rw [← hq16] at r1
                  have hb9C : Below w'.heap.size w' wC := hb9.trans (rb.mono hb9.size)
                  have hbAC : Below wA.heap.size wA wC := HBAF.out.trans (hb9C.mono HBAF.out.size)
                  have hbC : Below w.heap.size w wC := HBF.out.trans (hb9C.mono HBF.out.size)
                  have z70 : wC.cell? ⟨q7, 0, none⟩ = some (.slice (some ⟨gb0, 0, none⟩) N c1) := (hbAC.cell (p := ⟨q7, 0, none⟩) (cell_lt HC7.out.1)).trans HC7.out.1
                  have z71 : wC.cell? ⟨q7, 1, none⟩ = some (.slice b1 m1 d1) := (hbAC.cell (p := ⟨q7, 1, none⟩) (cell_lt HC7.out.2)).trans HC7.out.2
                  have hvl := cell_lt HVC.out.2.2.2
                  have zv : wC.cell? ⟨gb0, p * 8 + 3, none⟩ = some (.int .i64 u.del) := (hbAC.cell (p := ⟨gb0, p * 8 + 3, none⟩) hvl).trans HVC.out.2.2.2
                  obtain ⟨gbx, cpx, hvx, _, hglx, hncx, _, hclx, _⟩ := hV1.pos (by omega)
                  simp only [Value.slice.injEq, Option.some.injEq, Addr.mk.injEq, and_true, true_and] at hvx
                  obtain ⟨hvx1, -, hvx2⟩ := hvx
                  subst hvx1 hvx2
                  have zf : wC.frozen? ⟨gb0, p * 8 + 3, none⟩ = false := (hbAC.frozen (p := ⟨gb0, p * 8 + 3, none⟩) hvl).trans ((HGB.out.frozen (p := ⟨gb0, p * 8 + 3, none⟩) hglx).trans (hclx (p * 8 + 3) (by omega)).2)
                  have hdb := del_bound HSS.out hgr1 (List.mem_of_getElem? hu)
                  have i9 : IntKind.i64.wrap (u.del + (-1)) = u.del + (-1) := w64 (by omega)
                  obtain ⟨wD, hwD⟩ : ∃ wD, wD = wC.setCell ⟨gb0, p * 8 + 3, none⟩ (.int .i64 (u.del + (-1))) := ⟨_, rfl⟩
                  have ho : Off (fun i => i = gb0) wC wD := by rw [hwD]; exact (Off.refl (fun i => i = gb0) wC).setCell (p := ⟨gb0, p * 8 + 3, none⟩) (.inr rfl) _
                  have hrowV : Row 8 0 wC (.slice (some ⟨gb0, 0, none⟩) N c1) N (vxs (V.map vxG)) := by
                    have := (hV1.below HGB.out).below hbAC
                    rw [← hNV] at this
                    exact this
                  have hrowD := Row.put hrowV (j := p * 8 + 3) (by rw [vxs_len, List.length_map, ← hNV]; omega) (.int .i64 (u.del + (-1)))
                  have hvs := vxs_set (L := V.map vxG) (j := p) (i := 3) (x := vxG u) (y := vxG { u with del := u.del + (-1) }) (u := .int .i64 (u.del + (-1))) (by rw [List.getElem?_map, hu]; rfl) (by omega) rfl
                  rw [← hwD, hvs, ← List.map_set] at hrowD
                  clear hvs
                  have hvD : VReads wD (.slice (some ⟨gb0, 0, none⟩) N c1) ((V.set p { u with del := u.del + (-1) }).map vxG) := VReads.ofRow (B := 0) (by rw [List.length_map, List.length_set, ← hNV]; exact hrowD)
                  have hgw : gb0 < w'.heap.size := Nat.lt_of_lt_of_le (Nat.lt_of_lt_of_le hglx HGB.out.size) HBAF.out.size
                  have he1 : RE wD (.slice b1 m1 d1) (prI E) := ((hE1.below HGB.out).below hbAC).off ho (fun b hb e => (hown.1 gb0 rfl).2 (by rw [hb, e]))
                  have hv2 : VReads wD (.slice a3 n3 c3) ((V.set p { u with del := u.del + (-1) }).map vxG) := VReads.ofRow (B := 0) (by rw [List.length_map]; exact (hV2.below rb).off ho (fun b hb e => by have := (hown2 b hb).1; omega))
                  have he2 : RE wD (.slice b3 m3 d3) (prI E) := (hE2.below rb).off ho (fun b hb e => by have := hown2e b hb; omega)
                  have hd64 := right_size HDK.out.rd
                  have hav : aliveV ((V.set p { u with del := u.del + (-1) }).map vxG) (p : Int) = decide (u.del + (-1) ≤ 0) := by
                    unfold aliveV
                    have h1 : ((V.set p { u with del := u.del + (-1) }).map vxG)[(p : Int).toNat]? = some (vxG { u with del := u.del + (-1) }) := by
                      rw [Int.toNat_natCast, List.getElem?_map, List.getElem?_set_self (by omega)]
                      rfl
                    have h2 : ¬ u.id.1 = ByteArray.empty := fun e => by
                      rw [HD.out, e] at hd64
                      cases hd64
                    rw [h1]
                    show (decide ((0 : Int) ≤ (p : Int)) && (!decide (u.id.1 = ByteArray.empty) && decide (u.del + (-1) ≤ 0))) = _
                    rw [decide_eq_true hpI0, decide_eq_false h2]
                    rfl
                  obtain ⟨al, hal⟩ : ∃ al, al = decide (u.del + (-1) ≤ 0) := ⟨_, rfl⟩
                  have hbD : Below w.heap.size w wD := hbC.trans (ho.below (B := w.heap.size) (fun i hi => by rw [hi]; exact Nat.le_trans HB3.out.size (hown.1 gb0 rfl).1) hbC.size)
                  have HBD := Lib.hid hbD
                  have HSA := Lib.hid (fun wz (hz : Below wD.heap.size wD wz) => gsame_any ((V.set p { u with del := u.del + (-1) }).map vxG) (prI E) (.slice (some ⟨gb0, 0, none⟩) N c1) (.slice b1 m1 d1) (.slice a3 n3 c3) (.slice b3 m3 d3) wz (hvD.below hz) (hv2.below hz) (he1.below hz) (he2.below hz))
                  have HAL := Lib.hid (fun wz (hz : Below wD.heap.size wD wz) => by have h := alive_any ((V.set p { u with del := u.del + (-1) }).map vxG) (.slice a3 n3 c3) (.slice b3 m3 d3) (p : Int) wz (hv2.below hz); rw [hav, ← hal] at h; exact h)
                  have HWD := Lib.hid hwD
                  have HWC := Lib.hid hwC
                  have HQ16 := Lib.hid hq16
                  have y70 : wD.cell? ⟨q7, 0, none⟩ = some (.slice (some ⟨gb0, 0, none⟩) N c1) := (ho.cell (p := ⟨q7, 0, none⟩) (cell_lt z70) (fun e => (Nat.ne_of_gt (Nat.lt_of_lt_of_le hglx (Nat.le_of_eq HQ7.out.symm))) e)).trans z70
                  have y71 : wD.cell? ⟨q7, 1, none⟩ = some (.slice b1 m1 d1) := (ho.cell (p := ⟨q7, 1, none⟩) (cell_lt z71) (fun e => (Nat.ne_of_gt (Nat.lt_of_lt_of_le hglx (Nat.le_of_eq HQ7.out.symm))) e)).trans z71
                  have hq16g : q16 ≠ gb0 := fun e => by have := hb9.size; omega
                  have y160 : wD.cell? ⟨q16, 0, none⟩ = some (.slice a3 n3 c3) := (ho.cell (p := ⟨q16, 0, none⟩) (cell_lt (r1 0)) hq16g).trans (r1 0)
                  have y161 : wD.cell? ⟨q16, 1, none⟩ = some (.slice b3 m3 d3) := (ho.cell (p := ⟨q16, 1, none⟩) (cell_lt (r1 1)) hq16g).trans (r1 1)
                  have yv : wD.cell? ⟨gb0, p * 8 + 3, none⟩ = some (.int .i64 (u.del + (-1))) := by rw [hwD]; exact World.cell?_setCell_same _ _ _ zv
                  have HY := Lib.hid (And.intro y70 (And.intro y71 (And.intro y160 (And.intro y161 yv))))
                  have e0 : errO 0 = Value.nilIface := rfl
                  rw [e0]
                  have x1 := neNilNil
                  have hxa : decide (u.del + (-1) ≤ 0) = al := hal.symm
                  rw [hwC] at z70 z71 zv zf
                  clear hbr2 hok2 hno2 hV2 hE2 hgr2 hown2 hown2e hV1 hE1 hgr1 hown hNV hu hgA hwC r1 rb rs hq16 hb9C hbAC hbC hvl hglx hncx hclx hdb hwD ho hrowV hrowD hvD hgw he1 hv2 he2 hd64 hav hal hbD y70 y71 y160 y161 yv hq16g hb9 HBB
                  go_wp2_with fail
                  rw [← HQ16.out]
                  rw [← HWC.out]
                  rw [← HWD.out]
                  clear z70 z71 zv zf i9 x1 e0
                  have HCAR := Lib.hid (fun (W W' : World) (h : W.cell? ⟨q7, 0, none⟩ = some (.slice (some ⟨gb0, 0, none⟩) N c1) ∧ W.cell? ⟨q7, 1, none⟩ = some (.slice b1 m1 d1) ∧ W.cell? ⟨q16, 0, none⟩ = some (.slice a3 n3 c3) ∧ W.cell? ⟨q16, 1, none⟩ = some (.slice b3 m3 d3) ∧ W.cell? ⟨gb0, p * 8 + 3, none⟩ = some (.int .i64 (u.del + (-1))) ∧ Below wD.heap.size wD W) (hb : Below W.heap.size W W') => (show W'.cell? ⟨q7, 0, none⟩ = some (.slice (some ⟨gb0, 0, none⟩) N c1) ∧ W'.cell? ⟨q7, 1, none⟩ = some (.slice b1 m1 d1) ∧ W'.cell? ⟨q16, 0, none⟩ = some (.slice a3 n3 c3) ∧ W'.cell? ⟨q16, 1, none⟩ = some (.slice b3 m3 d3) ∧ W'.cell? ⟨gb0, p * 8 + 3, none⟩ = some (.int .i64 (u.del + (-1))) ∧ Below wD.heap.size wD W' from ⟨(hb.cell (p := ⟨q7, 0, none⟩) (cell_lt h.1)).trans h.1, (hb.cell (p := ⟨q7, 1, none⟩) (cell_lt h.2.1)).trans h.2.1, (hb.cell (p := ⟨q16, 0, none⟩) (cell_lt h.2.2.1)).trans h.2.2.1, (hb.cell (p := ⟨q16, 1, none⟩) (cell_lt h.2.2.2.1)).trans h.2.2.2.1, (hb.cell (p := ⟨gb0, p * 8 + 3, none⟩) (cell_lt h.2.2.2.2.1)).trans h.2.2.2.2.1, h.2.2.2.2.2.trans (hb.mono h.2.2.2.2.2.size)⟩))
                  have HS0 := Lib.hid (HCAR.out wD wD.drew ⟨HY.out.1, HY.out.2.1, HY.out.2.2.1, HY.out.2.2.2.1, HY.out.2.2.2.2, Below.refl _ _⟩ ((Below.refl _ _).drew))
                  go_region_held3 (fun W => W.cell? ⟨q7, 0, none⟩ = some (.slice (some ⟨gb0, 0, none⟩) N c1) ∧ W.cell? ⟨q7, 1, none⟩ = some (.slice b1 m1 d1) ∧ W.cell? ⟨q16, 0, none⟩ = some (.slice a3 n3 c3) ∧ W.cell? ⟨q16, 1, none⟩ = some (.slice b3 m3 d3) ∧ W.cell? ⟨gb0, p * 8 + 3, none⟩ = some (.int .i64 (u.del + (-1))) ∧ Below wD.heap.size wD W) (first | with_reducible exact HS2.out | with_reducible exact HS1.out | with_reducible exact HS0.out) (first | (go_at_call 11; (with_reducible refine (HSA.out _ HS0.out.2.2.2.2.2).mono ?_); rintro e w11 ⟨rfl, hb11⟩; have HS1 := Lib.hid (HCAR.out _ w11 HS0.out hb11); clear hb11) | (go_at_call 15; (with_reducible refine (HAL.out _ HS1.out.2.2.2.2.2).mono ?_); rintro e w12 ⟨rfl, hb12⟩; have HS2 := Lib.hid (HCAR.out _ w12 HS1.out hb12); clear hb12))
                  rename_i hHeld
                  clear hHeld
                  go_wp2_with fail
                  go_ret
                  exact ⟨rfl, HBD.out.trans (HS2.out.2.2.2.2.2.mono HBD.out.size)⟩
    · have e0 : errO k1 = .iface 67 (.int .i64 k1) := by unfold errO; rw [if_neg hk0]
      rw [e0]
      have x1 := neIfNil
      rw [HWA.out] at c70 c71
      rw [HQ7.out] at c70 c71
      have HBD := HBA2
      rw [HWA.out] at HBD
      clear hbr1 hb5 hok1 hno1 hwA g1 gb gs hq7 hb5w hbA HBA
      go_wp2_with fail
      first
        | (go_ret; exact ⟨rfl, HBD.out⟩)
        | (go_quiet (fail)
           go_wp2_with fail
           go_ret
           exact ⟨rfl, below_dn HBD.out⟩)
end Go.Proofs.YtojnagonhihknaaGreatDoor
