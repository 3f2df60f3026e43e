/- The contract of the reference's Apply. -/
import Derived.Test.YteppgjdkoakpeaaDoorApp
set_option linter.unusedVariables false
namespace Go.Proofs.YteppgjdkoakpeaaDoor
open Go.ChangeShapes Go.WideShapes Go.ChangeAt Go.RowKit

set_option maxHeartbeats 400000 in
theorem rapply_no (v v' : Value) (w : World) (a : Ls) (hs : List Hk) (ha : Sl w v a) (hh : HReads w v' hs) (h3 : a.length ≤ 1000000) (hr : rightL hs a.length = false) :
    Calls Tryd.prog 6 #[v, v'] w fun e w' => e = .returned (.tuple #[.slice none 0 0, .int .i64 3]) ∧ Below w.heap.size w w' := by
  have hc := rright_any hs v' w a.length hh h3
  rw [hr] at hc
  obtain ⟨aa, ca, rfl⟩ := ha.form
  have HC := Lib.hid hc
  clear hc
  go_enter Tryd.func6, Tryd.ntmps6
  go_wp2_with fail
  refine HC.out.mono ?_
  rintro e w1 ⟨rfl, hb⟩
  go_wp2
  go_ret2
  exact ⟨rfl, hb⟩

set_option maxRecDepth 100000 in
set_option maxHeartbeats 4000000 in
theorem rapply_yes (v v' : Value) (w : World) (a : Ls) (ps : List (Hk × Value)) (hs : List Hk) (ha : Sl w v a) (hps : hs = ps.map (·.1)) (hh : HReads w v' hs) (h3 : a.length ≤ 1000000) (hr : rightL hs a.length = true) (ht : PTame hs)
    (hv : ∃ ao c, v' = .slice ao ps.length c ∧ (ps ≠ [] → ∃ b o, ao = some ⟨b, o, none⟩ ∧ HCells w b o ps)) :
    Calls Tryd.prog 6 #[v, v'] w fun e w' => ∃ u, e = .returned (.tuple #[u, .int .i64 0]) ∧ Sl w' u (appL a hs) ∧ Below w.heap.size w w' := by
  have hc := rright_any hs v' w a.length hh h3
  rw [hr] at hc
  obtain ⟨aa, ca, rfl⟩ := ha.form
  obtain ⟨ao, c, rfl, hcs⟩ := hv
  obtain ⟨al, hal⟩ : ∃ n, n = a.length := ⟨_, rfl⟩
  obtain ⟨L, hL⟩ : ∃ n, n = ps.length := ⟨_, rfl⟩
  have hlt0 := ht.1
  rw [hps, List.length_map, ← hL] at hlt0
  rw [← hal] at h3 hr hc ha ⊢
  rw [← hL] at hc ⊢
  have HC := Lib.hid hc
  have HA := Lib.hid ha
  have HR := Lib.hid hr
  have HT := Lib.hid ht
  have HPS := Lib.hid hps
  have HCS := Lib.hid hcs
  have HAL := Lib.hid hal
  have HL := Lib.hid hL
  clear hc ha hr ht hps hcs hal hL hh
  go_enter Tryd.func6, Tryd.ntmps6
  go_wp2_with fail
  refine HC.out.mono ?_
  rintro e w1 ⟨rfl, hb1⟩
  have HB1 := Lib.hid hb1
  have hsz1 := hb1.size
  clear hb1
  go_wp2
  go_loopw [6, 7, 8] (fun ov dv iv wr => ∃ (m d : Nat) (o : Ls), m ≤ L ∧ iv = .int .i64 m ∧ dv = .int .i64 d ∧ d ≤ al ∧ pre a (hs.take m) = (o, (d : Int)) ∧ o.length ≤ d + 1000000 * m ∧ wr.ownsRow w.heap.size 9 1 ov o.length (o.map .string) ∧ Below w.heap.size w wr) (fun _ _ iv _ => L - (intOf iv).toNat)
  case atStart => exact ⟨0, 0, [], by omega, rfl, rfl, by omega, rfl, by simp, World.ownsRow_nil _ _ _ _, HB1.out⟩
  case round =>
    obtain ⟨m, d, o, hm, rfl, rfl, hd, hpre, hol, hown, hbel⟩ := hrel
    have HPRE := Lib.hid hpre
    have HOWN := Lib.hid hown
    have HBEL := Lib.hid hbel
    have hsz := hbel.size
    clear hpre hown hbel
    by_cases hlt : m < L
    · obtain ⟨p, hp⟩ : ∃ p, ps[m]? = some p := ⟨ps[m]'(by rw [← HL.out]; exact hlt), by simp⟩
      have hk : hs[m]? = some p.1 := by rw [HPS.out, List.getElem?_map, hp]; rfl
      obtain ⟨r1, r2, r3, r4, r5, r6⟩ := right_at a (by omega) HR.out hk
      rw [HPRE.out] at r1 r2 r6
      simp only at r1 r2
      obtain ⟨T, hT⟩ : ∃ T : Nat, p.1.at_ = (T : Int) := ⟨p.1.at_.toNat, by omega⟩
      obtain ⟨C, hC⟩ : ∃ C : Nat, p.1.cut = (C : Int) := ⟨p.1.cut.toNat, by omega⟩
      have hpu := HT.out.2 p.1 (List.mem_of_getElem? hk)
      obtain ⟨b, of, rfl, hcc⟩ := HCS.out (by rintro rfl; simp at hp)
      obtain ⟨c1, c2, c3, c4⟩ := hcc.2 m p hp
      rw [hT] at c1 r2 r3 r5
      rw [hC] at c2 r5
      obtain ⟨pa, pc, ea⟩ := c4.form
      rw [ea] at c3 c4
      obtain ⟨U, hU⟩ : ∃ U, U = p.1.put.length := ⟨_, rfl⟩
      rw [← hU] at c3 c4 hpu
      have d1 : ∀ wz, Below w.heap.size w wz → wz.cell? ⟨b, of + m * 3, none⟩ = some (.int .i64 T) := fun wz h => (h.cell (p := ⟨b, of + m * 3, none⟩) hcc.1).trans c1
      have d2 : ∀ wz, Below w.heap.size w wz → wz.cell? ⟨b, of + m * 3 + 1, none⟩ = some (.int .i64 C) := fun wz h => (h.cell (p := ⟨b, of + m * 3 + 1, none⟩) hcc.1).trans c2
      have d3 : ∀ wz, Below w.heap.size w wz → wz.cell? ⟨b, of + m * 3 + 2, none⟩ = some (.slice pa U pc) := fun wz h => (h.cell (p := ⟨b, of + m * 3 + 2, none⟩) hcc.1).trans c3
      have D1 := Lib.hid d1
      have D2 := Lib.hid d2
      have D3 := Lib.hid d3
      have HK := Lib.hid hk
      have HTT := Lib.hid hT
      have HCC := Lib.hid hC
      have HU := Lib.hid hU
      have HP4 := Lib.hid c4
      have HR6 := Lib.hid r6
      clear d1 d2 d3 hk hT hC hU c1 c2 c3 c4 r6 hcc hp ea
      have h0 : (0 : Int) ≤ m := by omega
      have h1 : (m : Int) < L := by omega
      have t0 : d ≤ T := by omega
      have t1 : T + C ≤ al := by omega
      go_wp2
      go_loopw [6, 7] (fun ov tv wr => ∃ (t : Nat) (o2 : Ls), d ≤ t ∧ t ≤ T ∧ tv = .int .i64 t ∧ o2 = o ++ (a.drop d).take (t - d) ∧ o2.length ≤ t + 1000000 * m ∧ wr.ownsRow w.heap.size 9 1 ov o2.length (o2.map .string) ∧ Below w.heap.size w wr) (fun _ tv _ => T - (intOf tv).toNat)
      case atStart => exact ⟨d, o, by omega, t0, rfl, by simp, hol, HOWN.out, HBEL.out⟩
      case round =>
        obtain ⟨t, o2, ht1, ht2, rfl, ho2, hl2, hown2, hbel2⟩ := hrel
        have HO2 := Lib.hid ho2
        have HOWN2 := Lib.hid hown2
        have HBEL2 := Lib.hid hbel2
        have hsz2 := hbel2.size
        have q1 := D1.out _ hbel2
        have q2 := D2.out _ hbel2
        have q3 := D3.out _ hbel2
        clear ho2 hown2 hbel2
        by_cases htT : t < T
        · obtain ⟨x, hx⟩ : ∃ x, a[t]? = some x := ⟨a[t]'(by rw [← HAL.out]; omega), by simp⟩
          obtain ⟨-, -, -, ba, oa, rfl, hca⟩ := HA.out.some (by rintro rfl; simp at hx)
          have cx := (HBEL2.out.cell (p := ⟨ba, oa + t, none⟩) hca.1).trans (hca.2 t x hx)
          have HX := Lib.hid hx
          clear hx hca
          have j0 : (0 : Int) ≤ t := by omega
          have j1 : (t : Int) < al := by omega
          go_wp2_with (at_builtin; refine wpList_push rfl _ _ 22 rfl w.heap.size 9 (.string ByteArray.empty) 1 16 Tryd.underlying22 Tryd.infoStr rfl (by decide) _ _ _ _ rfl (by exact HOWN2.out) [.string x] 1 _ _ rfl rfl rfl (by simp [Value.oneCell']) (by omega) (by omega) hsz2 ?_; intro v3 w3 hown3 hgr hb3)
          refine ⟨⟨t + 1, o2 ++ [x], by omega, by omega, by go_num, ?_, by simp; omega, by simpa using hown3, HBEL2.out.trans hb3⟩, by simp [intOf]; omega⟩
          rw [HO2.out, take_more ht1 HX.out, List.append_assoc]
        · have htT' : t = T := by omega
          have HEQ := Lib.hid htT'
          have hput := HP4.out.below (HBEL2.out.mono (Nat.le_refl _))
          have HPUT := Lib.hid hput
          clear htT' hput
          have hq2 : ∀ wz, Below w.heap.size w wz → wz.cell? ⟨b, of + m * 3 + 1, none⟩ = some (.int .i64 C) := D2.out
          go_wp2_with (at_builtin; refine wpList_app_sl rfl _ _ rfl w.heap.size _ _ _ _ rfl (by exact HOWN2.out) _ _ _ rfl p.1.put HPUT.out (by rw [← HU.out]; omega) hsz2 ?_; intro v3 w3 hown3 hgr hb3 hat; have q4 := D2.out w3 (HBEL2.out.trans hb3))
          refine ⟨⟨m + 1, T + C, o2 ++ p.1.put, by omega, by go_num, ?_, by omega, ?_, ?_, ?_, HBEL2.out.trans hb3⟩, by simp [intOf]; omega⟩
          · have := HEQ.out
            go_num
          · rw [HR6.out]
            unfold appStep hend
            rw [HO2.out, HTT.out, HCC.out, HEQ.out]
            simp only [Int.toNat_natCast]
            rw [show ((T : Int) - d).toNat = T - d by omega]
            rfl
          · rw [List.length_append, ← HU.out]
            have := HEQ.out
            omega
          · rw [List.length_append, List.map_append]
            exact hown3
    · have em : m = L := by omega
      have HEM := Lib.hid em
      clear em
      go_wp2
      go_loopw [6, 7] (fun ov tv wr => ∃ (t : Nat) (o2 : Ls), d ≤ t ∧ t ≤ al ∧ tv = .int .i64 t ∧ o2 = o ++ (a.drop d).take (t - d) ∧ o2.length ≤ t + 1000000 * m ∧ wr.ownsRow w.heap.size 9 1 ov o2.length (o2.map .string) ∧ Below w.heap.size w wr) (fun _ tv _ => al - (intOf tv).toNat)
      case atStart => exact ⟨d, o, by omega, by omega, rfl, by simp, hol, HOWN.out, HBEL.out⟩
      case round =>
        obtain ⟨t, o2, ht1, ht2, rfl, ho2, hl2, hown2, hbel2⟩ := hrel
        have HO2 := Lib.hid ho2
        have HOWN2 := Lib.hid hown2
        have HBEL2 := Lib.hid hbel2
        have hsz2 := hbel2.size
        clear ho2 hown2 hbel2
        by_cases htT : t < al
        · obtain ⟨x, hx⟩ : ∃ x, a[t]? = some x := ⟨a[t]'(by rw [← HAL.out]; omega), by simp⟩
          obtain ⟨-, -, -, ba, oa, rfl, hca⟩ := HA.out.some (by rintro rfl; simp at hx)
          have cx := (HBEL2.out.cell (p := ⟨ba, oa + t, none⟩) hca.1).trans (hca.2 t x hx)
          have HX := Lib.hid hx
          clear hx hca
          have j0 : (0 : Int) ≤ t := by omega
          have j1 : (t : Int) < al := by omega
          go_wp2_with (at_builtin; refine wpList_push rfl _ _ 22 rfl w.heap.size 9 (.string ByteArray.empty) 1 16 Tryd.underlying22 Tryd.infoStr rfl (by decide) _ _ _ _ rfl (by exact HOWN2.out) [.string x] 1 _ _ rfl rfl rfl (by simp [Value.oneCell']) (by omega) (by omega) hsz2 ?_; intro v3 w3 hown3 hgr hb3)
          refine ⟨⟨t + 1, o2 ++ [x], by omega, by omega, by go_num, ?_, by simp; omega, by simpa using hown3, HBEL2.out.trans hb3⟩, by simp [intOf]; omega⟩
          rw [HO2.out, take_more ht1 HX.out, List.append_assoc]
        · have htT' : t = al := by omega
          have HEQ := Lib.hid htT'
          clear htT'
          go_wp2
          go_ret2
          refine ⟨_, rfl, ?_, HBEL2.out⟩
          have hfin : appL a hs = o2 := by
            have hp := HPRE.out
            rw [List.take_of_length_le (by rw [HPS.out, List.length_map, ← HL.out]; have := HEM.out; omega)] at hp
            unfold appL
            rw [hp, HO2.out, HEQ.out]
            simp only [Int.toNat_natCast]
            rw [List.take_of_length_le (by rw [List.length_drop, ← HAL.out]; omega)]
          rw [hfin]
          exact own_sl HOWN2.out

theorem rapply_any (v v' : Value) (w : World) (a : Ls) (hs : List Hk) (ha : Sl w v a) (hh : HReads w v' hs) (h3 : a.length ≤ 1000000) (ht : PTame hs) :
    Calls Tryd.prog 6 #[v, v'] w fun e w' => (∃ u, e = .returned (.tuple #[u, .int .i64 (if rightL hs a.length then 0 else 3)]) ∧ Sl w' u (if rightL hs a.length then appL a hs else [])) ∧ Below w.heap.size w w' := by
  cases hr : rightL hs a.length with
  | false => exact (rapply_no v v' w a hs ha hh h3 hr).mono fun e w' ⟨h1, h2⟩ => ⟨⟨_, h1, .inl ⟨rfl, rfl⟩⟩, h2⟩
  | true =>
    have hh' := hh
    obtain ⟨ps, hps, h⟩ := hh
    refine (rapply_yes v v' w a ps hs ha hps.symm hh' h3 hr ht ?_).mono fun e w' ⟨u, h1, h2, h3⟩ => ⟨⟨u, h1, h2⟩, h3⟩
    rcases h with ⟨rfl, a, c, rfl⟩ | ⟨hn, b, o, c, rfl, h1, h2, h3⟩
    · exact ⟨a, c, rfl, fun h => absurd rfl h⟩
    · exact ⟨_, c, rfl, fun _ => ⟨b, o, rfl, h3⟩⟩
end Go.Proofs.YteppgjdkoakpeaaDoor
