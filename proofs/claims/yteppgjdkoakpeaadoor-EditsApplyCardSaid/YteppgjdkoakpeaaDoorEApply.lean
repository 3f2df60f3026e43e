/- The contract of Apply. -/
import Derived.Test.YteppgjdkoakpeaaDoorApp
set_option linter.unusedVariables false
namespace Go.Proofs.YteppgjdkoakpeaaDoor
open Go.ChangeShapes Go.WideShapes Go.ChangeAt Go.RowKit

/-- The error of what isn't edits. -/
abbrev errHunk : Value := .iface 43 (.int .i64 3)

set_option maxHeartbeats 400000 in
theorem eapply_no (v v' : Value) (w : World) (a : Ls) (hs : List Hk) (ha : Sl w v a) (hh : HReads w v' hs) (h3 : a.length ≤ 1000000) (hr : rightL hs a.length = false) :
    Calls Tryd.prog 5 #[v, v'] w fun e w' => e = .returned (.tuple #[.slice none 0 0, errHunk]) ∧ Below w.heap.size w w' := by
  have hc := eright_any hs v' w a.length hh h3
  rw [hr] at hc
  obtain ⟨aa, ca, rfl⟩ := ha.form
  have HC := Lib.hid hc
  clear hc
  go_enter Tryd.func5, Tryd.ntmps5
  go_wp2_with fail
  refine HC.out.mono ?_
  rintro e w1 ⟨rfl, hb⟩
  go_wp2
  go_ret2
  exact ⟨rfl, hb⟩

theorem box_cells (w : World) (c0 c1 c2 : Value) (t : TypeId) : (w.alloc (.cells #[c0, c1, c2] t)).cell? ⟨w.heap.size, 0, none⟩ = some c0 ∧ (w.alloc (.cells #[c0, c1, c2] t)).cell? ⟨w.heap.size, 1, none⟩ = some c1 ∧ (w.alloc (.cells #[c0, c1, c2] t)).cell? ⟨w.heap.size, 2, none⟩ = some c2 := by
  refine ⟨?_, ?_, ?_⟩ <;> rw [World.cell?_alloc_at _ _ _ _ rfl] <;> rfl

theorem box_apart {B C : Nat} {x y : Option Nat} (h : x = y ∨ x = some C) (hn : some B ≠ y) (hC : C = B + 1) : some B ≠ x := by
  subst hC
  intro e
  rcases h with h | h
  · exact hn (e.trans h)
  · have := e.trans h
    simp at this

set_option maxRecDepth 100000 in
set_option maxHeartbeats 4000000 in
theorem eapply_yes (v v' : Value) (w : World) (a : Ls) (ps : List (Hk × Value)) (hs : List Hk) (ha : Sl w v a) (hps : hs = ps.map (·.1)) (hh : HReads w v' hs) (h3 : a.length ≤ 1000000) (hr : rightL hs a.length = true) (ht : PTame hs)
    (hv : ∃ ao c, v' = .slice ao ps.length c ∧ (ps ≠ [] → ∃ b o, ao = some ⟨b, o, none⟩ ∧ HCells w b o ps)) :
    Calls Tryd.prog 5 #[v, v'] w fun e w' => ∃ u, e = .returned (.tuple #[u, .nilIface]) ∧ Sl w' u (appL a hs) ∧ Below w.heap.size w w' := by
  have hc := eright_any hs v' w a.length hh h3
  rw [hr] at hc
  obtain ⟨aa, ca, rfl⟩ := ha.form
  obtain ⟨ao, c, rfl, hcs⟩ := hv
  obtain ⟨al, hal⟩ : ∃ n, n = a.length := ⟨_, rfl⟩
  obtain ⟨L, hL⟩ : ∃ n, n = ps.length := ⟨_, rfl⟩
  have hlt0 := ht.1
  rw [hps, List.length_map, ← hL] at hlt0
  rw [← hal] at h3 hr hc ha ⊢
  rw [← hL] at hc ⊢
  have hac : al ≤ ca ∧ ca ≤ 9223372036854775807 := by
    rcases ha with ⟨e, _⟩ | ⟨_, _, e, k1, k2, _⟩
    · simp only [Value.slice.injEq] at e; omega
    · simp only [Value.slice.injEq] at e; omega
  obtain ⟨ac1, ac2⟩ := hac
  have HC := Lib.hid hc
  have HA := Lib.hid ha
  have HR := Lib.hid hr
  have HT := Lib.hid ht
  have HPS := Lib.hid hps
  have HCS := Lib.hid hcs
  have HAL := Lib.hid hal
  have HL := Lib.hid hL
  clear hc ha hr ht hps hcs hal hL hh
  go_enter Tryd.func5, Tryd.ntmps5
  go_wp2_with fail
  refine HC.out.mono ?_
  rintro e w1 ⟨rfl, hb1⟩
  have HB1 := Lib.hid hb1
  have hsz1 := hb1.size
  clear hb1
  go_wp2
  go_loopw [6, 7, 18] (fun ov dv iv wr => ∃ (m d : Nat) (o : Ls), m ≤ L ∧ iv = .int .i64 m ∧ dv = .int .i64 d ∧ d ≤ al ∧ pre a (hs.take m) = (o, (d : Int)) ∧ o.length ≤ d + 1000000 * m ∧ wr.ownsRow w.heap.size 9 1 ov o.length (o.map .string) ∧ Below w.heap.size w wr) (fun _ _ iv _ => L - (intOf iv).toNat)
  case atStart => exact ⟨0, 0, [], by omega, rfl, rfl, by omega, rfl, by simp, World.ownsRow_nil _ _ _ _, HB1.out⟩
  case round =>
    obtain ⟨m, d, o, hm, rfl, rfl, hd, hpre, hol, hown, hbel⟩ := hrel
    have HPRE := Lib.hid hpre
    have HBEL := Lib.hid hbel
    have hsz := hbel.size
    have hown1 := hown.alloc
    have HOWN := Lib.hid hown
    clear hpre hown hbel hown1
    by_cases hlt : m < L
    · obtain ⟨p, hp⟩ : ∃ p, ps[m]? = some p := ⟨ps[m]'(by rw [← HL.out]; exact hlt), by simp⟩
      have hk : hs[m]? = some p.1 := by rw [HPS.out, List.getElem?_map, hp]; rfl
      obtain ⟨r1, r2, r3, r4, r5, r6⟩ := right_at a (by omega) HR.out hk
      rw [HPRE.out] at r1 r2 r6
      simp only at r1 r2
      obtain ⟨T, hT⟩ : ∃ T : Nat, p.1.at_ = (T : Int) := ⟨p.1.at_.toNat, by omega⟩
      obtain ⟨C, hC⟩ : ∃ C : Nat, p.1.cut = (C : Int) := ⟨p.1.cut.toNat, by omega⟩
      have hpu := HT.out.2 p.1 (List.mem_of_getElem? hk)
      obtain ⟨b, of, rfl, hcc⟩ := HCS.out (by rintro rfl; simp at hp)
      obtain ⟨c1, c2, c3, c4⟩ := hcc.2 m p hp
      rw [hT] at c1 r2 r3 r5
      rw [hC] at c2 r5
      obtain ⟨pa, pc, ea⟩ := c4.form
      rw [ea] at c3 c4
      obtain ⟨U, hU⟩ : ∃ U, U = p.1.put.length := ⟨_, rfl⟩
      rw [← hU] at c3 c4 hpu
      have d1 := (HBEL.out.cell (p := ⟨b, of + m * 3, none⟩) hcc.1).trans c1
      have d2 := (HBEL.out.cell (p := ⟨b, of + m * 3 + 1, none⟩) hcc.1).trans c2
      have d3 := (HBEL.out.cell (p := ⟨b, of + m * 3 + 2, none⟩) hcc.1).trans c3
      have HK := Lib.hid hk
      have HTT := Lib.hid hT
      have HCC := Lib.hid hC
      have HU := Lib.hid hU
      have HP4 := Lib.hid c4
      have HR6 := Lib.hid r6
      clear hk hT hC hU c1 c2 c3 c4 r6 hcc hp ea
      have h0 : (0 : Int) ≤ m := by omega
      have h1 : (m : Int) < L := by omega
      have t0 : d ≤ T := by omega
      have t1 : T + C ≤ al := by omega
      have s0 : (0 : Int) ≤ d := by omega
      have s1 : (d : Int) ≤ T := by omega
      have s2 : (T : Int) ≤ ca := by omega
      obtain ⟨g0, g1, g2⟩ := box_cells wr (.int .i64 T) (.int .i64 C) (.slice pa U pc) 26
      have hbx : Below w.heap.size w (wr.alloc (.cells #[.int .i64 T, .int .i64 C, .slice pa U pc] 26)) := HBEL.out.alloc hsz _
      have hox := HOWN.out.alloc (.cells #[.int .i64 T, .int .i64 C, .slice pa U pc] 26)
      have hnb : some wr.heap.size ≠ u6.ownBlock := by
        intro e
        have := HOWN.out.lt wr.heap.size e.symm
        omega
      have HBX := Lib.hid hbx
      have HOX := Lib.hid hox
      have HNB := Lib.hid hnb
      have hszx : w.heap.size ≤ (wr.alloc (.cells #[.int .i64 T, .int .i64 C, .slice pa U pc] 26)).heap.size := by rw [World.size_alloc]; omega
      have HSZX := Lib.hid hszx
      clear hbx hox hnb hszx
      by_cases hcd : ca = d
      · subst hcd
        go_wp2_with (first
          | (at_builtin; refine wpList_app_sl rfl _ _ rfl w.heap.size _ _ _ _ rfl (by exact HOX.out) _ _ _ rfl ((a.drop ca).take (T - ca)) (sl_sub (HA.out.below HBX.out) t0 (by omega) (by intro h; first | rfl | exact absurd h (by assumption) | simp [h]) (by intro h; first | exact absurd rfl h | rfl | simp [h]) (by omega) (by first | rfl | omega)) (by rw [List.length_take]; omega) HSZX.out ?_; intro v2 w2 hown2 hgr2 hb2 hat2; have k0 := hgr2.cell g0 HNB.out; have k1 := hgr2.cell g1 HNB.out; have k2 := hgr2.cell g2 HNB.out)
          | (at_builtin; refine wpList_app_sl rfl _ _ rfl w.heap.size _ _ _ _ rfl (by exact hown2) _ _ _ rfl p.1.put (HP4.out.below (HBX.out.trans hb2)) (by rw [List.length_take, ← HU.out]; omega) (Nat.le_trans HSZX.out hb2.size) ?_; intro v3 w3 hown3 hgr3 hb3 hat3; have hn2 := box_apart hat2 HNB.out (World.size_alloc _ _); have k3 := hgr3.cell k0 hn2; have k4 := hgr3.cell k1 hn2))
        refine ⟨⟨m + 1, T + C, o ++ (a.drop ca).take (T - ca) ++ p.1.put, by omega, by go_num, by go_num, by omega, ?_, ?_, ?_, (HBX.out.trans hb2).trans hb3⟩, by simp [intOf]; omega⟩
        · rw [HR6.out]
          unfold appStep hend
          rw [HTT.out, HCC.out]
          simp only [Int.toNat_natCast]
          rw [show ((T : Int) - ca).toNat = T - ca by omega]
          rfl
        · rw [List.length_append, List.length_append, List.length_take, ← HU.out]
          omega
        · rw [List.length_append, List.length_append, List.map_append, List.map_append]
          exact hown3
      · skip
        go_wp2_with (first
          | (at_builtin; refine wpList_app_sl rfl _ _ rfl w.heap.size _ _ _ _ rfl (by exact HOX.out) _ _ _ rfl ((a.drop d).take (T - d)) (sl_sub (HA.out.below HBX.out) t0 (by omega) (by intro h; first | rfl | exact absurd h (by assumption) | simp [h]) (by intro h; first | exact absurd rfl h | rfl | simp [h]) (by omega) (by first | rfl | omega)) (by rw [List.length_take]; omega) HSZX.out ?_; intro v2 w2 hown2 hgr2 hb2 hat2; have k0 := hgr2.cell g0 HNB.out; have k1 := hgr2.cell g1 HNB.out; have k2 := hgr2.cell g2 HNB.out)
          | (at_builtin; refine wpList_app_sl rfl _ _ rfl w.heap.size _ _ _ _ rfl (by exact hown2) _ _ _ rfl p.1.put (HP4.out.below (HBX.out.trans hb2)) (by rw [List.length_take, ← HU.out]; omega) (Nat.le_trans HSZX.out hb2.size) ?_; intro v3 w3 hown3 hgr3 hb3 hat3; have hn2 := box_apart hat2 HNB.out (World.size_alloc _ _); have k3 := hgr3.cell k0 hn2; have k4 := hgr3.cell k1 hn2))
        refine ⟨⟨m + 1, T + C, o ++ (a.drop d).take (T - d) ++ p.1.put, by omega, by go_num, by go_num, by omega, ?_, ?_, ?_, (HBX.out.trans hb2).trans hb3⟩, by simp [intOf]; omega⟩
        · rw [HR6.out]
          unfold appStep hend
          rw [HTT.out, HCC.out]
          simp only [Int.toNat_natCast]
          rw [show ((T : Int) - d).toNat = T - d by omega]
          rfl
        · rw [List.length_append, List.length_append, List.length_take, ← HU.out]
          omega
        · rw [List.length_append, List.length_append, List.map_append, List.map_append]
          exact hown3
    · have s0 : (0 : Int) ≤ d := by omega
      have s1 : (d : Int) ≤ al := by omega
      have s2 : (al : Int) ≤ ca := by omega
      have em : ¬ m < L := hlt
      by_cases hcd : ca = d
      · subst hcd
        go_wp2_with (at_builtin; refine wpList_app_sl rfl _ _ rfl w.heap.size _ _ _ _ rfl (by exact HOWN.out) _ _ _ rfl ((a.drop ca).take (al - ca)) (sl_sub (HA.out.below HBEL.out) (by omega) (Nat.le_refl _) (by intro h; first | rfl | exact absurd h (by assumption) | simp [h]) (by intro h; first | exact absurd rfl h | rfl | simp [h]) (by omega) (by first | rfl | omega)) (by rw [List.length_take]; omega) hsz ?_; intro v2 w2 hown2 hgr2 hb2 hat2)
        go_ret2
        refine ⟨_, rfl, ?_, HBEL.out.trans hb2⟩
        have hfin : appL a hs = o ++ (a.drop ca).take (al - ca) := by
          have hp := HPRE.out
          rw [List.take_of_length_le (by rw [HPS.out, List.length_map, ← HL.out]; omega)] at hp
          unfold appL
          rw [hp]
          simp only [Int.toNat_natCast]
          rw [List.take_of_length_le (by rw [List.length_drop, ← HAL.out]; omega)]
        rw [hfin]
        rw [← List.map_append] at hown2
        exact own_sl hown2
      · skip
        go_wp2_with (at_builtin; refine wpList_app_sl rfl _ _ rfl w.heap.size _ _ _ _ rfl (by exact HOWN.out) _ _ _ rfl ((a.drop d).take (al - d)) (sl_sub (HA.out.below HBEL.out) (by omega) (Nat.le_refl _) (by intro h; first | rfl | exact absurd h (by assumption) | simp [h]) (by intro h; first | exact absurd rfl h | rfl | simp [h]) (by omega) (by first | rfl | omega)) (by rw [List.length_take]; omega) hsz ?_; intro v2 w2 hown2 hgr2 hb2 hat2)
        go_ret2
        refine ⟨_, rfl, ?_, HBEL.out.trans hb2⟩
        have hfin : appL a hs = o ++ (a.drop d).take (al - d) := by
          have hp := HPRE.out
          rw [List.take_of_length_le (by rw [HPS.out, List.length_map, ← HL.out]; omega)] at hp
          unfold appL
          rw [hp]
          simp only [Int.toNat_natCast]
          rw [List.take_of_length_le (by rw [List.length_drop, ← HAL.out]; omega)]
        rw [hfin]
        rw [← List.map_append] at hown2
        exact own_sl hown2

theorem eapply_any (v v' : Value) (w : World) (a : Ls) (hs : List Hk) (ha : Sl w v a) (hh : HReads w v' hs) (h3 : a.length ≤ 1000000) (ht : PTame hs) :
    Calls Tryd.prog 5 #[v, v'] w fun e w' => (∃ u, e = .returned (.tuple #[u, if rightL hs a.length then .nilIface else errHunk]) ∧ Sl w' u (if rightL hs a.length then appL a hs else [])) ∧ Below w.heap.size w w' := by
  cases hr : rightL hs a.length with
  | false => exact (eapply_no v v' w a hs ha hh h3 hr).mono fun e w' ⟨h1, h2⟩ => ⟨⟨_, h1, .inl ⟨rfl, rfl⟩⟩, h2⟩
  | true =>
    have hh' := hh
    obtain ⟨ps, hps, h⟩ := hh
    refine (eapply_yes v v' w a ps hs ha hps.symm hh' h3 hr ht ?_).mono fun e w' ⟨u, h1, h2, h3⟩ => ⟨⟨u, h1, h2⟩, h3⟩
    rcases h with ⟨rfl, a, c, rfl⟩ | ⟨hn, b, o, c, rfl, h1, h2, h3⟩
    · exact ⟨a, c, rfl, fun h => absurd rfl h⟩
    · exact ⟨_, c, rfl, fun _ => ⟨b, o, rfl, h3⟩⟩
end Go.Proofs.YteppgjdkoakpeaaDoor
