/- The contract of the laws' Small. The contract of the graph's laws' Small. GraphDeletes: one patch more, that deletes or revives a line. Mathematics. -/
import Derived.Test.YtojnagonhihknaaGreatDoorU17
import Derived.Test.YtojnagonhihknaaGreatDoorU23
import Derived.Test.YtojnagonhihknaaGreatDoorU27
import Derived.Test.YtojnagonhihknaaGreatDoorU39
import Derived.Test.YtojnagonhihknaaGreatDoorU44
set_option linter.unusedVariables false
namespace Go.Proofs.YtojnagonhihknaaGreatDoor
open Go.ChangeShapes Go.WideShapes Go.ChangeAt Go.RowKit

def smallP (p : Pt) : Bool := decide (p.deps.length ≤ 200) && decide (p.ops.length ≤ 1000) && decide (linesN p.ops ≤ 2000)
set_option maxHeartbeats 2000000 in
set_option maxRecDepth 100000 in
theorem psmall_any (p : Pt) (dv ov : Value) (w : World) (hp : PReads w p.note dv ov p) (hl : ∀ o ∈ p.ops, o.lines.length ≤ 140737488355328) :
    Calls Tryz.prog 21 #[ptV p.note dv ov] w fun e w' => e = .returned (.bool (smallP p)) ∧ Below w.heap.size w w' := by
  obtain ⟨hnt, hd, ho⟩ := hp
  obtain ⟨da, dc, rfl, hdn⟩ := hd.form
  obtain ⟨oa, oc, rfl, hon⟩ := ho.form
  obtain ⟨t, ht⟩ : ∃ t, t = p.note := ⟨_, rfl⟩
  obtain ⟨n, hnn⟩ : ∃ n, n = p.ops.length := ⟨_, rfl⟩
  obtain ⟨m, hmm⟩ : ∃ m, m = p.deps.length := ⟨_, rfl⟩
  have hb1 : ∀ o1, Below w.heap.size w (w.alloc o1) := fun o1 => (Below.refl _ _).alloc (Nat.le_refl _) _
  rw [← hnn] at ho hon ⊢
  rw [← hmm] at hdn ⊢
  rw [← ht]
  have hsm : smallP p = (decide (m ≤ 200) && decide (n ≤ 1000) && decide (linesN p.ops ≤ 2000)) := by rw [hmm, hnn]; rfl
  have HO := Lib.hid ho
  have HN := Lib.hid hnn
  have HB1 := Lib.hid hb1
  have HL := Lib.hid hl
  have HSM := Lib.hid hsm
  clear ho hnn hmm ht hb1 hl hsm hnt hd
  by_cases hg : m ≤ 200 ∧ n ≤ 1000
  · obtain ⟨g1, g2⟩ := hg
    have e1 : ¬ (200 : Int) < m := by omega
    have e2 : ¬ (1000 : Int) < n := by omega
    go_enter Tryz.func21, Tryz.ntmps21
    go_wp2_with fail
    go_loopw [3, 19] (fun s i wr => ∃ (k N : Nat), k ≤ n ∧ i = .int .i64 (k : Nat) ∧ s = .int .i64 (N : Nat) ∧ N ≤ 2000 ∧ Hid (N = linesN (p.ops.take k)) ∧ Hid (Below w.heap.size w wr)) (fun _ i _ => n - (intOf i).toNat)
    case atStart => exact ⟨0, 0, Nat.zero_le _, rfl, rfl, by omega, Lib.hid (by simp [linesN]), HB1.out _ |> Lib.hid⟩
    case round =>
      obtain ⟨k, N, hk, rfl, rfl, hN, HNN, HB⟩ := hrel
      by_cases hlt : k < n
      · obtain ⟨x, hx⟩ : ∃ x, p.ops[k]? = some x := ⟨p.ops[k]'(by rw [← HN.out]; exact hlt), by simp⟩
        obtain ⟨b, o, rfl, hnl, hcl⟩ := HO.out.at hx
        clear hnl
        obtain ⟨lv, d0, d1, d2, d3, d4, d5, d6⟩ := (hcl.below HB.out).2 k x hx
        obtain ⟨la, lc, hlv, _⟩ := d6.form
        obtain ⟨L, hL⟩ : ∃ L, L = x.lines.length := ⟨_, rfl⟩
        rw [← hL] at hlv
        subst hlv
        have hL2 : L ≤ 140737488355328 := by rw [hL]; exact HL.out x (List.mem_of_getElem? hx)
        have hsn : linesN (p.ops.take (k + 1)) = N + L := by rw [linesN_snoc hx, ← HNN.out, hL]
        have HSN := Lib.hid hsn
        have HBA := Lib.hid (show ∀ o1, Below w.heap.size w (wr.alloc o1) from fun o1 => HB.out.alloc HB.out.size _)
        clear hx hcl d6 hL hsn
        obtain ⟨K, ⟨x1, y1⟩, ⟨x2, y2⟩, ls⟩ := x
        simp only at d0 d1 d2 d3 d4
        by_cases hbig : 2000 < N + L
        · have e3 : (2000 : Int) < (N : Int) + L := by omega
          have hno : smallP p = false := by
            rw [HSM.out]
            have h1 := linesN_take p.ops (k + 1)
            have h2 : ¬ linesN p.ops ≤ 2000 := by have := HSN.out; omega
            simp [h2]
          have HNO := Lib.hid hno
          clear hno
          go_wp2_with fail
          go_ret
          exact ⟨ret_bool HNO.out.symm, HBA.out _⟩
        · have e3 : ¬ (2000 : Int) < (N : Int) + L := by omega
          go_wp2_with fail
          exact ⟨⟨k + 1, N + L, by omega, by go_num, by go_num, by omega, Lib.hid HSN.out.symm, Lib.hid (HBA.out _)⟩, by simp [intOf]; omega⟩
      · obtain rfl : k = n := by omega
        have hyes : smallP p = true := by
          rw [HSM.out]
          have h1 : linesN p.ops = N := by rw [HNN.out, List.take_of_length_le (by rw [← HN.out]; exact Nat.le_refl _)]
          simp [g1, g2, h1, hN]
        have HY := Lib.hid hyes
        clear hyes
        go_wp2_with fail
        go_ret
        exact ⟨ret_bool HY.out.symm, HB.out⟩
  · have hs : smallP p = false := by
      rw [HSM.out]
      by_cases g1 : m ≤ 200
      · have g2 : ¬ n ≤ 1000 := fun h => hg ⟨g1, h⟩
        simp [g2]
      · simp [g1]
    have HS := Lib.hid hs
    clear hs
    go_enter Tryz.func21, Tryz.ntmps21
    go_wp2_with fail
    all_goals first
      | (exfalso; omega)
      | (go_ret; exact ⟨ret_bool HS.out.symm, HB1.out _⟩)
end Go.Proofs.YtojnagonhihknaaGreatDoor
set_option linter.unusedVariables false
set_option linter.unusedSimpArgs false
namespace Go.Proofs.YtojnagonhihknaaGreatDoor
open Go.ChangeShapes Go.WideShapes Go.ChangeAt Go.RowKit

def smallG (S : SetP) : Prop := SmallS (sdeps S) ∧ (∀ p ∈ S, smallP p.2 = true) ∧ (S.map fun p => linesN p.2.ops + p.2.ops.length).sum ≤ 400
theorem smallG.big {S : SetP} (h : smallG S) : SmallG S := ⟨h.1.wide, by have := h.2.2; omega⟩
theorem sumG_snoc {S : SetP} {k : Nat} {p : ByteArray × Pt} (h : S[k]? = some p) : ((S.take (k + 1)).map fun p => linesN p.2.ops + p.2.ops.length).sum = ((S.take k).map fun p => linesN p.2.ops + p.2.ops.length).sum + (linesN p.2.ops + p.2.ops.length) := by
  rw [List.take_add_one, h, List.map_append, List.sum_append]
  simp
theorem smallP_ops {p : Pt} (h : smallP p = true) : p.ops.length ≤ 1000 ∧ linesN p.ops ≤ 2000 := by
  unfold smallP at h
  simp only [Bool.and_eq_true, decide_eq_true_eq] at h
  omega
theorem linesN_stepG {l : List Opp} {k : Nat} {o : Opp} (h : l[k]? = some o) : linesN (l.take (k + 1)) = linesN (l.take k) + o.lines.length := by
  rw [List.take_add_one, h, linesN_app]
  simp [linesN]
set_option maxHeartbeats 4000000 in
set_option maxRecDepth 100000 in
theorem gsmall_any (S : SetP) (v : Value) (w : World) (hr : GReads w v S) (hf : S.fine) :
    Calls Tryz.prog 8 #[v] w fun e w' => ∃ b, e = .returned (.bool b) ∧ (b = true ↔ smallG S) ∧ Below w.heap.size w w' := by
  obtain ⟨sa, sc, rfl, _⟩ := hr.form
  obtain ⟨n, hnn⟩ : ∃ n, n = S.length := ⟨_, rfl⟩
  have h6 := small_any (sdeps S) _ w hr.sreads (fun p hp => by
    obtain ⟨q, hq, rfl⟩ := List.mem_map.1 hp
    exact (hf.2 q hq).2.2.1) (by unfold sdeps; rw [List.length_map]; exact hf.1)
  have hl6 : S.length = (sdeps S).length := by unfold sdeps; rw [List.length_map]
  rw [← hnn] at hr h6 hl6 ⊢
  have HR := Lib.hid hr
  have HF := Lib.hid hf
  have HN := Lib.hid hnn
  have H6 := Lib.hid h6
  have HL6 := Lib.hid hl6
  clear hr hf hnn h6 hl6
  go_enter Tryz.func8, Tryz.ntmps8
  go_wp2_with fail
  refine H6.out.mono ?_
  rintro e w2 ⟨b, rfl, hb, hb2⟩
  have HB2 := Lib.hid hb2
  have HBI := Lib.hid hb
  clear hb hb2 H6
  cases b with
  | false =>
    have HNO : Hid (¬ smallG S) := Lib.hid (fun h => by have := HBI.out.2 h.1; cases this)
    go_wp2_with fail
    go_ret
    exact ⟨false, rfl, ⟨fun h => (by cases h), fun h => absurd h HNO.out⟩, HB2.out⟩
  | true =>
    have hsm := HBI.out.1 rfl
    have hn60 : n ≤ 60 := by rw [HL6.out]; exact hsm.1
    have HSM := Lib.hid hsm
    clear hsm HBI
    go_wp2_with fail
    go_loopw [3, 13] (fun tv iv wr => ∃ k t : Nat, k ≤ n ∧ iv = .int .i64 (k : Nat) ∧ tv = .int .i64 (t : Nat) ∧ t ≤ k * 3000 ∧ Hid (t = ((S.take k).map fun p => linesN p.2.ops + p.2.ops.length).sum) ∧ Hid (∀ p ∈ S.take k, smallP p.2 = true) ∧ Hid (Below w.heap.size w wr)) (fun _ iv _ => n - (intOf iv).toNat)
    case atStart => exact ⟨0, 0, Nat.zero_le _, rfl, rfl, Nat.zero_le _, Lib.hid rfl, Lib.hid (fun p hp => by simp at hp), HB2⟩
    case round =>
      obtain ⟨k, t, hk, rfl, rfl, ht, HT, HA, HB⟩ := hrel
      by_cases hlt : k < n
      · obtain ⟨x, hx⟩ : ∃ x, S[k]? = some x := ⟨S[k]'(by rw [← HN.out]; exact hlt), by simp⟩
        have hxS := List.mem_of_getElem? hx
        obtain ⟨b, o, rfl, hbl, _, _, dv, ov, m0, m1, m2, m3, hpr⟩ := HR.out.at hx
        have d0 := (HB.out.cell (p := ⟨b, o + k * 4, none⟩) hbl).trans m0
        have d1 := (HB.out.cell (p := ⟨b, o + k * 4 + 1, none⟩) hbl).trans m1
        have d2 := (HB.out.cell (p := ⟨b, o + k * 4 + 2, none⟩) hbl).trans m2
        have d3 := (HB.out.cell (p := ⟨b, o + k * 4 + 3, none⟩) hbl).trans m3
        obtain ⟨da, dc, hdv, _⟩ := hpr.deps.form
        obtain ⟨oa, oc, hov, hol⟩ := hpr.ops.form
        obtain ⟨dn, hdn⟩ : ∃ dn, dn = x.2.deps.length := ⟨_, rfl⟩
        obtain ⟨on, hon⟩ : ∃ on, on = x.2.ops.length := ⟨_, rfl⟩
        rw [← hdn] at hdv
        rw [← hon] at hov hol
        subst hdv hov
        obtain ⟨nm, P⟩ := x
        simp only at d0 d1 hpr hdn hon
        obtain ⟨nt, htt⟩ : ∃ nt, nt = P.note := ⟨_, rfl⟩
        obtain ⟨q5, hq5⟩ : ∃ q5, q5 = wr.heap.size := ⟨_, rfl⟩
        obtain ⟨wy, hwy⟩ : ∃ wy, wy = wr.alloc (.cells #[.string nm, .string nt, .slice da dn dc, .slice oa on oc] 49) := ⟨_, rfl⟩
        obtain ⟨p1, pb, ps⟩ := boxA1 (Below.refl _ (wr.alloc (.cells #[.string nm, .string nt, .slice da dn dc, .slice oa on oc] 49)))
        rw [← hwy] at p1 pb ps
        rw [← hq5] at p1
        have hbwy : Below w.heap.size w wy := HB.out.trans (pb.mono HB.out.size)
        have h5 := psmall_any P (.slice da dn dc) (.slice oa on oc) wy (hpr.below hbwy) (HF.out.2 _ hxS).2.2.2.2
        obtain ⟨sp, hsp⟩ : ∃ sp, sp = smallP P := ⟨_, rfl⟩
        rw [← hsp, ← htt] at h5
        rw [← htt] at d1
        have H5 := Lib.hid h5
        have HSP := Lib.hid hsp
        have HX := Lib.hid hx
        have HXS := Lib.hid hxS
        have HPR := Lib.hid hpr
        have HON := Lib.hid hon
        have HQ5 := Lib.hid hq5
        have HWY := Lib.hid hwy
        have HBY := Lib.hid hbwy
        have HP1 := Lib.hid (show wy.cell? ⟨q5, 0, none⟩ = some (.string nm) ∧ wy.cell? ⟨q5, 1, none⟩ = some (.string nt) ∧ wy.cell? ⟨q5, 2, none⟩ = some (.slice da dn dc) ∧ wy.cell? ⟨q5, 3, none⟩ = some (.slice oa on oc) from ⟨p1 0, p1 1, p1 2, p1 3⟩)
        clear hx hxS hpr m0 m1 m2 m3 h5 hsp hon hdn hq5 hwy hbwy p1 pb ps htt
        go_wp2_with fail
        rw [← HQ5.out]
        rw [← HWY.out]
        refine H5.out.mono ?_
        rintro e w4 ⟨rfl, hb4⟩
        obtain ⟨p10, p11, p12, p13⟩ := HP1.out
        have a0 := (hb4.cell (p := ⟨q5, 0, none⟩) (cell_lt p10)).trans p10
        have a1 := (hb4.cell (p := ⟨q5, 1, none⟩) (cell_lt p11)).trans p11
        have a2 := (hb4.cell (p := ⟨q5, 2, none⟩) (cell_lt p12)).trans p12
        have a3 := (hb4.cell (p := ⟨q5, 3, none⟩) (cell_lt p13)).trans p13
        have HB4 := Lib.hid (HBY.out.trans (hb4.mono HBY.out.size))
        clear hb4 H5 HP1 p10 p11 p12 p13 d0 d1 d2 d3
        cases sp with
        | false =>
          have HNO : Hid (¬ smallG S) := Lib.hid (fun h => by have := h.2.1 _ HXS.out; rw [← HSP.out] at this; cases this)
          go_wp2_with fail
          go_ret
          exact ⟨false, rfl, ⟨fun h => (by cases h), fun h => absurd h HNO.out⟩, HB4.out⟩
        | true =>
          obtain ⟨hp1, hp2⟩ := smallP_ops HSP.out.symm
          have hon9 : on ≤ 1000 := by rw [HON.out]; exact hp1
          have i1 : IntKind.i64.wrap ((t : Int) + (on : Int)) = ((t + on : Nat) : Int) := by rw [IntKind.wrap_i64]; omega
          have HL2 := Lib.hid hp2
          clear hp1 hp2
          go_wp2_with fail
          go_loopw [3, 31] (fun tv iv wr => ∃ j u : Nat, j ≤ on ∧ iv = .int .i64 (j : Nat) ∧ tv = .int .i64 (u : Nat) ∧ Hid (u = t + on + linesN (P.ops.take j)) ∧ u ≤ k * 3000 + 3000 ∧ Hid (Below w.heap.size w wr)) (fun _ iv _ => on - (intOf iv).toNat)
          case atStart => exact ⟨0, t + on, Nat.zero_le _, rfl, rfl, Lib.hid rfl, by omega, HB4⟩
          case round =>
            clear a0 a1 a2 a3
            obtain ⟨j, u, hj, rfl, rfl, HU, hu, HBJ⟩ := hrel
            by_cases hlj : j < on
            · obtain ⟨z, hz⟩ : ∃ z, P.ops[j]? = some z := ⟨P.ops[j]'(by rw [← HON.out]; exact hlj), by simp⟩
              obtain ⟨b2, o2, rfl, _, hcl⟩ := (HPR.out.below HBJ.out).ops.at hz
              obtain ⟨lv, e0, e1, e2, e3, e4, e5, e6⟩ := hcl.2 j z hz
              obtain ⟨la, lc, hlv, hll⟩ := e6.form
              subst hlv
              obtain ⟨N, hN⟩ : ∃ N, N = z.lines.length := ⟨_, rfl⟩
              have hst := linesN_stepG hz
              have htk := linesN_take P.ops (j + 1)
              rw [← hN] at e5 hst
              have hu2 : u + N = t + on + linesN (P.ops.take (j + 1)) := by have := HU.out; omega
              have hu3 : u + N ≤ k * 3000 + 3000 := by have := HL2.out; omega
              have i2 : IntKind.i64.wrap ((u : Int) + (N : Int)) = ((u + N : Nat) : Int) := by rw [IntKind.wrap_i64]; omega
              obtain ⟨u2, hu9⟩ : ∃ u2, u2 = u + N := ⟨_, rfl⟩
              rw [← hu9] at hu2 hu3 i2
              have HU2 := Lib.hid hu2
              have HBZ := Lib.hid (fun (x : Obj) => HBJ.out.alloc HBJ.out.size x)
              clear hz hcl e6 hN hst htk hu2 hu9 hll
              obtain ⟨K, ⟨ax, ay⟩, ⟨bx, bY⟩, ls⟩ := z
              simp only at e0 e1 e2 e3 e4
              go_wp2_with fail
              exact ⟨⟨j + 1, u2, by omega, by go_num, by first | rfl | go_num, HU2, hu3, Lib.hid (HBZ.out _)⟩, by simp [intOf]; omega⟩
            · have hje : j = on := by omega
              subst hje
              have HT2 : Hid (u = ((S.take (k + 1)).map fun p => linesN p.2.ops + p.2.ops.length).sum) := Lib.hid (by
                rw [sumG_snoc HX.out, ← HT.out, HU.out, List.take_of_length_le (by rw [← HON.out]; exact Nat.le_refl _), HON.out]
                simp only
                omega)
              have HA2 : Hid (∀ p ∈ S.take (k + 1), smallP p.2 = true) := Lib.hid (fun p hp => by
                rw [List.take_add_one, HX.out] at hp
                rcases List.mem_append.1 hp with hp | hp
                · exact HA.out p hp
                · simp at hp
                  rw [hp]
                  exact HSP.out.symm)
              go_wp2_with fail
              exact ⟨⟨k + 1, u, by omega, by go_num, rfl, by omega, HT2, HA2, HBJ⟩, by simp [intOf]; omega⟩
      · have hkn : k = n := by omega
        subst hkn
        have hall : S.take k = S := List.take_of_length_le (by rw [← HN.out]; exact Nat.le_refl _)
        have HT2 := HT.out
        have HA2 := HA.out
        rw [hall] at HT2 HA2
        have HIF : Hid (smallG S ↔ t ≤ 400) := Lib.hid (by
          unfold smallG
          rw [← HT2]
          exact ⟨fun h => h.2.2, fun h => ⟨HSM.out, HA2, h⟩⟩)
        clear HT2 HA2 hall
        go_wp2_with fail
        go_ret
        exact ⟨_, rfl, by rw [HIF.out, decide_eq_true_iff]; omega, HB.out⟩
end Go.Proofs.YtojnagonhihknaaGreatDoor
set_option linter.unusedVariables false
set_option linter.unusedSimpArgs false
namespace Go.Proofs.YtojnagonhihknaaGreatDoor

theorem told_all {T : SetB} {lb : List Bs} (hu : (T.map fun p => bsOf p.1).Nodup) (hlb : ∀ x ∈ lb, x ∈ nsB T) (hcov : ∀ p ∈ T, bsOf p.1 ∈ lb) (hbeh : ∀ k (hk : k < lb.length), ∀ p ∈ T, bsOf p.1 = lb[k] → ∀ d ∈ p.2, bsOf d ∈ lb.take k) {out : Lb} {k : Int} (hr : LinR T out k) : k = 0 := by
  have hf := nsB_full hu
  rcases hr with ⟨hlt, _, _⟩ | ⟨_, told, hre, hnx, ⟨htl, _, _⟩ | ⟨_, _, hk⟩⟩
  · omega
  · exfalso
    have hasc := (nsB_spec T).1
    obtain ⟨htd, htm⟩ := reach_tame hre
    have hs6 : (s6 T).map (·.1) = T.map fun p => bsOf p.1 := by simp [s6]
    obtain ⟨tn, htn⟩ : ∃ tn, tn = told.map fun u => (nsB T).getD u.toNat [] := ⟨_, rfl⟩
    have hat : ∀ u ∈ told, ∃ k : Nat, ∃ hk : k < (nsB T).length, u = (k : Int) ∧ (nsB T).getD u.toNat [] = (nsB T)[k] := fun u hu => by
      obtain ⟨k, hk, rfl⟩ := htm u hu
      refine ⟨k, hk, rfl, ?_⟩
      rw [List.getD_eq_getElem?_getD, Int.toNat_natCast, List.getElem?_eq_getElem hk]
      rfl
    have hpl : tn.map (placeB (nsB T)) = told := by
      rw [htn, List.map_map]
      conv => rhs; rw [← List.map_id told]
      refine List.map_congr_left fun u hu => ?_
      obtain ⟨k, hk, rfl, e⟩ := hat u hu
      simp only [Function.comp]
      rw [e, place_at hasc hk]
      rfl
    have htns : ∀ x ∈ tn, x ∈ nsB T := fun x hx => by
      rw [htn] at hx
      obtain ⟨u, hu, rfl⟩ := List.mem_map.1 hx
      obtain ⟨k, hk, rfl, e⟩ := hat u hu
      rw [e]
      exact List.getElem_mem hk
    have hnone := next_none (ns := nsB T) (set := s6 T) (told := tn) hasc (fun x => by rw [hs6]; exact (nsB_spec T).2 x) (by rw [hs6]; exact hu) htns (by rw [hpl]; exact hnx)
    have key : ∀ i, ∀ (hi : i < lb.length), lb[i] ∈ tn := by
      intro i
      induction i using Nat.strongRecOn with
      | _ i ih =>
        intro hi
        rcases Classical.em (lb[i] ∈ tn) with h1 | h1
        · exact h1
        · exfalso
          obtain ⟨p, hp, hpe⟩ := nsB_mem.1 (hlb lb[i] (List.getElem_mem hi))
          refine hnone lb[i] ⟨(bsOf p.1, p.2.map bsOf), List.mem_map.2 ⟨p, hp, rfl⟩, hpe, h1, fun d hd => ?_⟩
          obtain ⟨d0, hd0, rfl⟩ := List.mem_map.1 hd
          have hb := hbeh i hi p hp hpe d0 hd0
          obtain ⟨j, hj, hje⟩ := List.getElem_of_mem hb
          rw [List.length_take] at hj
          rw [List.getElem_take] at hje
          have := ih j (by omega) (by omega)
          rw [hje] at this
          exact this
    have hall : ∀ x ∈ T.map (fun p => bsOf p.1), x ∈ tn := fun x hx => by
      obtain ⟨p, hp, rfl⟩ := List.mem_map.1 hx
      obtain ⟨i, hi, hie⟩ := List.getElem_of_mem (hcov p hp)
      rw [← hie]
      exact key i hi
    have := nodup_sub hu hall
    rw [List.length_map, htn, List.length_map] at this
    omega
  · exact hk
abbrev ownN : ByteArray := ⟨#[97, 32, 110, 97, 109, 101, 32, 111, 102, 32, 105, 116, 115, 32, 111, 119, 110]⟩
def opD (k n : Int) : Opp := ⟨k, ⟨0, n⟩, ⟨0, 0⟩, []⟩
def ptD (d : ByteArray) (k n : Int) : Pt := ⟨⟨#[]⟩, [d], [opD k n]⟩
def addD (S : SetP) (d : ByteArray) (k n : Int) : SetP := S ++ [(ownN, ptD d k n)]
theorem right_size {d : ByteArray} (h : rightL d.data.toList = true) : d.size = 64 := by
  unfold rightL at h
  simp only [Bool.and_eq_true, decide_eq_true_eq] at h
  have : d.data.toList.length = d.size := Array.length_toList
  omega
theorem mem_ptD {d : ByteArray} {k n : Int} {o : Opp} (h : o ∈ (ptD d k n).ops) : o = opD k n := by simpa [ptD] using h
theorem opD_wf {k n : Int} (hk : k = 4 ∨ k = 5) (h0 : 0 ≤ n) (h1 : n ≤ 299) : (opD k n).wf := ⟨⟨by show -9223372036854775808 ≤ k; omega, by show k ≤ 9223372036854775807; omega⟩, ⟨⟨by show (-9223372036854775808 : Int) ≤ 0; omega, by show (0 : Int) ≤ 9223372036854775807; omega⟩, ⟨by show -9223372036854775808 ≤ n; omega, by show n ≤ 9223372036854775807; omega⟩⟩, ⟨⟨by show (-9223372036854775808 : Int) ≤ 0; omega, by show (0 : Int) ≤ 9223372036854775807; omega⟩, ⟨by show (-9223372036854775808 : Int) ≤ 0; omega, by show (0 : Int) ≤ 9223372036854775807; omega⟩⟩⟩
theorem ptD_fine {d : ByteArray} {k n : Int} (hd : rightL d.data.toList = true) (hk : k = 4 ∨ k = 5) (h0 : 0 ≤ n) (h1 : n ≤ 299) : (ptD d k n).fine := by
  refine ⟨fun o ho => by rw [mem_ptD ho]; exact opD_wf hk h0 h1, by show (0 : Nat) ≤ _; omega, fun x hx => ?_, fun o ho x hx => ?_⟩
  · have e : x = d := by simpa [ptD] using hx
    rw [e, right_size hd]; omega
  · rw [mem_ptD ho] at hx
    simp [opD] at hx
theorem ptD_opR {d : ByteArray} {k n : Int} (hk : k = 4 ∨ k = 5) (h0 : 0 ≤ n) (h1 : n ≤ 299) : opsR (ptD d k n).deps.length 0 (ptD d k n).ops = true := by
  have h : opR 1 0 (opD k n) = true := by
    unfold opR opD refB
    rw [if_neg (by show k ≠ 1; omega), if_neg (by show ¬ (k = 2 ∨ k = 3); omega), if_pos (by show k = 4 ∨ k = 5; exact hk)]
    simp
    omega
  show opsR 1 0 [opD k n] = true
  simp [opsR, h]
theorem ptD_right {d : ByteArray} {k n : Int} (hd : rightL d.data.toList = true) (hk : k = 4 ∨ k = 5) (h0 : 0 ≤ n) (h1 : n ≤ 299) : rightP (ptD d k n) = true := by
  refine small_right (ptD_fine hd hk h0 h1).wf (by show (0 : Nat) ≤ 100; omega) (by show (1 : Nat) ≤ 1; omega) (risB_iff.2 ⟨by show (1 : Nat) ≤ 64; omega, fun j hj x hx => ?_⟩) (by show (1 : Nat) ≤ 1; omega) (fun x hx => ?_) (ptD_opR hk h0 h1) (by show (0 : Nat) ≤ 1; omega) (fun o ho x hx => ?_)
  · have hj0 : j = 0 := by have : j < 1 := hj; omega
    subst hj0
    have e : x = d := by simpa [ptD] using hx.symm
    subst e
    exact ⟨hd, fun i y e => by omega⟩
  · have e : x = d := by simpa [ptD] using hx
    rw [e, right_size hd]; omega
  · rw [mem_ptD ho] at hx
    simp [opD] at hx
theorem mem_addD {S : SetP} {d : ByteArray} {k n : Int} {p : ByteArray × Pt} (h : p ∈ addD S d k n) : p ∈ S ∨ p = (ownN, ptD d k n) := by
  unfold addD at h
  simpa using h
theorem addD_fine {S : SetP} {d : ByteArray} {k n : Int} (hS : S.fine) (hsm : smallG S) (hd : rightL d.data.toList = true) (hk : k = 4 ∨ k = 5) (h0 : 0 ≤ n) (h1 : n ≤ 299) : (addD S d k n).fine := by
  refine ⟨?_, fun p hp => ?_⟩
  · have := hsm.big.len
    unfold addD
    rw [List.length_append]
    show S.length + 1 ≤ _
    omega
  · rcases mem_addD hp with h | rfl
    · exact hS.2 p h
    · refine ⟨ptD_fine hd hk h0 h1, by show (17 : Nat) ≤ _; omega, by show (1 : Nat) ≤ _; omega, by show (1 : Nat) ≤ _; omega, fun o ho => ?_⟩
      rw [mem_ptD ho]
      show (0 : Nat) ≤ _
      omega
theorem sdeps_addD (S : SetP) (d : ByteArray) (k n : Int) : sdeps (addD S d k n) = sdeps S ++ [(ownN, [d])] := by
  unfold sdeps addD
  rw [List.map_append]
  rfl
theorem addD_small {S : SetP} {d : ByteArray} {k n : Int} (hsm : smallG S) : SmallG (addD S d k n) := by
  refine ⟨⟨?_, ?_⟩, ?_⟩
  · rw [sdeps_addD, List.length_append]
    have := hsm.1.1
    show (sdeps S).length + 1 ≤ 61
    omega
  · rw [sdeps_addD, List.map_append, List.sum_append]
    have := hsm.1.2
    show _ + (1 + 0) ≤ 401
    omega
  · unfold addD
    rw [List.map_append, List.sum_append]
    have := hsm.2.2
    show _ + ((0 + 0 + 1) + 0) ≤ 400000
    omega
structure DelK (S : SetP) (d : ByteArray) (k n : Int) : Prop where
  rd : rightL d.data.toList = true
  kd : k = 4 ∨ k = 5
  n0 : 0 ≤ n
  n1 : n ≤ 299
  nm : ∃ p ∈ S, p.1 = d ∧ n < madeN p.2.ops
  fr : ownN ∉ S.map (·.1)
theorem addD_names (S : SetP) (d : ByteArray) (k n : Int) : (addD S d k n).map (·.1) = S.map (·.1) ++ [ownN] := by
  unfold addD
  rw [List.map_append]
  rfl
theorem addD_good {S : SetP} {d : ByteArray} {k n : Int} (hG : GoodS S) (h : DelK S d k n) : GoodS (addD S d k n) := by
  refine ⟨?_, fun p hp => ?_, fun p hp => ?_, fun p hp x hx => ?_⟩
  · rw [addD_names]
    refine List.nodup_append.2 ⟨hG.uniq, by simp, fun a ha b hb => ?_⟩
    rw [List.mem_singleton] at hb
    subst hb
    exact fun e => h.fr (e ▸ ha)
  · rcases mem_addD hp with h1 | rfl
    · exact hG.named p h1
    · show ownN ≠ nil0
      decide
  · rcases mem_addD hp with h1 | rfl
    · exact hG.right p h1
    · exact ptD_right h.rd h.kd h.n0 h.n1
  · rw [addD_names, List.mem_append]
    rcases mem_addD hp with h1 | rfl
    · exact .inl (hG.closed p h1 x hx)
    · have e : x = d := by simpa [ptD] using hx
      obtain ⟨q, hq, e2, _⟩ := h.nm
      exact .inl (List.mem_map.2 ⟨q, hq, by rw [e]; exact e2⟩)
theorem gset_addD (S : SetP) (d : ByteArray) (k n : Int) : gsetS (addD S d k n) = gsetS S ++ [(ownN, [gop ownN [d] (opD k n)])] := by
  unfold gsetS addD
  rw [List.map_append]
  rfl
theorem mR_addD {S : SetP} {d : ByteArray} {k n : Int} (hG : GoodS S) (h : DelK S d k n) {q : ByteArray × Pt} (hq : q ∈ S) : mR (gsetS (addD S d k n)) q.1 = mR (gsetS S) q.1 := by
  have h1 : mR (gsetS S) q.1 = (madeX (gpt q) : Int) := mR_of hG.tame.one (x := gpt q) (List.mem_map.2 ⟨q, hq, rfl⟩)
  have h2 : mR (gsetS (addD S d k n)) q.1 = (madeX (gpt q) : Int) := mR_of (addD_good hG h).tame.one (x := gpt q) (by rw [gset_addD]; exact List.mem_append_left _ (List.mem_map.2 ⟨q, hq, rfl⟩))
  rw [h1, h2]
theorem addD_nolack {S : SetP} {d : ByteArray} {k n : Int} (hf : S.fine) (hG : GoodS S) (hN : NoLack S) (h : DelK S d k n) : NoLack (addD S d k n) := fun p hp => by
  rcases mem_addD hp with h1 | rfl
  · have h2 := hN p h1
    unfold lackP at h2 ⊢
    rw [List.any_eq_false] at h2 ⊢
    intro o ho
    have h3 := h2 o ho
    rw [Bool.not_eq_true, List.any_eq_false] at h3 ⊢
    intro r hr
    have h4 := h3 r hr
    obtain ⟨j, hj⟩ := List.getElem?_of_mem ho
    unfold lackR at h4 ⊢
    by_cases h0 : 0 ≤ r.at_
    · have hk := hG.refK hf (ks := S.map (·.1)) (fun x hx => hx) h1 ho r hr h0
      obtain ⟨q, hq, e⟩ := List.mem_map.1 hk.2.1
      rw [← e, mR_addD hG h hq, e]
      exact h4
    · simp [h0]
  · obtain ⟨q, hq, e, hlt⟩ := h.nm
    unfold lackP
    rw [List.any_eq_false]
    intro o ho
    rw [mem_ptD ho]
    have er : refsG (opD k n) = [⟨0, n⟩] := by unfold refsG; rw [if_pos (by show k = 4 ∨ k = 5; exact h.kd)]; rfl
    have hm : mR (gsetS (addD S d k n)) d = (madeN q.2.ops : Int) := by
      have h2 := mR_addD hG h hq
      have h3 : mR (gsetS S) q.1 = (madeX (gpt q) : Int) := mR_of hG.tame.one (x := gpt q) (List.mem_map.2 ⟨q, hq, rfl⟩)
      rw [madeX_gpt] at h3
      rw [h3, e] at h2
      exact h2
    rw [er]
    have : lackR (mR (gsetS (addD S d k n))) [d] ⟨0, n⟩ = false := by
      unfold lackR
      show (decide ((0 : Int) ≤ 0) && decide (mR (gsetS (addD S d k n)) d ≤ n)) = false
      rw [hm]
      simp
      omega
    show ¬ ([⟨0, n⟩] : List Rf).any (lackR (mR (gsetS (addD S d k n))) [d]) = true
    simp [this]
theorem addD_build {S : SetP} {d : ByteArray} {k n l : Int} (hf : S.fine) (hB : BuildR S 0) (h : DelK S d k n) (hT : BuildR (addD S d k n) l) : l = 0 := by
  obtain ⟨hG, hN⟩ := hB.good
  have hGT := addD_good hG h
  obtain ⟨o0, k0, hL0, hB0⟩ := hB
  have hk0 : k0 = 0 := by rcases hB0 with ⟨a, b⟩ | ⟨a, _⟩ | ⟨a, _⟩ | ⟨a, _⟩ <;> omega
  subst hk0
  have hok := lin_ok hL0
  have hw : (addD S d k n).any wrongG = false := List.any_eq_false.2 fun p hp => by
    unfold wrongG
    have h1 : ¬ p.1 = ByteArray.empty := hGT.named p hp
    have h2 := hGT.right p hp
    simp [h1, h2]
  obtain ⟨o1, k1, hL1, h1⟩ := hT
  have hk1 : k1 = 0 := by
    have hu : ((sdeps (addD S d k n)).map fun p => bsOf p.1).Nodup := by
      have e : ((sdeps (addD S d k n)).map fun p => bsOf p.1) = ((addD S d k n).map (·.1)).map bsOf := by
        rw [← sdeps_names, List.map_map]; rfl
      rw [e]
      exact List.pairwise_map.2 (List.Pairwise.imp (fun hab e2 => hab (bsOf_inj e2)) hGT.uniq)
    have hlen : (o0.map bsOf).length = o0.length := List.length_map _
    refine told_all (lb := o0.map bsOf ++ [bsOf ownN]) hu (fun x hx => ?_) (fun p hp => ?_) (fun i hi p hp hpe x hx => ?_) hL1
    · rw [nsB_mem]
      rw [sdeps_addD]
      rcases List.mem_append.1 hx with h2 | h2
      · obtain ⟨p, hp, e⟩ := nsB_mem.1 ((hok.mem x).1 h2)
        exact ⟨p, List.mem_append_left _ hp, e⟩
      · exact ⟨(ownN, [d]), by simp, (List.mem_singleton.1 h2).symm⟩
    · rw [sdeps_addD] at hp
      rcases List.mem_append.1 hp with h2 | h2
      · exact List.mem_append_left _ ((hok.mem _).2 (nsB_mem.2 ⟨p, h2, rfl⟩))
      · rw [List.mem_singleton.1 h2]
        simp
    · rw [sdeps_addD] at hp
      rcases List.mem_append.1 hp with h2 | h2
      · -- one of the set's own
        have hin : bsOf p.1 ∈ o0.map bsOf := (hok.mem _).2 (nsB_mem.2 ⟨p, h2, rfl⟩)
        obtain ⟨j, hj, hje⟩ := List.getElem_of_mem hin
        have hb := hok.behind j hj p h2 hje.symm x hx
        have hij : i = j := by
          have hnd : (o0.map bsOf ++ [bsOf ownN]).Nodup := by
            refine List.nodup_append.2 ⟨hok.nodup, by simp, fun a ha b hb2 => ?_⟩
            rw [List.mem_singleton] at hb2
            subst hb2
            intro e
            obtain ⟨q, hq, e2⟩ := nsB_mem.1 ((hok.mem a).1 ha)
            obtain ⟨z, hz, rfl⟩ := List.mem_map.1 hq
            exact h.fr (List.mem_map.2 ⟨z, hz, bsOf_inj (e2.trans e)⟩)
          have e1 : (o0.map bsOf ++ [bsOf ownN])[j]'(by rw [List.length_append]; omega) = (o0.map bsOf ++ [bsOf ownN])[i] := by
            rw [List.getElem_append_left hj, hje, hpe]
          exact ((List.getElem_inj hnd).1 e1).symm
        subst hij
        rw [List.take_append_of_le_length (by omega)]
        exact hb
      · have e := List.mem_singleton.1 h2
        subst e
        have e : x = d := by simpa using hx
        subst e
        have hin : bsOf x ∈ o0.map bsOf := by
          obtain ⟨q, hq, e2, _⟩ := h.nm
          exact (hok.mem _).2 (nsB_mem.2 ⟨(q.1, q.2.deps), List.mem_map.2 ⟨q, hq, rfl⟩, by show bsOf q.1 = bsOf x; rw [e2]⟩)
        have hi2 : o0.length ≤ i := by
          refine Nat.le_of_not_lt fun hlt => ?_
          rw [List.getElem_append_left (by omega)] at hpe
          have hm : bsOf ownN ∈ o0.map bsOf := by rw [show bsOf ownN = _ from hpe]; exact List.getElem_mem _
          obtain ⟨q, hq, e2⟩ := nsB_mem.1 ((hok.mem _).1 hm)
          obtain ⟨z, hz, rfl⟩ := List.mem_map.1 hq
          exact h.fr (List.mem_map.2 ⟨z, hz, bsOf_inj e2⟩)
        rw [List.length_append, hlen] at hi
        have : i = o0.length := by have : ([bsOf ownN] : List Bs).length = 1 := rfl; omega
        subst this
        rw [← hlen, List.take_left]
        exact hin
  subst hk1
  rcases h1 with ⟨a, _⟩ | ⟨_, a, _⟩ | ⟨_, _, a, _⟩ | ⟨_, _, _, a⟩
  · exact absurd rfl a
  · rw [hw] at a; cases a
  · exact absurd (addD_nolack hf hG hN h) a
  · exact a
theorem addD_graph {S : SetP} {d : ByteArray} {k n c : Int} (hc : (k = 4 ∧ c = 1) ∨ (k = 5 ∧ c = -1)) {V : List (GVx ByteArray)} {E : List (Nat × Nat)} (hV : GraphS ltB nil0 (gsetS S) V E) {i : Nat} {v : GVx ByteArray} (hv : V[i]? = some v) (hid : v.id = (d, n.toNat)) :
    GraphS ltB nil0 (gsetS (addD S d k n)) (V.set i { v with del := v.del + c }) E := by
  have h1 := graph_del (lt := ltB) (e := nil0) (M := gsetS S) (nm := ownN) (o := gop ownN [d] (opD k n)) (c := c) hc hV
  rw [← gset_addD] at h1
  have ea : (gop ownN [d] (opD k n)).a = v.id := by
    rw [hid]
    show idR ownN [d] ⟨0, n⟩ = (d, n.toNat)
    unfold idR whoR
    rw [if_neg (by show ¬ (0 : Int) = -1; omega), if_neg (by show ¬ (0 : Int) = -2; omega)]
    rfl
  rw [ea] at h1
  have e : (V.map fun u => if u.id = v.id then { u with del := u.del + c } else u) = V.set i { v with del := v.del + c } := by
    apply List.ext_getElem?
    intro j
    rw [List.getElem?_map, List.getElem?_set]
    obtain ⟨hi, hvi⟩ := List.getElem?_eq_some_iff.1 hv
    by_cases hij : i = j
    · subst hij
      rw [if_pos rfl, if_pos hi, hv]
      simp
    · rw [if_neg hij]
      cases hu : V[j]? with
      | none => rfl
      | some u =>
        rw [Option.map_some, if_neg]
        intro e
        have hnd : (V.map (·.id)).Nodup := List.Pairwise.imp (fun {a b} hab e2 => by subst e2; exact idLt_asymm ltB_asymm _ _ hab hab) hV.rise
        obtain ⟨hj, huj⟩ := List.getElem?_eq_some_iff.1 hu
        have e1 : (V.map (·.id))[j]'(by rw [List.length_map]; exact hj) = (V.map (·.id))[i]'(by rw [List.length_map]; exact hi) := by
          rw [List.getElem_map, List.getElem_map, huj, hvi, e]
        exact hij ((List.getElem_inj hnd).1 e1).symm
  rw [e] at h1
  exact h1
theorem delK_of {S : SetP} {V : List (GVx ByteArray)} {E : List (Nat × Nat)} (hV : GraphS ltB nil0 (gsetS S) V E) {i : Nat} {v : GVx ByteArray} (hv : V[i]? = some v) (hr : rightL v.id.1.data.toList = true) (hn : (v.id.2 : Int) ≤ 299) {k : Int} (hk : k = 4 ∨ k = 5) (hfr : ownN ∉ S.map (·.1)) : DelK S v.id.1 k (v.id.2 : Int) := by
  refine ⟨hr, hk, by omega, hn, ?_, hfr⟩
  have h64 := right_size hr
  have hz : v.id.1 ≠ nil0 := fun e => by
    rw [e] at h64
    cases h64
  rcases (hV.ids v.id).1 (List.mem_map.2 ⟨v, List.mem_of_getElem? hv, rfl⟩) with h | h | ⟨x, hx, h1, h2⟩
  · exact absurd (by rw [h]) hz
  · exact absurd (by rw [h]) hz
  · obtain ⟨q, hq, rfl⟩ := List.mem_map.1 hx
    refine ⟨q, hq, h1.symm, ?_⟩
    have h3 : v.id.2 < madeX (gpt q) := h2
    rw [madeX_gpt] at h3
    omega
theorem del_bound {S : SetP} (hsm : smallG S) {V : List (GVx ByteArray)} {E : List (Nat × Nat)} (hV : GraphS ltB nil0 (gsetS S) V E) {v : GVx ByteArray} (hv : v ∈ V) : -400000 ≤ v.del ∧ v.del ≤ 400000 := by
  rw [hV.del v hv]
  unfold delM
  have h1 : ∀ (L : List (GOp ByteArray)) (i : ByteArray × Nat), -(L.length : Int) ≤ (L.map fun o => if o.kind = 4 ∧ o.a = i then (1 : Int) else if o.kind = 5 ∧ o.a = i then -1 else 0).sum ∧ (L.map fun o => if o.kind = 4 ∧ o.a = i then (1 : Int) else if o.kind = 5 ∧ o.a = i then -1 else 0).sum ≤ (L.length : Int) := by
    intro L i
    induction L with
    | nil => exact ⟨by simp, by simp⟩
    | cons o L ih =>
      rw [List.map_cons, List.sum_cons, List.length_cons]
      split
      · omega
      · split <;> omega
  have h2 : (opsL (gsetS S)).length ≤ (S.map fun p => linesN p.2.ops + p.2.ops.length).sum := by
    clear hsm hV h1
    induction S with
    | nil => exact Nat.le_refl _
    | cons p S ih =>
      have e : opsL (gsetS (p :: S)) = p.2.ops.map (gop p.1 p.2.deps) ++ opsL (gsetS S) := rfl
      rw [e, List.length_append, List.length_map, List.map_cons, List.sum_cons]
      omega
  have h3 := hsm.2.2
  have h4 := h1 (opsL (gsetS S)) v.id
  omega
end Go.Proofs.YtojnagonhihknaaGreatDoor
