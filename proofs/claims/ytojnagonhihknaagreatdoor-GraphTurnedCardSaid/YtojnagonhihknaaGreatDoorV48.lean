/- The contract of the laws' Small. The contract of the graph's laws' Small. -/
import Derived.Test.YtojnagonhihknaaGreatDoorV18
import Derived.Test.YtojnagonhihknaaGreatDoorV25
import Derived.Test.YtojnagonhihknaaGreatDoorV41
import Derived.Test.YtojnagonhihknaaGreatDoorV46
set_option linter.unusedVariables false
namespace Go.Proofs.YtojnagonhihknaaGreatDoor
open Go.ChangeShapes Go.WideShapes Go.ChangeAt Go.RowKit

theorem sum_snoc {S : SetB} {k : Nat} {p : ByteArray × Lb} (h : S[k]? = some p) : ((S.take (k + 1)).map fun p => p.2.length).sum = ((S.take k).map fun p => p.2.length).sum + p.2.length := by
  rw [List.take_add_one, h, List.map_append, List.sum_append]
  simp
theorem sum_room {S : SetB} (hD : ∀ p ∈ S, p.2.length ≤ 140737488355328) : ∀ k, ((S.take k).map fun p => p.2.length).sum ≤ k * 140737488355328 := by
  intro k
  induction k with
  | zero => simp
  | succ k ih =>
    cases h : S[k]? with
    | none =>
      have e : S.take k = S := List.take_of_length_le (List.getElem?_eq_none_iff.1 h)
      have e2 : S.take (k + 1) = S := List.take_of_length_le (by have := List.getElem?_eq_none_iff.1 h; omega)
      rw [e] at ih
      rw [e2, Nat.succ_mul]
      exact Nat.le_trans ih (Nat.le_add_right _ _)
    | some p =>
      rw [sum_snoc h, Nat.succ_mul]
      exact Nat.add_le_add ih (hD p (List.mem_of_getElem? h))
def SmallP (S : SetB) (w : World) (e : Ending) (w' : World) : Prop := ∃ b, e = .returned (.bool b) ∧ (b = true ↔ SmallS S) ∧ Below w.heap.size w w'
set_option maxHeartbeats 600000 in
set_option maxRecDepth 100000 in
theorem small_any (S : SetB) (v : Value) (w : World) (hS : SReads w v S) (hD : ∀ p ∈ S, p.2.length ≤ 140737488355328) (hn9 : S.length ≤ 140737488355328) :
    Calls Tryz.prog 20 #[v] w (SmallP S w) := by
  obtain ⟨sa, sc, rfl, _⟩ := hS.form
  obtain ⟨n, hnn⟩ : ∃ n, n = S.length := ⟨_, rfl⟩
  rw [← hnn] at hS hn9 ⊢
  have HS := Lib.hid hS
  have HN := Lib.hid hnn
  have HD := Lib.hid hD
  have HR := Lib.hid (sum_room hD)
  clear hS hnn hD
  have cells : ∀ k, k < n → ∀ W, Below w.heap.size w W → ∃ sb so nm nt da dl dc oa ol oc, sa = some ⟨sb, so, none⟩ ∧ W.cell? ⟨sb, so + k * 4, none⟩ = some (.string nm) ∧ W.cell? ⟨sb, so + k * 4 + 1, none⟩ = some (.string nt) ∧ W.cell? ⟨sb, so + k * 4 + 2, none⟩ = some (.slice da dl dc) ∧ W.cell? ⟨sb, so + k * 4 + 3, none⟩ = some (.slice oa ol oc) ∧ dl ≤ 140737488355328 ∧ ((S.take (k + 1)).map fun p => p.2.length).sum = ((S.take k).map fun p => p.2.length).sum + dl := fun k hk W hW => by
    obtain ⟨p, hp⟩ : ∃ p, S[k]? = some p := ⟨S[k]'(by rw [← HN.out]; exact hk), by simp⟩
    obtain ⟨sb, so, rfl, hsl, hat⟩ := HS.out.at hp
    obtain ⟨nt, dv, oa, ol, oc, c0, c1, c2, c3, hdr⟩ := hat.below hW hsl
    obtain ⟨da, dc, hdv, _⟩ := hdr.form
    subst hdv
    exact ⟨sb, so, p.1, nt, da, _, dc, oa, ol, oc, rfl, c0, c1, c2, c3, HD.out p (List.mem_of_getElem? hp), sum_snoc hp⟩
  have HC := Lib.hid cells
  clear cells
  by_cases hn : n ≤ 60
  · go_enter Tryz.func20, Tryz.ntmps20
    go_wp2_with fail
    go_loopw [3, 8] (fun tv jv wr => ∃ k t : Nat, jv = .int .i64 (k : Nat) ∧ k ≤ n ∧ tv = .int .i64 (t : Nat) ∧ t ≤ k * 140737488355328 ∧ Hid (t = ((S.take k).map fun p => p.2.length).sum) ∧ Hid (Below w.heap.size w wr)) (fun _ jv _ => n - (intOf jv).toNat)
    case atStart => exact ⟨0, 0, rfl, Nat.zero_le _, rfl, Nat.zero_le _, Lib.hid (by simp), Lib.hid (Below.refl _ _)⟩
    case round =>
      obtain ⟨k, t, rfl, hk, rfl, ht, HT, HB⟩ := hrel
      by_cases hlt : k < n
      · obtain ⟨sb, so, nm, nt, da, dl, dc, oa, ol, oc, rfl, c0, c1, c2, c3, hdl, hsum⟩ := HC.out k hlt wr HB.out
        have HSM := Lib.hid hsum
        have HB2 := Lib.hid (HB.out.alloc HB.out.size (.cells #[.string nm, .string nt, .slice da dl dc, .slice oa ol oc] 49))
        clear hsum
        go_wp2_with fail
        exact ⟨⟨k + 1, t + dl, by go_num, by omega, by go_num, by omega, Lib.hid (by rw [HSM.out, HT.out]), HB2⟩, by simp [intOf]; omega⟩
      · have hke : n = k := by omega
        subst hke
        have hall : S.take n = S := List.take_of_length_le (by rw [← HN.out]; exact Nat.le_refl _)
        have hts : t = (S.map fun p => p.2.length).sum := by rw [HT.out, hall]
        have HTS := Lib.hid hts
        have HN2 : Hid (SmallS S ↔ t ≤ 400) := Lib.hid (by unfold SmallS; rw [← HN.out, ← hts]; exact ⟨fun h => h.2, fun h => ⟨hn, h⟩⟩)
        clear hts hall
        go_wp2_with fail
        go_ret
        exact ⟨_, rfl, by rw [HN2.out, decide_eq_true_iff]; omega, HB.out⟩
  · have HNS : Hid (¬ SmallS S) := Lib.hid (fun h => hn (by rw [HN.out]; exact h.1))
    go_enter Tryz.func20, Tryz.ntmps20
    go_wp2_with fail
    go_loopw [3, 8] (fun tv jv wr => ∃ (k : Nat) (t : Int), jv = .int .i64 (k : Nat) ∧ k ≤ n ∧ tv = .int .i64 t ∧ Hid (Below w.heap.size w wr)) (fun _ jv _ => n - (intOf jv).toNat)
    case atStart => exact ⟨0, 0, rfl, Nat.zero_le _, rfl, Lib.hid (Below.refl _ _)⟩
    case round =>
      obtain ⟨k, t, rfl, hk, rfl, HB⟩ := hrel
      by_cases hlt : k < n
      · obtain ⟨sb, so, nm, nt, da, dl, dc, oa, ol, oc, rfl, c0, c1, c2, c3, hdl, hsum⟩ := HC.out k hlt wr HB.out
        have HB2 := Lib.hid (HB.out.alloc HB.out.size (.cells #[.string nm, .string nt, .slice da dl dc, .slice oa ol oc] 49))
        clear hsum
        go_wp2_with fail
        exact ⟨⟨k + 1, _, by go_num, by omega, rfl, HB2⟩, by simp [intOf]; omega⟩
      · go_wp2_with fail
        go_ret
        exact ⟨false, rfl, ⟨(fun h => by cases h), (fun h => absurd h HNS.out)⟩, HB.out⟩
end Go.Proofs.YtojnagonhihknaaGreatDoor
set_option linter.unusedVariables false
set_option linter.unusedSimpArgs false
namespace Go.Proofs.YtojnagonhihknaaGreatDoor
open Go.ChangeShapes Go.WideShapes Go.ChangeAt Go.RowKit

def smallG (S : SetP) : Prop := SmallS (sdeps S) ∧ (∀ p ∈ S, smallP p.2 = true) ∧ (S.map fun p => linesN p.2.ops + p.2.ops.length).sum ≤ 400
theorem smallG.big {S : SetP} (h : smallG S) : SmallG S := ⟨h.1, by have := h.2.2; omega⟩
theorem sumG_snoc {S : SetP} {k : Nat} {p : ByteArray × Pt} (h : S[k]? = some p) : ((S.take (k + 1)).map fun p => linesN p.2.ops + p.2.ops.length).sum = ((S.take k).map fun p => linesN p.2.ops + p.2.ops.length).sum + (linesN p.2.ops + p.2.ops.length) := by
  rw [List.take_add_one, h, List.map_append, List.sum_append]
  simp
theorem smallG_perm {S T : SetP} (hp : S.Perm T) (h : smallG S) : smallG T :=
  ⟨small_perm (hp.map _) h.1, fun p hpT => h.2.1 p (hp.mem_iff.2 hpT), by rw [← (hp.map _).sum_nat]; exact h.2.2⟩
theorem smallP_ops {p : Pt} (h : smallP p = true) : p.ops.length ≤ 1000 ∧ linesN p.ops ≤ 2000 := by
  unfold smallP at h
  simp only [Bool.and_eq_true, decide_eq_true_eq] at h
  omega
theorem linesN_stepG {l : List Opp} {k : Nat} {o : Opp} (h : l[k]? = some o) : linesN (l.take (k + 1)) = linesN (l.take k) + o.lines.length := by
  rw [List.take_add_one, h, linesN_app]
  simp [linesN]
set_option maxHeartbeats 4000000 in
set_option maxRecDepth 100000 in
theorem gsmall_any (S : SetP) (v : Value) (w : World) (hr : GReads w v S) (hf : S.fine) :
    Calls Tryz.prog 8 #[v] w fun e w' => ∃ b, e = .returned (.bool b) ∧ (b = true ↔ smallG S) ∧ Below w.heap.size w w' := by
  obtain ⟨sa, sc, rfl, _⟩ := hr.form
  obtain ⟨n, hnn⟩ : ∃ n, n = S.length := ⟨_, rfl⟩
  have h6 := small_any (sdeps S) _ w hr.sreads (fun p hp => by
    obtain ⟨q, hq, rfl⟩ := List.mem_map.1 hp
    exact (hf.2 q hq).2.2.1) (by unfold sdeps; rw [List.length_map]; exact hf.1)
  have hl6 : S.length = (sdeps S).length := by unfold sdeps; rw [List.length_map]
  rw [← hnn] at hr h6 hl6 ⊢
  have HR := Lib.hid hr
  have HF := Lib.hid hf
  have HN := Lib.hid hnn
  have H6 := Lib.hid h6
  have HL6 := Lib.hid hl6
  clear hr hf hnn h6 hl6
  go_enter Tryz.func8, Tryz.ntmps8
  go_wp2_with fail
  refine H6.out.mono ?_
  rintro e w2 ⟨b, rfl, hb, hb2⟩
  have HB2 := Lib.hid hb2
  have HBI := Lib.hid hb
  clear hb hb2 H6
  cases b with
  | false =>
    have HNO : Hid (¬ smallG S) := Lib.hid (fun h => by have := HBI.out.2 h.1; cases this)
    go_wp2_with fail
    go_ret
    exact ⟨false, rfl, ⟨fun h => (by cases h), fun h => absurd h HNO.out⟩, HB2.out⟩
  | true =>
    have hsm := HBI.out.1 rfl
    have hn60 : n ≤ 60 := by rw [HL6.out]; exact hsm.1
    have HSM := Lib.hid hsm
    clear hsm HBI
    go_wp2_with fail
    go_loopw [3, 13] (fun tv iv wr => ∃ k t : Nat, k ≤ n ∧ iv = .int .i64 (k : Nat) ∧ tv = .int .i64 (t : Nat) ∧ t ≤ k * 3000 ∧ Hid (t = ((S.take k).map fun p => linesN p.2.ops + p.2.ops.length).sum) ∧ Hid (∀ p ∈ S.take k, smallP p.2 = true) ∧ Hid (Below w.heap.size w wr)) (fun _ iv _ => n - (intOf iv).toNat)
    case atStart => exact ⟨0, 0, Nat.zero_le _, rfl, rfl, Nat.zero_le _, Lib.hid rfl, Lib.hid (fun p hp => by simp at hp), HB2⟩
    case round =>
      obtain ⟨k, t, hk, rfl, rfl, ht, HT, HA, HB⟩ := hrel
      by_cases hlt : k < n
      · obtain ⟨x, hx⟩ : ∃ x, S[k]? = some x := ⟨S[k]'(by rw [← HN.out]; exact hlt), by simp⟩
        have hxS := List.mem_of_getElem? hx
        obtain ⟨b, o, rfl, hbl, _, _, dv, ov, m0, m1, m2, m3, hpr⟩ := HR.out.at hx
        have d0 := (HB.out.cell (p := ⟨b, o + k * 4, none⟩) hbl).trans m0
        have d1 := (HB.out.cell (p := ⟨b, o + k * 4 + 1, none⟩) hbl).trans m1
        have d2 := (HB.out.cell (p := ⟨b, o + k * 4 + 2, none⟩) hbl).trans m2
        have d3 := (HB.out.cell (p := ⟨b, o + k * 4 + 3, none⟩) hbl).trans m3
        obtain ⟨da, dc, hdv, _⟩ := hpr.deps.form
        obtain ⟨oa, oc, hov, hol⟩ := hpr.ops.form
        obtain ⟨dn, hdn⟩ : ∃ dn, dn = x.2.deps.length := ⟨_, rfl⟩
        obtain ⟨on, hon⟩ : ∃ on, on = x.2.ops.length := ⟨_, rfl⟩
        rw [← hdn] at hdv
        rw [← hon] at hov hol
        subst hdv hov
        obtain ⟨nm, P⟩ := x
        simp only at d0 d1 hpr hdn hon
        obtain ⟨nt, htt⟩ : ∃ nt, nt = P.note := ⟨_, rfl⟩
        obtain ⟨q5, hq5⟩ : ∃ q5, q5 = wr.heap.size := ⟨_, rfl⟩
        obtain ⟨wy, hwy⟩ : ∃ wy, wy = wr.alloc (.cells #[.string nm, .string nt, .slice da dn dc, .slice oa on oc] 49) := ⟨_, rfl⟩
        obtain ⟨p1, pb, ps⟩ := boxA1 (Below.refl _ (wr.alloc (.cells #[.string nm, .string nt, .slice da dn dc, .slice oa on oc] 49)))
        rw [← hwy] at p1 pb ps
        rw [← hq5] at p1
        have hbwy : Below w.heap.size w wy := HB.out.trans (pb.mono HB.out.size)
        have h5 := psmall_any P (.slice da dn dc) (.slice oa on oc) wy (hpr.below hbwy) (HF.out.2 _ hxS).2.2.2.2
        obtain ⟨sp, hsp⟩ : ∃ sp, sp = smallP P := ⟨_, rfl⟩
        rw [← hsp, ← htt] at h5
        rw [← htt] at d1
        have H5 := Lib.hid h5
        have HSP := Lib.hid hsp
        have HX := Lib.hid hx
        have HXS := Lib.hid hxS
        have HPR := Lib.hid hpr
        have HON := Lib.hid hon
        have HQ5 := Lib.hid hq5
        have HWY := Lib.hid hwy
        have HBY := Lib.hid hbwy
        have HP1 := Lib.hid (show wy.cell? ⟨q5, 0, none⟩ = some (.string nm) ∧ wy.cell? ⟨q5, 1, none⟩ = some (.string nt) ∧ wy.cell? ⟨q5, 2, none⟩ = some (.slice da dn dc) ∧ wy.cell? ⟨q5, 3, none⟩ = some (.slice oa on oc) from ⟨p1 0, p1 1, p1 2, p1 3⟩)
        clear hx hxS hpr m0 m1 m2 m3 h5 hsp hon hdn hq5 hwy hbwy p1 pb ps htt
        go_wp2_with fail
        rw [← HQ5.out]
        rw [← HWY.out]
        refine H5.out.mono ?_
        rintro e w4 ⟨rfl, hb4⟩
        obtain ⟨p10, p11, p12, p13⟩ := HP1.out
        have a0 := (hb4.cell (p := ⟨q5, 0, none⟩) (cell_lt p10)).trans p10
        have a1 := (hb4.cell (p := ⟨q5, 1, none⟩) (cell_lt p11)).trans p11
        have a2 := (hb4.cell (p := ⟨q5, 2, none⟩) (cell_lt p12)).trans p12
        have a3 := (hb4.cell (p := ⟨q5, 3, none⟩) (cell_lt p13)).trans p13
        have HB4 := Lib.hid (HBY.out.trans (hb4.mono HBY.out.size))
        clear hb4 H5 HP1 p10 p11 p12 p13 d0 d1 d2 d3
        cases sp with
        | false =>
          have HNO : Hid (¬ smallG S) := Lib.hid (fun h => by have := h.2.1 _ HXS.out; rw [← HSP.out] at this; cases this)
          go_wp2_with fail
          go_ret
          exact ⟨false, rfl, ⟨fun h => (by cases h), fun h => absurd h HNO.out⟩, HB4.out⟩
        | true =>
          obtain ⟨hp1, hp2⟩ := smallP_ops HSP.out.symm
          have hon9 : on ≤ 1000 := by rw [HON.out]; exact hp1
          have i1 : IntKind.i64.wrap ((t : Int) + (on : Int)) = ((t + on : Nat) : Int) := by rw [IntKind.wrap_i64]; omega
          have HL2 := Lib.hid hp2
          clear hp1 hp2
          go_wp2_with fail
          go_loopw [3, 31] (fun tv iv wr => ∃ j u : Nat, j ≤ on ∧ iv = .int .i64 (j : Nat) ∧ tv = .int .i64 (u : Nat) ∧ Hid (u = t + on + linesN (P.ops.take j)) ∧ u ≤ k * 3000 + 3000 ∧ Hid (Below w.heap.size w wr)) (fun _ iv _ => on - (intOf iv).toNat)
          case atStart => exact ⟨0, t + on, Nat.zero_le _, rfl, rfl, Lib.hid rfl, by omega, HB4⟩
          case round =>
            clear a0 a1 a2 a3
            obtain ⟨j, u, hj, rfl, rfl, HU, hu, HBJ⟩ := hrel
            by_cases hlj : j < on
            · obtain ⟨z, hz⟩ : ∃ z, P.ops[j]? = some z := ⟨P.ops[j]'(by rw [← HON.out]; exact hlj), by simp⟩
              obtain ⟨b2, o2, rfl, _, hcl⟩ := (HPR.out.below HBJ.out).ops.at hz
              obtain ⟨lv, e0, e1, e2, e3, e4, e5, e6⟩ := hcl.2 j z hz
              obtain ⟨la, lc, hlv, hll⟩ := e6.form
              subst hlv
              obtain ⟨N, hN⟩ : ∃ N, N = z.lines.length := ⟨_, rfl⟩
              have hst := linesN_stepG hz
              have htk := linesN_take P.ops (j + 1)
              rw [← hN] at e5 hst
              have hu2 : u + N = t + on + linesN (P.ops.take (j + 1)) := by have := HU.out; omega
              have hu3 : u + N ≤ k * 3000 + 3000 := by have := HL2.out; omega
              have i2 : IntKind.i64.wrap ((u : Int) + (N : Int)) = ((u + N : Nat) : Int) := by rw [IntKind.wrap_i64]; omega
              obtain ⟨u2, hu9⟩ : ∃ u2, u2 = u + N := ⟨_, rfl⟩
              rw [← hu9] at hu2 hu3 i2
              have HU2 := Lib.hid hu2
              have HBZ := Lib.hid (fun (x : Obj) => HBJ.out.alloc HBJ.out.size x)
              clear hz hcl e6 hN hst htk hu2 hu9 hll
              obtain ⟨K, ⟨ax, ay⟩, ⟨bx, bY⟩, ls⟩ := z
              simp only at e0 e1 e2 e3 e4
              go_wp2_with fail
              exact ⟨⟨j + 1, u2, by omega, by go_num, by first | rfl | go_num, HU2, hu3, Lib.hid (HBZ.out _)⟩, by simp [intOf]; omega⟩
            · have hje : j = on := by omega
              subst hje
              have HT2 : Hid (u = ((S.take (k + 1)).map fun p => linesN p.2.ops + p.2.ops.length).sum) := Lib.hid (by
                rw [sumG_snoc HX.out, ← HT.out, HU.out, List.take_of_length_le (by rw [← HON.out]; exact Nat.le_refl _), HON.out]
                simp only
                omega)
              have HA2 : Hid (∀ p ∈ S.take (k + 1), smallP p.2 = true) := Lib.hid (fun p hp => by
                rw [List.take_add_one, HX.out] at hp
                rcases List.mem_append.1 hp with hp | hp
                · exact HA.out p hp
                · simp at hp
                  rw [hp]
                  exact HSP.out.symm)
              go_wp2_with fail
              exact ⟨⟨k + 1, u, by omega, by go_num, rfl, by omega, HT2, HA2, HBJ⟩, by simp [intOf]; omega⟩
      · have hkn : k = n := by omega
        subst hkn
        have hall : S.take k = S := List.take_of_length_le (by rw [← HN.out]; exact Nat.le_refl _)
        have HT2 := HT.out
        have HA2 := HA.out
        rw [hall] at HT2 HA2
        have HIF : Hid (smallG S ↔ t ≤ 400) := Lib.hid (by
          unfold smallG
          rw [← HT2]
          exact ⟨fun h => h.2.2, fun h => ⟨HSM.out, HA2, h⟩⟩)
        clear HT2 HA2 hall
        go_wp2_with fail
        go_ret
        exact ⟨_, rfl, by rw [HIF.out, decide_eq_true_iff]; omega, HB.out⟩
end Go.Proofs.YtojnagonhihknaaGreatDoor
