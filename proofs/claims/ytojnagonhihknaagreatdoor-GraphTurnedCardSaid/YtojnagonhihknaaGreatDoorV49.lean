/- The graph's laws' awake: one patch of two lines, and its graph. Mathematics. The graph's laws' awake. GraphTurned: its walk. -/
import Derived.Test.YtojnagonhihknaaGreatDoorV20
import Derived.Test.YtojnagonhihknaaGreatDoorV28
import Derived.Test.YtojnagonhihknaaGreatDoorV29
import Derived.Test.YtojnagonhihknaaGreatDoorV31
import Derived.Test.YtojnagonhihknaaGreatDoorV41
import Derived.Test.YtojnagonhihknaaGreatDoorV46
import Derived.Test.YtojnagonhihknaaGreatDoorV47
import Derived.Test.YtojnagonhihknaaGreatDoorV48
set_option linter.unusedVariables false
set_option linter.unusedSimpArgs false
namespace Go.Proofs.YtojnagonhihknaaGreatDoor

abbrev bX : ByteArray := ⟨#[120]⟩
def op7 : Opp := ⟨1, ⟨-1, 0⟩, ⟨-1, 1⟩, [⟨#[97]⟩, ⟨#[98]⟩]⟩
def p7 : Pt := ⟨⟨#[]⟩, [], [op7]⟩
def S7 : SetP := [(bX, p7)]
theorem wfI7 {n : Int} (h : -1000000000 ≤ n) (k : n ≤ 1000000000) : wfI n := ⟨by omega, by omega⟩
theorem p7_fine : p7.fine := by
  refine ⟨fun o ho => ?_, by decide, fun x hx => by simp [p7] at hx, fun o ho x hx => ?_⟩
  · have e : o = op7 := by simpa [p7] using ho
    subst e
    exact ⟨wfI7 (by decide) (by decide), ⟨wfI7 (by decide) (by decide), wfI7 (by decide) (by decide)⟩, ⟨wfI7 (by decide) (by decide), wfI7 (by decide) (by decide)⟩⟩
  · have e : o = op7 := by simpa [p7] using ho
    subst e
    have e : x = ⟨#[97]⟩ ∨ x = ⟨#[98]⟩ := by simpa [op7] using hx
    rcases e with rfl | rfl <;> decide
theorem S7_fine : S7.fine := by
  refine ⟨by decide, fun p hp => ?_⟩
  have e : p = (bX, p7) := by simpa [S7] using hp
  subst e
  refine ⟨p7_fine, by decide, by decide, by decide, fun o ho => ?_⟩
  have e : o = op7 := by simpa [p7] using ho
  subst e
  decide
theorem S7_small : SmallG S7 := ⟨by unfold SmallS; decide, by decide⟩
theorem right7 : rightP p7 = true := by
  have h4 : opsR p7.deps.length 0 p7.ops = true := by decide
  have hl : ∀ o ∈ p7.ops, ∀ x ∈ o.lines, x.size ≤ 500 := fun o ho x hx => by
    have e : o = op7 := by simpa [p7] using ho
    subst e
    have e : x = ⟨#[97]⟩ ∨ x = ⟨#[98]⟩ := by simpa [op7] using hx
    rcases e with rfl | rfl <;> decide
  rw [rightP_of (by decide) (by decide) (risB_iff.2 ⟨by decide, fun j hj => by simp [p7] at hj⟩) h4 (by decide), decide_eq_true_eq]
  have hb := Tm.bytes_le (ptT p7)
  have ht := ptT_texts (p := p7) p7_fine.wf (by decide) (fun x hx => by simp [p7] at hx) hl
  have hp := ptT_parts p7
  have e1 : p7.deps.length = 0 := rfl
  have e2 : p7.ops.length = 1 := rfl
  have e3 : linesN p7.ops = 2 := rfl
  rw [e1, e2, e3] at ht hp
  omega
theorem s7_ns : nsB (sdeps S7) = [[120]] := by
  refine asc_unique (nsB_spec _).1 ?_ (fun x => ?_)
  · show List.Pairwise (· < ·) _
    decide
  · rw [(nsB_spec _).2]
    have : ((sdeps S7).map fun p => bsOf p.1) = [[120]] := rfl
    rw [this]
def need7 : Int → List Int := needB [[120]] [([120], [])]
theorem s7_need : needS (sdeps S7) = need7 := by
  unfold needS need7
  rw [s7_ns]
  rfl
theorem s7_reach : ReachK need7 1 [0] := by
  have h0 : ReachK need7 1 [] := .nil
  have h1 : ReachK need7 1 ([] ++ [((0 : Nat) : Int)]) := .step h0 (by decide)
  exact h1
theorem s7_lin {out : Lb} {k : Int} (h : LinR (sdeps S7) out k) : k = 0 := by
  have hl : (nsB (sdeps S7)).length = 1 := by rw [s7_ns]; rfl
  have hs : (sdeps S7).length = 1 := rfl
  rcases h with ⟨h, _, _⟩ | ⟨_, told, hre, hnx, h⟩
  · rw [hl, hs] at h; omega
  · rw [s7_need, hl] at hre hnx
    have he := reach_end hre s7_reach hnx (by decide)
    subst he
    rcases h with ⟨h, _, _⟩ | ⟨_, h, hk⟩
    · rw [hs] at h; simp at h
    · exact hk
theorem s7_nolack : NoLack S7 := fun p hp => by
  have e : p = (bX, p7) := by simpa [S7] using hp
  subst e
  simp [lackP, p7, op7, refsG, lackR]
theorem s7_wrong : S7.any wrongG = false := by
  have : wrongG (bX, p7) = false := by
    unfold wrongG
    rw [right7]
    decide
  simp [S7, this]
theorem s7_build {k : Int} (h : BuildR S7 k) : k = 0 := by
  obtain ⟨out, k1, hL, h⟩ := h
  have hk1 := s7_lin hL
  have hw := s7_wrong
  have hn := s7_nolack
  rcases h with ⟨h1, _⟩ | ⟨_, h2, _⟩ | ⟨_, _, h2, _⟩ | ⟨_, _, _, h2⟩
  · exact absurd hk1 h1
  · rw [hw] at h2; cases h2
  · exact absurd hn h2
  · exact h2
def M7 : GSet ByteArray := [(bX, [⟨1, (nil0, 0), (nil0, 1), [⟨#[97]⟩, ⟨#[98]⟩]⟩])]
theorem m7_is : gsetS S7 = M7 := rfl
theorem bX_ne : bX ≠ nil0 := by decide
theorem m7_ids : idsR nil0 M7 = [(nil0, 0), (nil0, 1), (bX, 0), (bX, 1)] := rfl
theorem s7_graph {V : List (GVx ByteArray)} {E : List (Nat × Nat)} (h : GraphS ltB nil0 (gsetS S7) V E) : V.length = 4 ∧ E.length = 3 ∧ aliveV (V.map vxG) 2 = true ∧ ∃ v, V[3]? = some v ∧ v.id = (bX, 1) := by
  rw [m7_is] at h
  have hne := bX_ne
  have hid : V.map (·.id) = [(nil0, 0), (nil0, 1), (bX, 0), (bX, 1)] := by
    rw [← m7_ids]
    refine rise_same (idLt_asymm ltB_asymm) h.rise (idsR_rise (fun x hx => ?_) ?_) (fun i => (h.ids i).trans idsR_mem.symm)
    · have e : x = (bX, [⟨1, (nil0, 0), (nil0, 1), [⟨#[97]⟩, ⟨#[98]⟩]⟩]) := by simpa [M7] using hx
      rw [e]
      exact ltB_nil hne
    · exact List.pairwise_singleton _ _
  have hlen : V.length = 4 := by have := congrArg List.length hid; simpa using this
  have hat : ∀ (j : Nat) i, [(nil0, 0), (nil0, 1), (bX, 0), (bX, 1)][j]? = some i → ∃ v, V[j]? = some v ∧ v.id = i := fun j i hj => by
    rw [← hid, List.getElem?_map] at hj
    exact Option.map_eq_some_iff.1 hj
  have hput : putI bX 0 [⟨1, (nil0, 0), (nil0, 1), [⟨#[97]⟩, ⟨#[98]⟩]⟩] = [((nil0, 0), (bX, 0)), ((bX, 0), (bX, 1)), ((bX, 1), (nil0, 1))] := rfl
  have hwt : ∀ i j, wtM M7 i j = 0 := fun i j => by simp [wtM, opsL, M7]
  have hdl : ∀ i, delM M7 i = 0 := fun i => by simp [delM, opsL, M7]
  have hedge : ∀ i j, edgeI M7 i j ↔ (i, j) ∈ [((nil0, 0), (bX, 0)), ((bX, 0), (bX, 1)), ((bX, 1), (nil0, 1))] := fun i j => by
    unfold edgeI
    rw [hwt]
    constructor
    · rintro (⟨x, hx, h2⟩ | h2)
      · have e : x = (bX, [⟨1, (nil0, 0), (nil0, 1), [⟨#[97]⟩, ⟨#[98]⟩]⟩]) := by simpa [M7] using hx
        rw [e] at h2
        rw [hput] at h2
        exact h2
      · omega
    · intro h2
      refine .inl ⟨(bX, [⟨1, (nil0, 0), (nil0, 1), [⟨#[97]⟩, ⟨#[98]⟩]⟩]), by simp [M7], ?_⟩
      show (i, j) ∈ putI bX 0 [⟨1, (nil0, 0), (nil0, 1), [⟨#[97]⟩, ⟨#[98]⟩]⟩]
      rw [hput]
      exact h2
  have hE : E = [(0, 2), (2, 3), (3, 1)] := by
    refine rise_same lexN_asymm h.lex (by unfold lexN; decide) (fun p => ?_)
    obtain ⟨a, b⟩ := p
    rw [h.edge]
    constructor
    · rintro ⟨u, v, hu, hv, he⟩
      rw [hedge] at he
      have hua : (V.map (·.id))[a]? = some u.id := by rw [List.getElem?_map, hu]; rfl
      have hvb : (V.map (·.id))[b]? = some v.id := by rw [List.getElem?_map, hv]; rfl
      rw [hid] at hua hvb
      have hnd : ([(nil0, 0), (nil0, 1), (bX, 0), (bX, 1)] : List (ByteArray × Nat)).Nodup := by decide
      have hpos : ∀ (j t : Nat) (i : ByteArray × Nat), t < 4 → [(nil0, 0), (nil0, 1), (bX, 0), (bX, 1)][t]? = some i → [(nil0, 0), (nil0, 1), (bX, 0), (bX, 1)][j]? = some i → j = t := fun j t i ht h1 h2 => ((List.getElem?_inj (by simpa using ht) hnd).1 (h1.trans h2.symm)).symm
      simp only [List.mem_cons, List.not_mem_nil, or_false, Prod.mk.injEq] at he
      rcases he with ⟨e1, e2⟩ | ⟨e1, e2⟩ | ⟨e1, e2⟩
      · rw [e1] at hua; rw [e2] at hvb
        rw [hpos a 0 _ (by omega) rfl hua, hpos b 2 _ (by omega) rfl hvb]; simp
      · rw [e1] at hua; rw [e2] at hvb
        rw [hpos a 2 _ (by omega) rfl hua, hpos b 3 _ (by omega) rfl hvb]; simp
      · rw [e1] at hua; rw [e2] at hvb
        rw [hpos a 3 _ (by omega) rfl hua, hpos b 1 _ (by omega) rfl hvb]; simp
    · intro h2
      simp only [List.mem_cons, List.not_mem_nil, or_false, Prod.mk.injEq] at h2
      rcases h2 with ⟨rfl, rfl⟩ | ⟨rfl, rfl⟩ | ⟨rfl, rfl⟩
      · obtain ⟨u, hu, eu⟩ := hat 0 _ rfl
        obtain ⟨v, hv, ev⟩ := hat 2 _ rfl
        exact ⟨u, v, hu, hv, (hedge _ _).2 (by rw [eu, ev]; simp)⟩
      · obtain ⟨u, hu, eu⟩ := hat 2 _ rfl
        obtain ⟨v, hv, ev⟩ := hat 3 _ rfl
        exact ⟨u, v, hu, hv, (hedge _ _).2 (by rw [eu, ev]; simp)⟩
      · obtain ⟨u, hu, eu⟩ := hat 3 _ rfl
        obtain ⟨v, hv, ev⟩ := hat 1 _ rfl
        exact ⟨u, v, hu, hv, (hedge _ _).2 (by rw [eu, ev]; simp)⟩
  refine ⟨hlen, by rw [hE]; rfl, ?_, hat 3 _ rfl⟩
  obtain ⟨v, hv, ev⟩ := hat 2 _ rfl
  have hd := h.del v (List.mem_of_getElem? hv)
  rw [hdl] at hd
  unfold aliveV
  have e2 : (V.map vxG)[(2 : Int).toNat]? = some (vxG v) := by rw [show (2 : Int).toNat = 2 from rfl, List.getElem?_map, hv]; rfl
  rw [e2]
  show (decide _ && (!decide (v.id.1 = ByteArray.empty) && decide (v.del ≤ 0))) = true
  rw [ev, hd]
  decide
end Go.Proofs.YtojnagonhihknaaGreatDoor
set_option linter.unusedVariables false
set_option linter.unusedSimpArgs false
namespace Go.Proofs.YtojnagonhihknaaGreatDoor
open Go.ChangeShapes Go.WideShapes Go.ChangeAt Go.RowKit

theorem eqNil7 (w : World) : (binOp .eql 32 .nilIface .nilIface).run Tryz.prog w = .ok (.bool true) w := by kernel_rfl
def s7W (w : World) : World := ((w.alloc (.cells #[.string ⟨#[97]⟩, .string ⟨#[98]⟩] 9)).alloc (.cells #[.int .i64 1, .int .i64 (-1), .int .i64 0, .int .i64 (-1), .int .i64 1, .slice (some ⟨w.heap.size, 0, none⟩) 2 2] 59)).alloc (.cells #[.string ⟨#[120]⟩, .string ⟨#[]⟩, .slice none 0 0, .slice (some ⟨w.heap.size + 1, 0, none⟩) 1 1] 49)
theorem s7_reads (w : World) : GReads (s7W w) (.slice (some ⟨w.heap.size + 1 + 1, 0, none⟩) 1 1) S7 ∧ Below w.heap.size w (s7W w) := by
  obtain ⟨q1, q2, q3, qb, qs⟩ := boxA3 (Below.refl _ (s7W w))
  unfold s7W at q1 q2 q3 qb qs ⊢
  refine ⟨.inr ⟨by simp [S7], w.heap.size + 1 + 1, 0, 1, rfl, Nat.le_refl _, by omega, by omega, fun j p hj => ?_⟩, qb⟩
  match j, hj with
  | 0, hj =>
    simp [S7] at hj
    subst hj
    refine ⟨.slice none 0 0, .slice (some ⟨w.heap.size + 1, 0, none⟩) 1 1, q3 0, q3 1, q3 2, q3 3, rfl, .inl ⟨rfl, none, 0, rfl⟩, .inr ⟨by simp [p7], w.heap.size + 1, 0, 1, rfl, Nat.le_refl _, by omega, by omega, fun j x hx => ?_⟩⟩
    match j, hx with
    | 0, hx =>
      simp [p7] at hx
      subst hx
      refine ⟨.slice (some ⟨w.heap.size, 0, none⟩) 2 2, q2 0, q2 1, q2 2, q2 3, q2 4, q2 5, .inr ⟨by simp [op7], w.heap.size, 0, 2, rfl, Nat.le_refl _, by omega, by omega, fun j x hx => ?_⟩⟩
      match j, hx with
      | 0, hx => simp [op7] at hx; subst hx; exact q1 0
      | 1, hx => simp [op7] at hx; subst hx; exact q1 1
      | j + 2, hx => simp [op7] at hx
    | j + 1, hx => simp [p7] at hx
  | j + 1, hj => simp [S7] at hj
set_option maxHeartbeats 4000000 in
set_option maxRecDepth 100000 in
theorem gawake_any (w : World) (ht : HasTab w) : Calls Tryz.prog 7 #[] w fun e w' => e = .returned (.bool true) ∧ Below w.heap.size w w' := by
  obtain ⟨hS, hB⟩ := s7_reads w
  have HBU := Lib.hid (gbuild_any S7 S7_fine S7_small _ _ hS (ht.below hB))
  have HB := Lib.hid hB
  have HW := Lib.hid (show s7W w = _ by unfold s7W; rfl)
  have e1 := eqNil7
  clear hS hB ht
  go_enter Tryz.func7, Tryz.ntmps7
  go_wp2_with fail
  rw [← HW.out]
  refine HBU.out.mono ?_
  rintro e w2 ⟨vv, ev, k, rfl, hbr, hb2, hok, _⟩
  obtain rfl := s7_build hbr
  obtain ⟨⟨V, E, hV, hE, hgr⟩, _⟩ := hok rfl
  obtain ⟨hl4, hl3, hal, v3, hv3, hid3⟩ := s7_graph hgr
  have h0 : errO 0 = .nilIface := by unfold errO; rw [if_pos rfl]
  rw [h0]
  have hvr : VReads w2 vv (V.map vxG) := VReads.ofRow (B := 0) (by rw [List.length_map]; exact hV)
  obtain ⟨va, vc, hvv, _⟩ := hvr.form
  obtain ⟨ea, ec, hev⟩ := hE.form
  have hel : (prI E).length = 3 := by unfold prI; rw [List.length_map, hl3]
  rw [List.length_map, hl4] at hvv
  rw [hel] at hev
  subst hvv hev
  obtain ⟨W3, hW3⟩ : ∃ W3, W3 = w2.alloc (.cells #[.slice va 4 vc, .slice ea 3 ec] 30) := ⟨_, rfl⟩
  obtain ⟨c1, cb, cs⟩ := boxA1 (Below.refl _ (w2.alloc (.cells #[.slice va 4 vc, .slice ea 3 ec] 30)))
  rw [← hW3] at c1 cb cs
  obtain ⟨q, hq⟩ : ∃ q, q = w2.heap.size := ⟨_, rfl⟩
  rw [← hq] at c1
  have g0 := c1 0
  have g1 := c1 1
  have hAL := alive_any (V.map vxG) (.slice va 4 vc) (.slice ea 3 ec) 2 W3 (hvr.below cb)
  rw [hal] at hAL
  have hPL : ∀ W, Below W3.heap.size W3 W → Calls Tryz.prog 13 #[.agg #[.slice va 4 vc, .slice ea 3 ec], .agg #[.string ⟨#[120]⟩, .int .i64 1]] W fun e w' => e = .returned (.int .i64 3) ∧ Below W.heap.size W w' := fun W hW => by
    have := gplaceF_any V hgr.rise (by omega) hv3 (.slice va 4 vc) (.slice ea 3 ec) W ((hvr.below cb).below hW)
    rw [hid3] at this
    exact this
  have HAL := Lib.hid hAL
  have HPL := Lib.hid hPL
  have HBW := Lib.hid (HB.out.trans (hb2.mono HB.out.size))
  have HCB := Lib.hid cb
  have HQ := Lib.hid hq
  have HW3 := Lib.hid hW3
  have HG := Lib.hid (show W3.cell? ⟨q, 0, none⟩ = some (.slice va 4 vc) ∧ W3.cell? ⟨q, 1, none⟩ = some (.slice ea 3 ec) from ⟨g0, g1⟩)
  clear hbr hb2 hok hV hE hgr hl4 hl3 hal hv3 hid3 h0 hvr hel hAL hPL hq hW3 c1 cb cs HBU HW
  go_wp2_with fail
  rw [← HQ.out]
  rw [← HW3.out]
  refine HAL.out.mono ?_
  rintro e w4 ⟨rfl, hb4⟩
  have k0 := (hb4.cell (p := ⟨q, 0, none⟩) (cell_lt g0)).trans g0
  have k1 := (hb4.cell (p := ⟨q, 1, none⟩) (cell_lt g1)).trans g1
  have HB4 := Lib.hid hb4
  clear hb4 g0 g1
  go_wp2_with fail
  refine (HPL.out w4 HB4.out).mono ?_
  rintro e w5 ⟨rfl, hb5⟩
  have HB5 := Lib.hid ((HBW.out.trans (HCB.out.mono HBW.out.size)).trans ((HB4.out.trans (hb5.mono HB4.out.size)).mono (Nat.le_trans HBW.out.size HCB.out.size)))
  clear hb5
  go_wp2_with fail
  go_ret
  exact ⟨rfl, HB5.out⟩
end Go.Proofs.YtojnagonhihknaaGreatDoor
set_option linter.unusedVariables false
set_option linter.unusedSimpArgs false
namespace Go.Proofs.YtojnagonhihknaaGreatDoor
open Go.ChangeShapes Go.WideShapes Go.ChangeAt Go.RowKit

theorem infoN7g : (Tryz.prog.info? 49).map (fun i => (i.zero, i.size, i.bytes)) = some (some (.agg #[.string ByteArray.empty, .string ByteArray.empty, .slice none 0 0, .slice none 0 0]), 4, 80) := by kernel_rfl
theorem rem_place7 (x : Int) {n : Nat} (hn : 0 < n) : ∃ r : Int, ∃ j : Nat, x.tmod (n : Int) = r ∧ -(n : Int) < r ∧ r < n ∧ (r + n).tmod (n : Int) = (j : Int) ∧ j < n := by
  refine ⟨_, ((x.tmod n + n).tmod n).toNat, rfl, Int.lt_tmod_of_pos _ (by omega), Int.tmod_lt_of_pos _ (by omega), ?_, ?_⟩
  · have h1 := Int.lt_tmod_of_pos x (show (0 : Int) < n by omega)
    have : 0 ≤ (x.tmod n + n).tmod n := Int.tmod_nonneg _ (by omega)
    omega
  · have h1 := Int.lt_tmod_of_pos x (show (0 : Int) < n by omega)
    have h2 : 0 ≤ (x.tmod n + n).tmod n := Int.tmod_nonneg _ (by omega)
    have h3 := Int.tmod_lt_of_pos (x.tmod n + n) (show (0 : Int) < n by omega)
    omega
theorem fine_perm {S T : SetP} (hp : S.Perm T) (h : S.fine) : T.fine := ⟨by rw [← hp.length_eq]; exact h.1, fun p hpT => h.2 p (hp.mem_iff.2 hpT)⟩
theorem eqIfNil (t : TypeId) (v : Value) (w : World) : (binOp .eql 32 (.iface t v) .nilIface).run Tryz.prog w = .ok (.bool false) w := by kernel_rfl
theorem neIfNil (t : TypeId) (v : Value) (w : World) : (binOp .neq 32 (.iface t v) .nilIface).run Tryz.prog w = .ok (.bool true) w := by kernel_rfl
theorem eqNilNil (w : World) : (binOp .eql 32 .nilIface .nilIface).run Tryz.prog w = .ok (.bool true) w := by kernel_rfl
theorem neNilNil (w : World) : (binOp .neq 32 .nilIface .nilIface).run Tryz.prog w = .ok (.bool false) w := by kernel_rfl
theorem bu_form {S : SetP} {w w' : World} {vv ev : Value} {k : Int} (h1 : k = 0 → (∃ V E, Row 8 0 w' vv V.length (vxs (V.map vxG)) ∧ RE w' ev (prI E) ∧ GraphS ltB nil0 (gsetS S) V E) ∧ (∀ g, vv.ownBlock = some g → w.heap.size ≤ g ∧ ev.ownBlock ≠ some g)) (h2 : k ≠ 0 → vv = .slice none 0 0 ∧ ev = .slice none 0 0) : (∃ a n c, vv = .slice a n c) ∧ ∃ a n c, ev = .slice a n c := by
  by_cases h : k = 0
  · obtain ⟨⟨V, E, h3, h4, _⟩, _⟩ := h1 h
    obtain ⟨a, c, e⟩ := h3.form
    obtain ⟨a2, c2, e2⟩ := h4.form
    exact ⟨⟨_, _, _, e⟩, _, _, _, e2⟩
  · obtain ⟨e, e2⟩ := h2 h
    exact ⟨⟨_, _, _, e⟩, _, _, _, e2⟩
set_option maxHeartbeats 4000000 in
set_option maxRecDepth 100000 in
theorem gturned_law (S : SetP) (v : Value) (x : Int) (w : World) (hr : GReads w v S) (hf : S.fine) (ht : HasTab w) :
    Calls Tryz.prog 4 #[v, .int .i64 x] w fun e w' => e = .returned (.bool true) ∧ Below w.heap.size w w' := by
  obtain ⟨sa, sc, rfl, _⟩ := hr.form
  obtain ⟨n, hnn⟩ : ∃ n, n = S.length := ⟨_, rfl⟩
  have hn9 := hf.1
  have hsmall : ∀ wz, Below w.heap.size w wz → Calls Tryz.prog 8 #[.slice sa S.length sc] wz fun e w' => ∃ b, e = .returned (.bool b) ∧ (b = true ↔ smallG S) ∧ Below wz.heap.size wz w' := fun wz hz => gsmall_any S _ wz (hr.below hz) hf
  rw [← hnn] at hr hn9 hsmall ⊢
  have HR := Lib.hid hr
  have HF := Lib.hid hf
  have HN := Lib.hid hnn
  have HT := Lib.hid ht
  have HSML := Lib.hid hsmall
  have HAW := Lib.hid (gawake_any w ht)
  clear hr hf hnn ht hsmall
  go_enter Tryz.func4, Tryz.ntmps4
  go_wp2_with fail
  refine HAW.out.mono ?_
  rintro e w2 ⟨rfl, hb2⟩
  have HB2 := Lib.hid hb2
  have HSM := Lib.hid (HSML.out w2 hb2)
  clear hb2 HSML HAW
  by_cases hn0 : n = 0
  · subst hn0
    go_wp2_with fail
    go_ret
    exact ⟨rfl, HB2.out⟩
  · have hnb : ((n : Int) == (0 : Int)) = false := by rw [beq_eq_false_iff_ne]; omega
    have hnz : ¬ (n : Int) = 0 := by omega
    go_wp2_with fail
    refine HSM.out.mono ?_
    rintro e w3 ⟨b, rfl, hsm, hb3⟩
    have HB3 := Lib.hid (HB2.out.trans (hb3.mono HB2.out.size))
    clear hb3
    cases b with
    | false =>
      clear hsm
      go_wp2_with fail
      go_ret
      exact ⟨rfl, HB3.out⟩
    | true =>
      have HSS := Lib.hid (hsm.1 rfl)
      have hn60 : n ≤ 60 := by rw [HN.out]; exact HSS.out.big.len
      obtain ⟨r, k, hrr, hr1, hr2, hk, hkn⟩ := rem_place7 x (show 0 < n by omega)
      clear hsm
      go_wp2_with fail
      go_loopw [6, 7] (fun ov jv wr => ∃ (t : Nat) (q : Int) (els : List El7), jv = .int .i64 q ∧ t ≤ n ∧ Hid (q = (n : Int) - 1 - (t : Int)) ∧ -1 ≤ q ∧ q < 60 ∧ Hid (t = els.length) ∧ Hid (Row 4 w3.heap.size wr ov t (els.flatMap El7.cells)) ∧ Hid (els.map El7.key = turnS S k t) ∧ Hid (∀ y ∈ els, PReads w y.P.note y.dv y.ov y.P) ∧ Hid (Below w3.heap.size w3 wr)) (fun _ jv _ => (intOf jv + 1).toNat)
      case atStart => exact ⟨0, (n : Int) - 1, [], rfl, Nat.zero_le _, Lib.hid (by omega), by omega, by omega, Lib.hid rfl, Lib.hid (Row.nil _ _ _), Lib.hid rfl, Lib.hid (by simp), Lib.hid (Below.refl _ _)⟩
      case round =>
        obtain ⟨t, q, els, rfl, htn, HQ, hq1, hq2, HM, HW, HK, HEL, HB⟩ := hrel
        obtain ⟨oa0, oc0, rfl⟩ := HW.out.form
        have hbw := HB3.out.trans (HB.out.mono HB3.out.size)
        have HBW := Lib.hid hbw
        by_cases hlt : t < n
        · obtain ⟨i, hi⟩ : ∃ i : Nat, q = (i : Int) := ⟨q.toNat, by have := HQ.out; omega⟩
          subst hi
          have hin : i < n := by have := HQ.out; omega
          obtain ⟨ix, hix⟩ : ∃ ix, ix = (i + k) % n := ⟨_, rfl⟩
          have hixn : ix < n := by rw [hix]; exact Nat.mod_lt _ (by omega)
          have him : ((i : Int) + (k : Int)).tmod (n : Int) = (ix : Int) := by
            rw [Int.tmod_eq_emod_of_nonneg (by omega), hix]
            exact (by omega : ((i : Int) + (k : Int)) = ((i + k : Nat) : Int)) ▸ (Int.natCast_emod (i + k) n).symm
          obtain ⟨p, hp⟩ : ∃ p, S[ix]? = some p := ⟨S[ix]'(by rw [← HN.out]; exact hixn), by simp⟩
          have hst := turnS_step (S := S) (k := k) (t := t) (p := p) (by
            have e : (S.length - 1 - t + k) % S.length = ix := by rw [← HN.out, hix]; congr 2; have := HQ.out; omega
            rw [e]; exact hp)
          obtain ⟨sb, so, rfl, hsl, _, _, dv, ov, m0, m1, m2, m3, hpr⟩ := HR.out.at hp
          obtain ⟨da, dc, hdv, _⟩ := hpr.deps.form
          obtain ⟨oa, oc, hov, _⟩ := hpr.ops.form
          obtain ⟨nm2, P⟩ := p
          simp only at hdv hov hst m0 m1 hpr
          subst hdv hov
          obtain ⟨dl, hdl⟩ : ∃ dl, dl = P.deps.length := ⟨_, rfl⟩
          obtain ⟨ol, hol⟩ : ∃ ol, ol = P.ops.length := ⟨_, rfl⟩
          obtain ⟨nt, hnt⟩ : ∃ nt, nt = P.note := ⟨_, rfl⟩
          rw [← hdl] at m2
          rw [← hol] at m3
          rw [← hnt] at m1
          have d0 := (hbw.cell (p := ⟨sb, so + ix * 4, none⟩) hsl).trans m0
          have d1 := (hbw.cell (p := ⟨sb, so + ix * 4 + 1, none⟩) hsl).trans m1
          have d2 := (hbw.cell (p := ⟨sb, so + ix * 4 + 2, none⟩) hsl).trans m2
          have d3 := (hbw.cell (p := ⟨sb, so + ix * 4 + 3, none⟩) hsl).trans m3
          have HST := Lib.hid hst
          have HDR := Lib.hid hpr
          have hsrc : Src Tryz.prog 4 22 (.slice (some ⟨wr.heap.size, 0, none⟩) 1 1) 1 [.string nm2, .string nt, .slice da dl dc, .slice oa ol oc] (wr.alloc (.cells #[.string nm2, .string nt, .slice da dl dc, .slice oa ol oc] 49)) := src_new Tryz.underlying22 [.string nm2, .string nt, .slice da dl dc, .slice oa ol oc] 1 49 1 rfl (by intro u hu; simp only [List.mem_cons, List.not_mem_nil, or_false] at hu; rcases hu with rfl | rfl | rfl | rfl <;> rfl)
          have HSRC := Lib.hid hsrc
          have HRA := Lib.hid (HW.out.alloc (.cells #[.string nm2, .string nt, .slice da dl dc, .slice oa ol oc] 49))
          have hszw : w3.heap.size ≤ (wr.alloc (.cells #[.string nm2, .string nt, .slice da dl dc, .slice oa ol oc] 49)).heap.size := by have := HB.out.size; simp; omega
          have hc : El7.cells ⟨nm2, P, .slice da P.deps.length dc, .slice oa P.ops.length oc⟩ = [.string nm2, .string nt, .slice da dl dc, .slice oa ol oc] := by unfold El7.cells; rw [hdl, hol, hnt]
          have HC := Lib.hid hc
          clear hst hpr hdl hol hnt hsrc hp hix m0 m1 m2 m3 hbw hc
          go_wp2_with (at_builtin; refine wpList_append_rowW rfl (.tmp 39) (.tmp 49) 22 22 rfl 4 49 (.agg #[.string ByteArray.empty, .string ByteArray.empty, .slice none 0 0, .slice none 0 0]) 80 Tryz.underlying22 infoN7g rfl w3.heap.size (.slice oa0 t oc0) t (els.flatMap El7.cells) (by simp [Act.eval]) HRA.out (.slice (some ⟨wr.heap.size, 0, none⟩) 1 1) (by simp [Act.eval]) 1 [.string nm2, .string nt, .slice da dl dc, .slice oa ol oc] HSRC.out hszw (by omega) (by decide) ?_; intro v6 w6 hr6 ho6 hw6; obtain ⟨a6, c6, hv6⟩ := hr6.form; subst hv6; have HR6 := Lib.hid hr6; have HO6 := Lib.hid ho6; clear hr6 ho6 hw6)
          have hoa : Off (fun i => (Value.slice oa0 t oc0).ownBlock = some i) wr w6 := ((Off.refl _ wr).alloc _).trans HO6.out
          have hb6 := HB.out.trans (hoa.below (B := w3.heap.size) (fun i hi => (HW.out.lt i hi).1) HB.out.size)
          exact ⟨⟨t + 1, (i : Int) - 1, els ++ [⟨nm2, P, .slice da P.deps.length dc, .slice oa P.ops.length oc⟩], by first | rfl | go_num, by omega, Lib.hid (by have := HQ.out; omega), by omega, by omega, Lib.hid (by rw [List.length_append, List.length_singleton, HM.out]), Lib.hid (by rw [List.flatMap_append, List.flatMap_cons, List.flatMap_nil, List.append_nil, HC.out]; exact HR6.out), Lib.hid (by rw [HST.out, ← HK.out, List.map_append]; rfl), Lib.hid (fun y hy => by
            rcases List.mem_append.1 hy with hy | hy
            · exact HEL.out y hy
            · rw [List.mem_singleton] at hy
              subst hy
              exact HDR.out), Lib.hid hb6⟩, by simp [intOf]⟩
        · have htn2 : n = t := by omega
          subst htn2
          have hqe : q = -1 := by have := HQ.out; omega
          subst hqe
          have hT : GReads wr (.slice oa0 n oc0) (turnS S k n) := by
            have h := els7_reads (by rw [← HM.out]; exact HW.out) (fun y hy => (HEL.out y hy).below hbw)
            rw [HK.out] at h
            exact h
          have hpm : S.Perm (turnS S k n) := by rw [HN.out]; exact (turnS_perm (by rw [← HN.out]; exact hkn)).symm
          have HTR := Lib.hid hT
          have HPM := Lib.hid hpm
          have HST := Lib.hid (smallG_perm hpm HSS.out)
          have HBA := Lib.hid (gbuild_any S HF.out HSS.out.big (.slice sa n sc) wr (HR.out.below hbw) (HT.out.below hbw))
          clear hT hpm hbw
          go_wp2_with fail
          refine HBA.out.mono ?_
          rintro e w7 ⟨va, ea, k1, rfl, hbr1, hb7, hok1, hno1⟩
          obtain ⟨⟨a1, n1, c1, rfl⟩, b1, m1, d1, rfl⟩ := bu_form hok1 hno1
          obtain ⟨wA, hwA⟩ : ∃ wA, wA = w7.alloc (.cells #[.slice a1 n1 c1, .slice b1 m1 d1] 30) := ⟨_, rfl⟩
          obtain ⟨g1, gb, gs⟩ := boxA1 (Below.refl _ (w7.alloc (.cells #[.slice a1 n1 c1, .slice b1 m1 d1] 30)))
          rw [← hwA] at g1 gb gs
          obtain ⟨q8, hq8⟩ : ∃ q8, q8 = w7.heap.size := ⟨_, rfl⟩
          rw [← hq8] at g1
          have hb7w := HBW.out.trans (hb7.mono HBW.out.size)
          have hbTA : Below wr.heap.size wr wA := hb7.trans (gb.mono hb7.size)
          have hbA := hb7w.trans (gb.mono hb7w.size)
          have HBB := Lib.hid (gbuild_any (turnS S k n) (fine_perm HPM.out HF.out) HST.out.big (.slice oa0 n oc0) wA (HTR.out.below hbTA) (HT.out.below hbA))
          have HBWA := Lib.hid hbA
          have HGB := Lib.hid gb
          have HBR1 := Lib.hid hbr1
          have HOK1 := Lib.hid hok1
          have HQ8 := Lib.hid hq8
          have HWA := Lib.hid hwA
          have HG := Lib.hid (show wA.cell? ⟨q8, 0, none⟩ = some (.slice a1 n1 c1) ∧ wA.cell? ⟨q8, 1, none⟩ = some (.slice b1 m1 d1) from ⟨g1 0, g1 1⟩)
          obtain ⟨ev1, hev1⟩ : ∃ ev1, ev1 = errO k1 := ⟨_, rfl⟩
          have HEV := Lib.hid hev1
          rw [← hev1]
          clear hbr1 hb7 hok1 hno1 hwA g1 gb gs hq8 hb7w hbTA hbA hev1 HBA
          go_wp2_with fail
          rw [← HQ8.out]
          rw [← HWA.out]
          refine HBB.out.mono ?_
          rintro e w9 ⟨va2, ea2, k2, rfl, hbr2, hb9, hok2, hno2⟩
          obtain rfl : k1 = k2 := build_perm HPM.out HBR1.out hbr2
          rw [← HEV.out]
          obtain ⟨⟨a2, n2, c2, rfl⟩, b2, m2, d2, rfl⟩ := bu_form hok2 hno2
          obtain ⟨wC, hwC⟩ : ∃ wC, wC = w9.alloc (.cells #[.slice a2 n2 c2, .slice b2 m2 d2] 30) := ⟨_, rfl⟩
          obtain ⟨g1, gb, gs⟩ := boxA1 (Below.refl _ (w9.alloc (.cells #[.slice a2 n2 c2, .slice b2 m2 d2] 30)))
          rw [← hwC] at g1 gb gs
          obtain ⟨q10, hq10⟩ : ∃ q10, q10 = w9.heap.size := ⟨_, rfl⟩
          rw [← hq10] at g1
          have hbAC : Below wA.heap.size wA wC := hb9.trans (gb.mono hb9.size)
          have h80 := (hbAC.cell (p := ⟨q8, 0, none⟩) (cell_lt HG.out.1)).trans HG.out.1
          have h81 := (hbAC.cell (p := ⟨q8, 1, none⟩) (cell_lt HG.out.2)).trans HG.out.2
          have h100 := g1 0
          have h101 := g1 1
          have HBC := Lib.hid (HBWA.out.trans (hbAC.mono HBWA.out.size))
          have HQ10 := Lib.hid hq10
          have HWC := Lib.hid hwC
          by_cases hk0 : k1 = 0
          · subst hk0
            obtain ⟨⟨V, E, hV1, hE1, hgr1⟩, _⟩ := HOK1.out rfl
            obtain ⟨⟨V', E', hV2, hE2, hgr2⟩, _⟩ := hok2 rfl
            obtain ⟨rfl, rfl⟩ := graph_one ltB_asymm hbr2.good.1.tame (graph_turn (HPM.out.map gpt) hgr1) hgr2
            have hS := gsame_any (V.map vxG) (prI E) _ _ _ _ wC (VReads.ofRow (B := 0) (by rw [List.length_map]; exact (hV1.below HGB.out).below hbAC)) (VReads.ofRow (B := 0) (by rw [List.length_map]; exact hV2.below gb)) ((hE1.below HGB.out).below hbAC) (hE2.below gb)
            have HS := Lib.hid hS
            have e0 : ev1 = .nilIface := by rw [HEV.out]; unfold errO; rw [if_pos rfl]
            subst e0
            have x1 := neNilNil
            rw [HWC.out] at h80 h81 h100 h101
            rw [HQ10.out] at h100 h101
            clear hV1 hE1 hgr1 hV2 hE2 hgr2 hS hbr2 hb9 hok2 hno2 hwC g1 gb gs hq10 hbAC HBB HOK1
            go_wp2_with fail
            try rw [← HQ10.out]
            rw [← HWC.out]
            refine HS.out.mono ?_
            rintro e w11 ⟨rfl, hb11⟩
            have HB11 := Lib.hid (HBC.out.trans (hb11.mono HBC.out.size))
            clear hb11
            go_wp2_with fail
            go_ret
            exact ⟨rfl, HB11.out⟩
          · have e0 : ev1 = .iface 67 (.int .i64 k1) := by rw [HEV.out]; unfold errO; rw [if_neg hk0]
            subst e0
            have x1 := neIfNil
            have x2 := eqIfNil
            have HBD := HBC
            rw [HWC.out] at HBD
            clear hbr2 hb9 hok2 hno2 hwC g1 gb gs hq10 hbAC HBB HOK1 h80 h81 h100 h101
            go_wp2_with fail
            first
              | (go_ret; exact ⟨rfl, HBD.out⟩)
              | (go_quiet (fail)
                 go_wp2_with fail
                 go_ret
                 exact ⟨rfl, below_dn HBD.out⟩)
end Go.Proofs.YtojnagonhihknaaGreatDoor
