/- An op after the other is drawn. -/
import Derived.Test.YtojnagonhihknaaGreatDoorU17
import Derived.Test.YtojnagonhihknaaGreatDoorU20
import Derived.Test.YtojnagonhihknaaGreatDoorU24
import Derived.Test.YtojnagonhihknaaGreatDoorU27
import Derived.Test.YtojnagonhihknaaGreatDoorU31
import Derived.Test.YtojnagonhihknaaGreatDoorU33
import Derived.Test.YtojnagonhihknaaGreatDoorU41
set_option linter.unusedVariables false
set_option linter.unusedSimpArgs false
namespace Go.Proofs.YtojnagonhihknaaGreatDoor
open Go.ChangeShapes Go.WideShapes Go.ChangeAt Go.RowKit Go.WideMaps Go.Maps

def DwI (Z : Nat → Prop) (W0 : World) (p : Nat) (R : GSet ByteArray) (L : List (GEv ByteArray)) (wr : World) : Prop := ∃ S', SPost Z W0 p S' wr ∧ SkD R L S'
theorem DwI.step {Z Z1 Z3 : Nat → Prop} {W0 w1 w3 : World} {p : Nat} {R : GSet ByteArray} {L : List (GEv ByteArray)} {S3 : Sk} (ho : Off Z W0 w1) (hz : ∀ i, Z1 i → Z i ∨ W0.heap.size ≤ i) (hx : SX Z3 w3 p S3) (ho2 : Off Z1 w1 w3) (hz3 : ∀ i, Z3 i → Z1 i ∨ w1.heap.size ≤ i) (hk : SkD R L S3) : DwI Z W0 p R L w3 :=
  ⟨S3, ⟨Z3, hx, ho.trans' ho2 (fun i hl hi => (hz i hi).resolve_right (by omega)), fun i hi => by
    have := ho.size
    rcases hz3 i hi with h | h
    · exact hz i h
    · exact .inr (by omega)⟩, hk⟩
abbrev DwC (q3 q6 : Nat) (nm t : ByteArray) (dv ov : Value) (K ax ay bx bY : Int) (lv : Value) (W : World) : Prop :=
  (W.cell? ⟨q3, 0, none⟩ = some (.string nm) ∧ W.cell? ⟨q3, 1, none⟩ = some (.string t) ∧ W.cell? ⟨q3, 2, none⟩ = some dv ∧ W.cell? ⟨q3, 3, none⟩ = some ov) ∧ (W.cell? ⟨q6, 0, none⟩ = some (.int .i64 K) ∧ W.cell? ⟨q6, 1, none⟩ = some (.int .i64 ax) ∧ W.cell? ⟨q6, 2, none⟩ = some (.int .i64 ay) ∧ W.cell? ⟨q6, 3, none⟩ = some (.int .i64 bx) ∧ W.cell? ⟨q6, 4, none⟩ = some (.int .i64 bY) ∧ W.cell? ⟨q6, 5, none⟩ = some lv)
theorem DwC.off {q3 q6 : Nat} {nm t : ByteArray} {dv ov : Value} {K ax ay bx bY : Int} {lv : Value} {W W' : World} {Y : Nat → Prop} (h : DwC q3 q6 nm t dv ov K ax ay bx bY lv W) (ho : Off Y W W') (h3 : ¬ Y q3) (h6 : ¬ Y q6) : DwC q3 q6 nm t dv ov K ax ay bx bY lv W' := by
  obtain ⟨⟨a0, a1, a2, a3⟩, c0, c1, c2, c3, c4, c5⟩ := h
  have k3 : ∀ j, W'.cell? ⟨q3, j, none⟩ = W.cell? ⟨q3, j, none⟩ := fun j => ho.cell (p := ⟨q3, j, none⟩) (cell_lt a0) h3
  have k6 : ∀ j, W'.cell? ⟨q6, j, none⟩ = W.cell? ⟨q6, j, none⟩ := fun j => ho.cell (p := ⟨q6, j, none⟩) (cell_lt c0) h6
  exact ⟨⟨(k3 0).trans a0, (k3 1).trans a1, (k3 2).trans a2, (k3 3).trans a3⟩, (k6 0).trans c0, (k6 1).trans c1, (k6 2).trans c2, (k6 3).trans c3, (k6 4).trans c4, (k6 5).trans c5⟩
theorem DwC.below {q3 q6 : Nat} {nm t : ByteArray} {dv ov : Value} {K ax ay bx bY : Int} {lv : Value} {W W' : World} (h : DwC q3 q6 nm t dv ov K ax ay bx bY lv W) (hb : Below W.heap.size W W') : DwC q3 q6 nm t dv ov K ax ay bx bY lv W' := h.off (Y := fun _ => False) (Off.of_below hb) (fun h => h) (fun h => h)
theorem costE_evP (nm : ByteArray) (deps : Lb) : ∀ (ops : List Opp) (m : Nat), costE (evP nm m (ops.map (gop nm deps))) = linesN ops + ops.length
  | [], m => rfl
  | y :: r, m => by
    have ih := costE_evP nm deps r (m + if (gop nm deps y).kind = 1 then (gop nm deps y).lines.length else 0)
    unfold costE at *
    rw [List.map_cons]
    show ((_ :: evP nm _ _).map _).sum = _
    rw [List.map_cons, List.sum_cons, ih, linesN, List.length_cons]
    show y.lines.length + 1 + _ = _
    omega
theorem costE_app (L M : List (GEv ByteArray)) : costE (L ++ M) = costE L + costE M := by unfold costE; simp
theorem linesN_lt {l : List Opp} {k : Nat} {o : Opp} (h : l[k]? = some o) : linesN (l.take k) + o.lines.length ≤ linesN l := by
  obtain ⟨hk, rfl⟩ := List.getElem?_eq_some_iff.1 h
  have e : l = l.take k ++ (l[k] :: l.drop (k + 1)) := by rw [← List.drop_eq_getElem_cons hk, List.take_append_drop]
  have h2 : linesN l = linesN (l.take k) + linesN (l[k] :: l.drop (k + 1)) := by rw [← linesN_app, ← e]
  rw [h2, linesN]
  omega
theorem madeN_lt {l : List Opp} {k : Nat} {o : Opp} (h : l[k]? = some o) (hk1 : o.kind = 1) : madeN (l.take k) + o.lines.length ≤ madeN l := by
  obtain ⟨hk, rfl⟩ := List.getElem?_eq_some_iff.1 h
  have e : l = l.take k ++ (l[k] :: l.drop (k + 1)) := by rw [← List.drop_eq_getElem_cons hk, List.take_append_drop]
  have h2 : madeN l = madeN (l.take k) + madeN (l[k] :: l.drop (k + 1)) := by rw [← madeN_app, ← e]
  rw [h2, madeN, if_pos hk1]
  omega
theorem SkD.wtle {R : GSet ByteArray} {L : List (GEv ByteArray)} {S : Sk} (h : SkD R L S) (a b : Nat) : -(costE L : Int) ≤ S.wt ((a : Int), (b : Int)) ∧ S.wt ((a : Int), (b : Int)) ≤ costE L := by
  obtain ⟨V, P, wt, hD, _, _, hw, _⟩ := h.ex
  rw [hw, hD.wt]
  have h2 := wtE_le (plR nil0 R) (a, b) L
  have h3 := len_cost L
  omega
set_option maxHeartbeats 16000000 in
set_option maxRecDepth 100000 in
theorem gdraw_any {Z : Nat → Prop} {p : Nat} {R : GSet ByteArray} {L : List (GEv ByteArray)} {S : Sk} (hM : Tame nil0 R) (hids : (idsR nil0 R).length ≤ 1000000) (nm : ByteArray) (P : Pt) (dv ov : Value) (wB w : World) (h : SX Z w p S) (hS : SkD R L S) (hB : Below wB.heap.size wB w) (hZB : ∀ i, Z i → wB.heap.size ≤ i) (hpr : PReads wB P.note dv ov P) (hx : gpt (nm, P) ∈ R) (hns : nm.size ≤ 140737488355328)
    (href : ∀ (k : Nat) (o : Opp), P.ops[k]? = some o → (((o.kind = 1 ∧ o.lines.length ≠ 0) ∨ ((o.kind = 2 ∨ o.kind = 3) ∧ o.lines.length = 0)) ∧ RefD R nm P.deps o.a ∧ RefD R nm P.deps o.b) ∨ ((o.kind = 4 ∨ o.kind = 5) ∧ o.lines.length = 0 ∧ RefD R nm P.deps o.a)) (hcost : costE L + linesN P.ops + P.ops.length ≤ 1000000) :
    Calls Tryz.prog 27 #[.pointer (some ⟨p, 0, none⟩), npV nm P.note dv ov] w fun e w' => e = .returned (.tuple #[]) ∧ ∃ S', SPost Z w p S' w' ∧ SkD R (L ++ evP nm 0 (P.ops.map (gop nm P.deps))) S' := by
  have hne : nm ≠ nil0 := hM.some _ hx
  have hmadeX : madeX (gpt (nm, P)) = madeN P.ops := madeX_gpt _
  have hnmR : nm ∈ R.map (·.1) := List.mem_map.2 ⟨_, hx, rfl⟩
  have hpl : ∀ m, plR nil0 R (nm, m) = firstR R nm + m := fun m => by unfold plR; rw [if_neg hne]
  have hfle := firstR_le R nm
  obtain ⟨da, dc, hdv, _⟩ := hpr.deps.form
  obtain ⟨oa, oc, hov, hol⟩ := hpr.ops.form
  obtain ⟨t, ht⟩ : ∃ t, t = P.note := ⟨_, rfl⟩
  obtain ⟨dn, hdn⟩ : ∃ n, n = P.deps.length := ⟨_, rfl⟩
  obtain ⟨n, hnn⟩ : ∃ n, n = P.ops.length := ⟨_, rfl⟩
  rw [← hdn] at hdv
  rw [← hnn] at hov hol
  subst hdv hov
  rw [← ht] at hpr ⊢
  obtain ⟨W0, hW0⟩ : ∃ W0, W0 = w.alloc (.cells #[.string nm, .string t, .slice da dn dc, .slice oa n oc] 49) := ⟨_, rfl⟩
  obtain ⟨q1, qb, qs⟩ := boxA1 (Below.refl _ (w.alloc (.cells #[.string nm, .string t, .slice da dn dc, .slice oa n oc] 49)))
  rw [← hW0] at q1 qb qs
  obtain ⟨q3, hq3⟩ : ∃ q3, q3 = w.heap.size := ⟨_, rfl⟩
  have hsx0 := h.below qb
  have hzq : ¬ Z q3 := fun hz => by have := h.zlt q3 hz; omega
  have n0 := q1 0
  have n1 := q1 1
  have n2 := q1 2
  have n3 := q1 3
  simp only [← hq3] at n0 n1 n2 n3
  obtain ⟨bl, bj, vv, uv, hsm0⟩ := hsx0
  have c00 := hsm0.c0
  have hcB : ∀ wr, Off Z W0 wr → Below wB.heap.size wB wr := fun wr ho => (hB.trans (qb.mono hB.size)).trans (ho.below hZB (Nat.le_trans hB.size qb.size))
  have hsz0 : wB.heap.size ≤ W0.heap.size := Nat.le_trans hB.size qb.size
  obtain ⟨f0, hf0⟩ : ∃ f0 : Nat, f0 = firstR R nm := ⟨_, rfl⟩
  obtain ⟨mw, hmw⟩ : ∃ z, z = S.m nm := ⟨_, rfl⟩
  have hlk : ∀ mm, (Instr.lookup 71 (.map (some bl)) (.string nm) false).run Tryz.prog (W0.drewN mm) = .ok (lotV (f0 : Int) mw) (W0.drewN mm) := fun mm => by
    have e := (hsm0.lots.below (below_dn (q := mm) (Below.refl _ W0))).look hns (by rw [hS.ks]; exact hnmR)
    rw [hS.f] at e
    unfold fR at e
    rw [← hf0, ← hmw] at e
    exact e
  have hfl : ∀ W, (Instr.field 104 (lotV (f0 : Int) mw) 0).run Tryz.prog W = .ok (.int .i64 (f0 : Int)) W := fun W => by kernel_rfl
  have hst : DwI Z W0 p R L W0 := ⟨S, ⟨Z, h.below qb, Off.refl _ _, fun i hi => .inl hi⟩, hS⟩
  have HFIN : Hid (∀ w' L', DwI Z W0 p R L' w' → ∃ S', SPost Z w p S' w' ∧ SkD R L' S') := Lib.hid (fun w' L' hd => by
    obtain ⟨S', ⟨Z', k1, k2, k3⟩, k4⟩ := hd
    exact ⟨S', ⟨Z', k1, (Off.of_below qb).trans k2, fun i hi => (k3 i hi).imp id (fun h => Nat.le_trans qb.size h)⟩, k4⟩)
  have HST := Lib.hid hst
  have HX := Lib.hid hx
  have HPR := Lib.hid hpr
  have HCB := Lib.hid hcB
  have HZB := Lib.hid hZB
  have HREF := Lib.hid href
  have HM := Lib.hid hM
  have HIDS := Lib.hid hids
  have HN := Lib.hid hnn
  have HDN := Lib.hid hdn
  have HCOST := Lib.hid hcost
  have HZQ := Lib.hid hzq
  have HMX := Lib.hid hmadeX
  have HF0 := Lib.hid hf0
  have HPL := Lib.hid hpl
  have HFLE := Lib.hid hfle
  have HQ3 : Hid (q3 < W0.heap.size) := Lib.hid (cell_lt n0)
  have HSZ0 := Lib.hid hsz0
  have HW0 := Lib.hid hW0
  have HQE := Lib.hid hq3
  have HN3 := Lib.hid (show (W0.cell? ⟨q3, 0, none⟩ = some (.string nm) ∧ W0.cell? ⟨q3, 1, none⟩ = some (.string t) ∧ W0.cell? ⟨q3, 2, none⟩ = some (.slice da dn dc) ∧ W0.cell? ⟨q3, 3, none⟩ = some (.slice oa n oc)) from ⟨n0, n1, n2, n3⟩)
  clear h hS hst hx hpr hcB hZB href hM hids hnn hdn hcost hzq hmadeX hf0 hmw hpl hfle hB hnmR hne qb qs q1 ht hsm0 hns hsz0 hW0 hq3
  go_enter Tryz.func27, Tryz.ntmps27
  go_wp2_with fail
  rw [← HW0.out, ← HQE.out]
  go_quiet (fail)
  clear hlk hfl
  go_wp2_with fail
  go_loopw [4, 19] (fun nv iv wr => ∃ k nx : Nat, k ≤ n ∧ iv = .int .i64 (k : Nat) ∧ nv = .int .i64 (nx : Nat) ∧ Hid (nx = f0 + madeN (P.ops.take k)) ∧ Hid (DwI Z W0 p R (L ++ evP nm 0 ((P.ops.take k).map (gop nm P.deps))) wr)) (fun _ iv _ => n - (intOf iv).toNat)
  case atStart =>
    refine ⟨0, f0, Nat.zero_le _, rfl, rfl, Lib.hid (by simp [madeN]), Lib.hid ?_⟩
    obtain ⟨S', ⟨Z', k1, k2, k3⟩, k4⟩ := HST.out
    refine ⟨S', ⟨Z', k1.below (below_dn (Below.refl _ _)), k2.trans (Off.of_below (below_dn (Below.refl _ _))), k3⟩, ?_⟩
    simpa [evP] using k4
  case round =>
    clear n0 n1 n2 n3 c00
    obtain ⟨k, nx, hk, rfl, rfl, HNX, HD⟩ := hrel
    by_cases hlt : k < n
    · obtain ⟨z, hz⟩ : ∃ z, P.ops[k]? = some z := ⟨P.ops[k]'(by rw [← HN.out]; exact hlt), by simp⟩
      obtain ⟨S1, ⟨Z1, ⟨bl1, bj1, vv1, uv1, hsm⟩, hoff, hzn⟩, hsk⟩ := HD.out
      have hbw := HCB.out wr hoff
      obtain ⟨b, o, hoab, hnl, hclB⟩ := HPR.out.ops.at hz
      subst hoab
      clear hnl
      have hcl := hclB.below hbw
      obtain ⟨lv, d0, d1, d2, d3, d4, d5, d6⟩ := hcl.2 k z hz
      obtain ⟨lvB, e0, e1, e2, e3, e4, e5, e6⟩ := hclB.2 k z hz
      have hlvB : lvB = lv := by
        have := (hbw.cell (p := ⟨b, o + k * 6 + 5, none⟩) hclB.1).trans e5
        rw [d5] at this
        exact (Option.some.inj this).symm
      subst hlvB
      obtain ⟨la, lc, hlv, hln⟩ := e6.form
      subst hlv
      obtain ⟨N, hN⟩ : ∃ N, N = z.lines.length := ⟨_, rfl⟩
      rw [← hN] at d5 e5 e6 hln
      -- the world at hand
      have hq3w : q3 < wr.heap.size := Nat.lt_of_lt_of_le HQ3.out hoff.size
      have c3w : ∀ j u, W0.cell? ⟨q3, j, none⟩ = some u → wr.cell? ⟨q3, j, none⟩ = some u := fun j u hu => (hoff.cell (p := ⟨q3, j, none⟩) HQ3.out HZQ.out).trans hu
      have nn0 := c3w 0 _ HN3.out.1
      have nn1 := c3w 1 _ HN3.out.2.1
      have nn2 := c3w 2 _ HN3.out.2.2.1
      have nn3 := c3w 3 _ HN3.out.2.2.2
      obtain ⟨w1, hw1⟩ : ∃ w1, w1 = wr.alloc (.cells #[.int .i64 z.kind, .int .i64 z.a.at_, .int .i64 z.a.n, .int .i64 z.b.at_, .int .i64 z.b.n, .slice la N lc] 59) := ⟨_, rfl⟩
      obtain ⟨p1, pb, ps⟩ := boxA1 (Below.refl _ (wr.alloc (.cells #[.int .i64 z.kind, .int .i64 z.a.at_, .int .i64 z.a.n, .int .i64 z.b.at_, .int .i64 z.b.n, .slice la N lc] 59)))
      rw [← hw1] at p1 pb ps
      obtain ⟨q6, hq6⟩ : ∃ q6, q6 = wr.heap.size := ⟨_, rfl⟩
      simp only [← hq6] at p1
      have hpd : Below wr.heap.size wr w1.drew := pb.drew
      have hdw : DwC q3 q6 nm t (.slice da dn dc) (.slice (some ⟨b, o, none⟩) n oc) z.kind z.a.at_ z.a.n z.b.at_ z.b.n (.slice la N lc) w1.drew :=
        ⟨⟨(hpd.cell (p := ⟨q3, 0, none⟩) hq3w).trans nn0, (hpd.cell (p := ⟨q3, 1, none⟩) hq3w).trans nn1, (hpd.cell (p := ⟨q3, 2, none⟩) hq3w).trans nn2, (hpd.cell (p := ⟨q3, 3, none⟩) hq3w).trans nn3⟩, p1 0, p1 1, p1 2, p1 3, p1 4, p1 5⟩
      have hsm1 := hsm.below hpd
      have hoff1 : Off Z W0 w1.drew := hoff.trans (Off.of_below hpd)
      have hz3 : ¬ Z1 q3 := fun hi => by
        rcases hzn q3 hi with h | h
        · exact HZQ.out h
        · have := HQ3.out; omega
      have hz6 : ¬ Z1 q6 := fun hi => by have := hsm.zlt q6 hi; omega
      have hzn1 := hzn
      have hcst : costE (L ++ evP nm 0 ((P.ops.take k).map (gop nm P.deps))) + (N + 1) ≤ 1000000 := by
        rw [costE_app, costE_evP]
        have h1 := linesN_lt hz
        have h2 := HCOST.out
        have h3 : (P.ops.take k).length = k := by rw [List.length_take]; have := HN.out; omega
        have h4 := HN.out
        rw [h3]
        omega
      have hvl := hsk.vlen
      have hevk : L ++ evP nm 0 ((P.ops.take (k + 1)).map (gop nm P.deps)) = L ++ evP nm 0 ((P.ops.take k).map (gop nm P.deps)) ++ [⟨nm, madeN (P.ops.take k), gop nm P.deps z⟩] := by
        rw [evP_take hz, Nat.zero_add, List.append_assoc]
      have hnxp : nx = plR nil0 R (nm, madeN (P.ops.take k)) := by rw [HPL.out, HNX.out, HF0.out]
      have hdB : Reads w1.drew (.slice da dn dc) P.deps := HPR.out.deps.below (HCB.out _ hoff1)
      have hcp := hsm1.zlt p hsm1.zp
      have hlots := hsm1.lots
      rw [hsk.ks, hsk.f] at hlots
      have hid9 : (idsR nil0 R).length ≤ 1000000000 := by have := HIDS.out; omega
      have HOFF1 := Lib.hid hoff1
      have HZN1 := Lib.hid hzn1
      have HSM1 := Lib.hid hsm1
      have HSK := Lib.hid hsk
      have HZ3 := Lib.hid hz3
      have HZ6 := Lib.hid hz6
      have HW1 := Lib.hid hw1
      have HDW := Lib.hid hdw
      have HEV := Lib.hid hevk
      have HNXP := Lib.hid hnxp
      have HCS := Lib.hid hcst
      have HHZ := Lib.hid hz
      have HE6 := Lib.hid e6
      have HNN := Lib.hid hN
      have HQ6 := Lib.hid hq6
      clear hq6 hw1
      rcases HREF.out k z hz with ⟨hkd, ra, rb⟩ | ⟨hkd, hl0, ra⟩
      · have ea' := ra.lt HM.out
        have eb' := rb.lt HM.out
        have cb := gbetween_any nm t P.deps (.slice da dn dc) (.slice (some ⟨b, o, none⟩) n oc) z la N lc w1.drew hsm1.c0 hcp hlots hdB (ra.refG hid9) (rb.refG hid9)
        rw [ra.plG HM.out, rb.plG HM.out] at cb
        obtain ⟨xa, hxa, _⟩ := hsk.at (idsR_at HM.out ra.id)
        obtain ⟨xb, hxb, _⟩ := hsk.at (idsR_at HM.out rb.id)
        obtain ⟨ea, hea⟩ : ∃ ea, ea = plR nil0 R (idR nm P.deps z.a) := ⟨_, rfl⟩
        obtain ⟨eb, heb⟩ : ∃ eb, eb = plR nil0 R (idR nm P.deps z.b) := ⟨_, rfl⟩
        rw [← hea] at cb hxa ea'
        rw [← heb] at cb hxb eb'
        have CB := Lib.hid cb
        rcases hkd with ⟨hk1, hl1⟩ | ⟨hk23, hl0⟩
        · -- New
          have hml := madeN_lt hz hk1
          have hnv : nx + N ≤ S1.vs.length := by
            have h1 : isId nil0 R (nm, madeN (P.ops.take k) + N - 1) := .inr (.inr ⟨_, HX.out, rfl, by show madeN (P.ops.take k) + N - 1 < madeX (gpt (nm, P)); rw [HMX.out]; omega⟩)
            have h2 := (List.getElem?_eq_some_iff.1 (idsR_at HM.out h1)).1
            rw [HPL.out] at h2
            rw [hvl, HNX.out, HF0.out]
            omega
          have hcl2 : ∀ w2, Below w1.drew.heap.size w1.drew w2 → Calls Tryz.prog 56 #[.pointer (some ⟨p, 0, none⟩), .agg #[.int .i64 (ea : Int), .int .i64 (eb : Int)], .slice la N lc, .int .i64 (nx : Int)] w2 fun e w' => e = .returned (.tuple #[]) ∧ DwI Z W0 p R (L ++ evP nm 0 ((P.ops.take (k + 1)).map (gop nm P.deps))) w' ∧ DwC q3 q6 nm t (.slice da dn dc) (.slice (some ⟨b, o, none⟩) n oc) z.kind z.a.at_ z.a.n z.b.at_ z.b.n (.slice la N lc) w' := fun w2 hb2 => by
            have ho2 : Off Z W0 w2 := HOFF1.out.trans (Off.of_below hb2)
            have g := glines_any (Z := Z1) (p := p) (S := S1) ea eb nx xa xb (.slice la N lc) z.lines w2 ⟨bl1, bj1, vv1, uv1, HSM1.out.below hb2⟩ hxa hxb (fun wr' ho' => HE6.out.below (HCB.out wr' (ho2.trans' ho' (fun i hl hi => (HZN1.out i hi).resolve_right (by omega))))) (by rw [← hN]; exact hnv) (by rw [hvl]; exact hid9) (by have := hsk.plen; rw [← hN]; omega)
            refine g.mono ?_
            rintro e w' ⟨rfl, Z3, k1, k2, k3⟩
            refine ⟨rfl, DwI.step ho2 (Z1 := Z1) HZN1.out k1 k2 k3 ?_, (HDW.out.below hb2).off k2 HZ3.out HZ6.out⟩
            rw [hevk]
            exact HSK.out.new HM.out hk1 ra rb hnxp hea heb hxa hxb
          have i4 : IntKind.i64.wrap ((nx : Int) + (N : Int)) = ((nx + N : Nat) : Int) := by
            rw [IntKind.wrap_i64]
            have := HIDS.out
            omega
          obtain ⟨nx2, hnx2⟩ : ∃ nx2, nx2 = nx + N := ⟨_, rfl⟩
          rw [← hnx2] at i4
          have HNX2 : Hid (nx2 = f0 + madeN (P.ops.take (k + 1))) := Lib.hid (by rw [madeN_snoc hz, if_pos hk1, ← hN, hnx2, HNX.out]; omega)
          have HCL := Lib.hid hcl2
          have HK1 := Lib.hid hk1
          clear hml hnv hcl2 hk1 hl1 hxa hxb ra rb hea heb cb hlots hdB hevk hnxp hcst hsm1 hoff1 hzn hzn1 hz3 hz6 hsk hsm hoff hdw hpd p1 pb ps hvl e6 e0 e1 e2 e3 e4 e5 hN d6 hcl hclB hbw hz hid9 hcp hnx2 HNXP HEV HHZ HE6 HCS HNN
          clear ea' eb'
          obtain ⟨K, ⟨ax, ay⟩, ⟨bx, bY⟩, ls⟩ := z
          simp only at d0 d1 d2 d3 d4 HK1
          obtain rfl := HK1.out
          go_wp2_with fail
          rw [← HQ6.out]
          rw [← HW1.out]
          refine wp_region_held_drew (S := (fun W => (W.cell? ⟨q3, 0, none⟩ = some (.string nm) ∧ W.cell? ⟨q3, 1, none⟩ = some (.string t) ∧ W.cell? ⟨q3, 2, none⟩ = some (.slice da dn dc) ∧ W.cell? ⟨q3, 3, none⟩ = some (.slice (some ⟨b, o, none⟩) n oc)) ∧ (W.cell? ⟨q6, 0, none⟩ = some (.int .i64 1) ∧ W.cell? ⟨q6, 1, none⟩ = some (.int .i64 ax) ∧ W.cell? ⟨q6, 2, none⟩ = some (.int .i64 ay) ∧ W.cell? ⟨q6, 3, none⟩ = some (.int .i64 bx) ∧ W.cell? ⟨q6, 4, none⟩ = some (.int .i64 bY) ∧ W.cell? ⟨q6, 5, none⟩ = some (.slice la N lc)))) (by kernel_rfl) ?_ (fun hHeld => ?_)
          · exact HDW.out
          refine tkH 0 ⟨some 27, .move (.tmp 0), 68, "sketch.go:47", #[], none⟩ ?_
          try simp only [Act.put, List.setIfInBounds_toArray, List.set_cons_zero, List.set_cons_succ]
          refine tkH 1 ⟨some 28, .move (.tmp 0), 68, "sketch.go:47", #[], none⟩ ?_
          try simp only [Act.put, List.setIfInBounds_toArray, List.set_cons_zero, List.set_cons_succ]
          refine tkH 2 ⟨some 29, .load 49 (.tmp 3), 49, "sketch.go:47", #[], none⟩ ?_
          try simp only [Act.put, List.setIfInBounds_toArray, List.set_cons_zero, List.set_cons_succ]
          refine tkH 3 ⟨some 30, .load 59 (.tmp 6), 59, "sketch.go:47", #[], none⟩ ?_
          try simp only [Act.put, List.setIfInBounds_toArray, List.set_cons_zero, List.set_cons_succ]
          refine tkH 5 ⟨some 32, .fieldAddr 59 (.tmp 6) 3, 0, "sketch.go:47", #[], none⟩ ?_
          try simp only [Act.put, List.setIfInBounds_toArray, List.set_cons_zero, List.set_cons_succ]
          refine tkH 6 ⟨some 33, .load 44 (.tmp 32), 44, "sketch.go:47", #[⟨5, .data⟩], none⟩ ?_
          try simp only [Act.put, List.setIfInBounds_toArray, List.set_cons_zero, List.set_cons_succ]
          refine tkH 7 ⟨some 34, .move (.tmp 4), 3, "sketch.go:47", #[], none⟩ ?_
          try simp only [Act.put, List.setIfInBounds_toArray, List.set_cons_zero, List.set_cons_succ]
          refine wpAnyH_ready (rs := [4]) (by kernel_rfl) (by simp) ?_
          refine AllReadyH.cons (o := ⟨some 31, .call { callee := Callee.value (Operand.func 57), args := #[.tmp 28, .tmp 29, .tmp 30], argTypes := #[68, 49, 59] }, 54, "sketch.go:47", #[⟨1, .data⟩, ⟨2, .data⟩, ⟨3, .data⟩], none⟩) rfl (fun KK hK => ?_) AllReadyH.nil
          go_simp
          (with_reducible refine CB.out.mono ?_)
          rintro e w2 ⟨rfl, hb2⟩
          have HD2 := Lib.hid (HDW.out.below hb2)
          have HC2 := Lib.hid (HCL.out w2 hb2)
          clear hb2
          refine hK.out _ _ ?_ (fun hHeld => ?_)
          · exact HD2.out
          clear hK KK
          try simp only [Act.put, List.setIfInBounds_toArray, List.set_cons_zero, List.set_cons_succ]
          refine wpAnyH_ready (rs := [8]) (by kernel_rfl) (by simp) ?_
          refine AllReadyH.cons (o := ⟨some 35, .call { callee := Callee.value (Operand.func 56), args := #[.tmp 27, .tmp 31, .tmp 33, .tmp 34], argTypes := #[68, 54, 44, 3] }, 0, "sketch.go:47", #[⟨0, .data⟩, ⟨4, .data⟩, ⟨6, .data⟩, ⟨7, .data⟩, ⟨4, .chain⟩], none⟩) rfl (fun KK hK => ?_) AllReadyH.nil
          go_simp
          (with_reducible refine HC2.out.mono ?_)
          rintro e w3 ⟨rfl, hdi, hd3⟩
          have HD3 := Lib.hid hd3
          have HDI := Lib.hid hdi
          clear hdi hd3
          refine hK.out _ _ ?_ (fun hHeld => ?_)
          · exact HD3.out
          clear hK KK
          try simp only [Act.put, List.setIfInBounds_toArray, List.set_cons_zero, List.set_cons_succ]
          refine wpAnyH_done (by kernel_rfl) ?_ _
          clear hHeld
          obtain ⟨_, s0, s1, s2, s3, s4, s5⟩ := HD3.out
          clear HD2 HD3 HC2 HCL CB HDW d0 d1 d2 d3 d4 d5
          go_wp2_with fail
          exact ⟨⟨k + 1, nx2, by omega, by go_num, by first | rfl | go_num, HNX2, HDI⟩, by simp [intOf]; omega⟩
        · -- Join, Cut
          obtain ⟨y, hy⟩ : ∃ y, y = S1.wt ((ea : Int), (eb : Int)) := ⟨_, rfl⟩
          have hyl := hsk.wtle ea eb
          rw [← hy] at hyl
          have hokp : okP ((ea : Int), (eb : Int)) := okP_nat (by have := HIDS.out; omega) (by have := HIDS.out; omega)
          have hwf : ∀ c : Int, -2 ≤ c → c ≤ 2 → (Lit.int .i64 (y + c)).wf = true := fun c h1 h2 => li_wf (by omega) (by omega)
          obtain ⟨_, _, _, _, _, _, _, _, hsc, _, _⟩ := hsk.ex
          have hcc : S1.c ≤ 1000000000 := by omega
          have c3 := hsm1.c3
          have lk1 : ∀ W, MJ W bj1 S1.c S1.js S1.wt → (Instr.lookup 72 (.map (some bj1)) (.agg #[.int .i64 (ea : Int), .int .i64 (eb : Int)]) false).run Tryz.prog W = .ok (.int .i64 y) W := fun W hW => by rw [hy]; exact hW.look hokp
          have hend : ∀ c : Int, ((z.kind = 2 ∧ c = 1) ∨ (z.kind = 3 ∧ c = -1)) → ∀ w2, Below w1.drew.heap.size w1.drew w2 → ∃ v0 st W1 W2, (Instr.mapEntry 72 (.map (some bj1)) (.agg #[.int .i64 (ea : Int), .int .i64 (eb : Int)])).run Tryz.prog w2 = .ok (.tuple #[v0, goInt st]) W1 ∧ (Instr.entryStore 72 (.map (some bj1)) (goInt st) (.int .i64 (y + c))).run Tryz.prog W1 = .ok () W2 ∧
              (Instr.lookup 72 (.map (some bj1)) (.agg #[.int .i64 (ea : Int), .int .i64 (eb : Int)]) false).run Tryz.prog w2 = .ok (.int .i64 y) w2 ∧ (Instr.lookup 72 (.map (some bj1)) (.agg #[.int .i64 (ea : Int), .int .i64 (eb : Int)]) false).run Tryz.prog W1 = .ok (.int .i64 y) W1 ∧
              (DwC q3 q6 nm t (.slice da dn dc) (.slice (some ⟨b, o, none⟩) n oc) z.kind z.a.at_ z.a.n z.b.at_ z.b.n (.slice la N lc) w2 ∧ w2.cell? ⟨p, 3, none⟩ = some (.map (some bj1))) ∧ (DwC q3 q6 nm t (.slice da dn dc) (.slice (some ⟨b, o, none⟩) n oc) z.kind z.a.at_ z.a.n z.b.at_ z.b.n (.slice la N lc) W1 ∧ W1.cell? ⟨p, 3, none⟩ = some (.map (some bj1))) ∧
              DwI Z W0 p R (L ++ evP nm 0 ((P.ops.take (k + 1)).map (gop nm P.deps))) W2 := fun c hc w2 hb2 => by
            have hsm2 := HSM1.out.below hb2
            obtain ⟨v0, st, W1, W2, hr1, hr2, hMJ, ho1, ho2⟩ := hsm2.joins.tick hokp hcc (x := y + c) (hwf c (by omega) (by omega))
            have hmid := hsm2.joins.mid hokp hcc (by rw [← hy]; have := hwf 0 (by omega) (by omega); rwa [Int.add_zero] at this) hr1
            rw [← hy] at hmid
            have hd2 := HDW.out.below hb2
            have hj3 : ¬ q3 = bj1 := fun e => HZ3.out (e ▸ hsm2.zj)
            have hj6 : ¬ q6 = bj1 := fun e => HZ6.out (e ▸ hsm2.zj)
            have ht2 := hsm2.tick ho2 hMJ
            refine ⟨v0, st, W1, W2, hr1, hr2, lk1 w2 hsm2.joins, hmid, ⟨hd2, hsm2.c3⟩, ⟨hd2.off ho1 hj3 hj6, (ho1.cell (p := ⟨p, 3, none⟩) (hsm2.zlt p hsm2.zp) hsm2.pj).trans hsm2.c3⟩, ?_⟩
            refine DwI.step (HOFF1.out.trans (Off.of_below hb2)) (Z1 := Z1) HZN1.out ⟨_, _, _, _, ht2⟩ (ho2.mono (fun i hi => by subst hi; exact hsm2.zj)) (fun i hi => .inl hi) ?_
            rw [hevk, hy]
            exact HSK.out.join HM.out hc ra rb hea heb
          have HEND := Lib.hid hend
          have HNX2 : Hid (nx = f0 + madeN (P.ops.take (k + 1))) := Lib.hid (by rw [madeN_snoc hz, if_neg (by omega), Nat.add_zero]; exact HNX.out)
          have HS0 : Hid ((DwC q3 q6 nm t (.slice da dn dc) (.slice (some ⟨b, o, none⟩) n oc) z.kind z.a.at_ z.a.n z.b.at_ z.b.n (.slice la N lc) w1.drew ∧ w1.drew.cell? ⟨p, 3, none⟩ = some (.map (some bj1))) ∧ (Instr.lookup 72 (.map (some bj1)) (.agg #[.int .i64 (ea : Int), .int .i64 (eb : Int)]) false).run Tryz.prog w1.drew = .ok (.int .i64 y) w1.drew) := Lib.hid ⟨⟨hdw, c3⟩, lk1 _ hsm1.joins⟩
          have hyb : -1000000 ≤ y ∧ y ≤ 1000000 := by omega
          obtain ⟨hyb1, hyb2⟩ := hyb
          have i5 : IntKind.i64.wrap (y + 1) = y + 1 := by rw [IntKind.wrap_i64]; omega
          have i6 : IntKind.i64.wrap (y - 1) = y + -1 := by rw [IntKind.wrap_i64]; omega
          clear hyl hokp hwf hsc hcc c3 lk1 hend hy hl0 hxa hxb ra rb hea heb cb hlots hdB hevk hnxp hcst hsm1 hoff1 hzn hzn1 hz3 hz6 hsk hsm hoff hdw hpd p1 pb ps hvl e6 e0 e1 e2 e3 e4 e5 hN d6 hcl hclB hbw hz hid9 hcp HNXP HEV HHZ HE6 HCS HNN ea' eb'
          rcases hk23 with hkk | hkk
          · obtain ⟨K, ⟨ax, ay⟩, ⟨bx, bY⟩, ls⟩ := z
            simp only at d0 d1 d2 d3 d4 hkk HS0 HEND
            subst hkk
            go_wp2_with fail
            rw [← HQ6.out]
            rw [← HW1.out]
            refine wp_region_til (S := (fun W => (((W.cell? ⟨q3, 0, none⟩ = some (.string nm) ∧ W.cell? ⟨q3, 1, none⟩ = some (.string t) ∧ W.cell? ⟨q3, 2, none⟩ = some (.slice da dn dc) ∧ W.cell? ⟨q3, 3, none⟩ = some (.slice (some ⟨b, o, none⟩) n oc)) ∧ (W.cell? ⟨q6, 0, none⟩ = some (.int .i64 2) ∧ W.cell? ⟨q6, 1, none⟩ = some (.int .i64 ax) ∧ W.cell? ⟨q6, 2, none⟩ = some (.int .i64 ay) ∧ W.cell? ⟨q6, 3, none⟩ = some (.int .i64 bx) ∧ W.cell? ⟨q6, 4, none⟩ = some (.int .i64 bY) ∧ W.cell? ⟨q6, 5, none⟩ = some (.slice la N lc))) ∧ W.cell? ⟨p, 3, none⟩ = some (.map (some bj1))) ∧ (Instr.lookup 72 (.map (some bj1)) (.agg #[.int .i64 (ea : Int), .int .i64 (eb : Int)]) false).run Tryz.prog W = .ok (.int .i64 y) W)) 12 (by kernel_rfl) ?_ (fun hHeld => ?_)
            · exact HS0.out
            refine tkT 0 ⟨some 43, .move (.tmp 0), 68, "sketch.go:50", #[], none⟩ ?_
            try simp only [Act.put, List.setIfInBounds_toArray, List.set_cons_zero, List.set_cons_succ]
            refine tkT 1 ⟨some 44, .nilCheck (.tmp 43), 0, "sketch.go:50", #[⟨0, .data⟩], none⟩ ?_
            try simp only [Act.put, List.setIfInBounds_toArray, List.set_cons_zero, List.set_cons_succ]
            refine tkT 2 ⟨some 45, .fieldAddr 74 (.tmp 44) 3, 0, "sketch.go:50", #[⟨1, .data⟩], none⟩ ?_
            try simp only [Act.put, List.setIfInBounds_toArray, List.set_cons_zero, List.set_cons_succ]
            refine tkT 3 ⟨some 46, .load 72 (.tmp 45), 72, "sketch.go:50", #[⟨2, .data⟩], none⟩ ?_
            try simp only [Act.put, List.setIfInBounds_toArray, List.set_cons_zero, List.set_cons_succ]
            refine tkT 4 ⟨some 47, .move (.tmp 0), 68, "sketch.go:50", #[], none⟩ ?_
            try simp only [Act.put, List.setIfInBounds_toArray, List.set_cons_zero, List.set_cons_succ]
            refine tkT 5 ⟨some 48, .load 49 (.tmp 3), 49, "sketch.go:50", #[], none⟩ ?_
            try simp only [Act.put, List.setIfInBounds_toArray, List.set_cons_zero, List.set_cons_succ]
            refine tkT 6 ⟨some 49, .load 59 (.tmp 6), 59, "sketch.go:50", #[], none⟩ ?_
            try simp only [Act.put, List.setIfInBounds_toArray, List.set_cons_zero, List.set_cons_succ]
            refine til_one (i := 7) (o := ⟨some 50, .call { callee := Callee.value (Operand.func 57), args := #[.tmp 47, .tmp 48, .tmp 49], argTypes := #[68, 49, 59] }, 54, "sketch.go:50", #[⟨4, .data⟩, ⟨5, .data⟩, ⟨6, .data⟩], none⟩) (by kernel_rfl) rfl (fun KK hK => ?_)
            go_simp
            (with_reducible refine CB.out.mono ?_)
            rintro e w2 ⟨rfl, hb2⟩
            obtain ⟨v0, st, W1, W2, hr1, hr2, lk2, lkm, hd2, hdm, hdi⟩ := HEND.out (1) (by simp) w2 hb2
            (try simp only [goInt] at hr1 hr2)
            have HD2 := Lib.hid (And.intro hd2 lk2)
            have HDM := Lib.hid (And.intro hdm lkm)
            have HDI := Lib.hid hdi
            clear hb2 hd2 lk2 hdm lkm hdi
            refine hK.out _ _ ?_ (fun hHeld => ?_)
            · exact HD2.out
            clear hK KK
            try simp only [Act.put, List.setIfInBounds_toArray, List.set_cons_zero, List.set_cons_succ]
            refine tkT 8 ⟨some 51, .lookup 72 (.tmp 46) (.tmp 50) false, 3, "sketch.go:50", #[⟨3, .data⟩, ⟨7, .data⟩], none⟩ ?_
            try simp only [Act.put, List.setIfInBounds_toArray, List.set_cons_zero, List.set_cons_succ]
            refine tkT 9 ⟨some 52, .binOp BinOp.add 3 (.tmp 51) (.const (Value.int IntKind.i64 1)) 3, 3, "sketch.go:50", #[⟨8, .data⟩], none⟩ ?_
            try simp only [Act.put, List.setIfInBounds_toArray, List.set_cons_zero, List.set_cons_succ]
            refine til_one (i := 10) (o := ⟨some 53, .mapEntry 72 (.tmp 46) (.tmp 50), 0, "sketch.go:50", #[⟨3, .data⟩, ⟨7, .data⟩, ⟨7, .chain⟩, ⟨0, .phase⟩, ⟨1, .phase⟩, ⟨2, .phase⟩, ⟨3, .phase⟩, ⟨4, .phase⟩, ⟨5, .phase⟩, ⟨6, .phase⟩, ⟨7, .phase⟩, { on := 8, ground := Ground.textOnly Departure.mapOpAssignEntry }, { on := 9, ground := Ground.textOnly Departure.mapOpAssignEntry }], none⟩) (by kernel_rfl) rfl (fun KK hK => ?_)
            go_simp
            refine hK.out _ _ ?_ (fun hHeld => ?_)
            · exact HDM.out
            clear hK KK
            try simp only [Act.put, List.setIfInBounds_toArray, List.set_cons_zero, List.set_cons_succ]
            refine tkT 11 ⟨some 54, .extract (.tmp 53) 1, 3, "sketch.go:50", #[⟨10, .data⟩], none⟩ ?_
            try simp only [Act.put, List.setIfInBounds_toArray, List.set_cons_zero, List.set_cons_succ]
            refine til_last (o := ⟨none, .entryStore 72 (.tmp 46) (.tmp 54) (.tmp 52), 0, "sketch.go:50", #[⟨3, .data⟩, ⟨11, .data⟩, ⟨9, .data⟩, ⟨10, .chain⟩, ⟨0, .phase⟩, ⟨1, .phase⟩, ⟨2, .phase⟩, ⟨3, .phase⟩, ⟨4, .phase⟩, ⟨5, .phase⟩, ⟨6, .phase⟩, ⟨7, .phase⟩, ⟨8, .phase⟩, ⟨9, .phase⟩, ⟨10, .phase⟩, ⟨11, .phase⟩], none⟩) (by kernel_rfl) rfl (by kernel_rfl) (fun KK hK => ?_)
            go_simp
            refine hK.out _ _ ?_
            clear hK KK
            try simp only [Act.put, List.setIfInBounds_toArray, List.set_cons_zero, List.set_cons_succ]
            clear hr1 hr2 HD2 HDM HEND CB HDW HS0 d0 d1 d2 d3 d4 d5
            go_wp2_with fail
            exact ⟨⟨k + 1, nx, by omega, by go_num, by first | rfl | go_num, HNX2, HDI⟩, by simp [intOf]; omega⟩
          · obtain ⟨K, ⟨ax, ay⟩, ⟨bx, bY⟩, ls⟩ := z
            simp only at d0 d1 d2 d3 d4 hkk HS0 HEND
            subst hkk
            go_wp2_with fail
            rw [← HQ6.out]
            rw [← HW1.out]
            refine wp_region_til (S := (fun W => (((W.cell? ⟨q3, 0, none⟩ = some (.string nm) ∧ W.cell? ⟨q3, 1, none⟩ = some (.string t) ∧ W.cell? ⟨q3, 2, none⟩ = some (.slice da dn dc) ∧ W.cell? ⟨q3, 3, none⟩ = some (.slice (some ⟨b, o, none⟩) n oc)) ∧ (W.cell? ⟨q6, 0, none⟩ = some (.int .i64 3) ∧ W.cell? ⟨q6, 1, none⟩ = some (.int .i64 ax) ∧ W.cell? ⟨q6, 2, none⟩ = some (.int .i64 ay) ∧ W.cell? ⟨q6, 3, none⟩ = some (.int .i64 bx) ∧ W.cell? ⟨q6, 4, none⟩ = some (.int .i64 bY) ∧ W.cell? ⟨q6, 5, none⟩ = some (.slice la N lc))) ∧ W.cell? ⟨p, 3, none⟩ = some (.map (some bj1))) ∧ (Instr.lookup 72 (.map (some bj1)) (.agg #[.int .i64 (ea : Int), .int .i64 (eb : Int)]) false).run Tryz.prog W = .ok (.int .i64 y) W)) 12 (by kernel_rfl) ?_ (fun hHeld => ?_)
            · exact HS0.out
            refine tkT 0 ⟨some 57, .move (.tmp 0), 68, "sketch.go:52", #[], none⟩ ?_
            try simp only [Act.put, List.setIfInBounds_toArray, List.set_cons_zero, List.set_cons_succ]
            refine tkT 1 ⟨some 58, .nilCheck (.tmp 57), 0, "sketch.go:52", #[⟨0, .data⟩], none⟩ ?_
            try simp only [Act.put, List.setIfInBounds_toArray, List.set_cons_zero, List.set_cons_succ]
            refine tkT 2 ⟨some 59, .fieldAddr 74 (.tmp 58) 3, 0, "sketch.go:52", #[⟨1, .data⟩], none⟩ ?_
            try simp only [Act.put, List.setIfInBounds_toArray, List.set_cons_zero, List.set_cons_succ]
            refine tkT 3 ⟨some 60, .load 72 (.tmp 59), 72, "sketch.go:52", #[⟨2, .data⟩], none⟩ ?_
            try simp only [Act.put, List.setIfInBounds_toArray, List.set_cons_zero, List.set_cons_succ]
            refine tkT 4 ⟨some 61, .move (.tmp 0), 68, "sketch.go:52", #[], none⟩ ?_
            try simp only [Act.put, List.setIfInBounds_toArray, List.set_cons_zero, List.set_cons_succ]
            refine tkT 5 ⟨some 62, .load 49 (.tmp 3), 49, "sketch.go:52", #[], none⟩ ?_
            try simp only [Act.put, List.setIfInBounds_toArray, List.set_cons_zero, List.set_cons_succ]
            refine tkT 6 ⟨some 63, .load 59 (.tmp 6), 59, "sketch.go:52", #[], none⟩ ?_
            try simp only [Act.put, List.setIfInBounds_toArray, List.set_cons_zero, List.set_cons_succ]
            refine til_one (i := 7) (o := ⟨some 64, .call { callee := Callee.value (Operand.func 57), args := #[.tmp 61, .tmp 62, .tmp 63], argTypes := #[68, 49, 59] }, 54, "sketch.go:52", #[⟨4, .data⟩, ⟨5, .data⟩, ⟨6, .data⟩], none⟩) (by kernel_rfl) rfl (fun KK hK => ?_)
            go_simp
            (with_reducible refine CB.out.mono ?_)
            rintro e w2 ⟨rfl, hb2⟩
            obtain ⟨v0, st, W1, W2, hr1, hr2, lk2, lkm, hd2, hdm, hdi⟩ := HEND.out (-1) (by simp) w2 hb2
            (try simp only [goInt] at hr1 hr2)
            have HD2 := Lib.hid (And.intro hd2 lk2)
            have HDM := Lib.hid (And.intro hdm lkm)
            have HDI := Lib.hid hdi
            clear hb2 hd2 lk2 hdm lkm hdi
            refine hK.out _ _ ?_ (fun hHeld => ?_)
            · exact HD2.out
            clear hK KK
            try simp only [Act.put, List.setIfInBounds_toArray, List.set_cons_zero, List.set_cons_succ]
            refine tkT 8 ⟨some 65, .lookup 72 (.tmp 60) (.tmp 64) false, 3, "sketch.go:52", #[⟨3, .data⟩, ⟨7, .data⟩], none⟩ ?_
            try simp only [Act.put, List.setIfInBounds_toArray, List.set_cons_zero, List.set_cons_succ]
            refine tkT 9 ⟨some 66, .binOp BinOp.sub 3 (.tmp 65) (.const (Value.int IntKind.i64 1)) 3, 3, "sketch.go:52", #[⟨8, .data⟩], none⟩ ?_
            try simp only [Act.put, List.setIfInBounds_toArray, List.set_cons_zero, List.set_cons_succ]
            refine til_one (i := 10) (o := ⟨some 67, .mapEntry 72 (.tmp 60) (.tmp 64), 0, "sketch.go:52", #[⟨3, .data⟩, ⟨7, .data⟩, ⟨7, .chain⟩, ⟨0, .phase⟩, ⟨1, .phase⟩, ⟨2, .phase⟩, ⟨3, .phase⟩, ⟨4, .phase⟩, ⟨5, .phase⟩, ⟨6, .phase⟩, ⟨7, .phase⟩, { on := 8, ground := Ground.textOnly Departure.mapOpAssignEntry }, { on := 9, ground := Ground.textOnly Departure.mapOpAssignEntry }], none⟩) (by kernel_rfl) rfl (fun KK hK => ?_)
            go_simp
            refine hK.out _ _ ?_ (fun hHeld => ?_)
            · exact HDM.out
            clear hK KK
            try simp only [Act.put, List.setIfInBounds_toArray, List.set_cons_zero, List.set_cons_succ]
            refine tkT 11 ⟨some 68, .extract (.tmp 67) 1, 3, "sketch.go:52", #[⟨10, .data⟩], none⟩ ?_
            try simp only [Act.put, List.setIfInBounds_toArray, List.set_cons_zero, List.set_cons_succ]
            refine til_last (o := ⟨none, .entryStore 72 (.tmp 60) (.tmp 68) (.tmp 66), 0, "sketch.go:52", #[⟨3, .data⟩, ⟨11, .data⟩, ⟨9, .data⟩, ⟨10, .chain⟩, ⟨0, .phase⟩, ⟨1, .phase⟩, ⟨2, .phase⟩, ⟨3, .phase⟩, ⟨4, .phase⟩, ⟨5, .phase⟩, ⟨6, .phase⟩, ⟨7, .phase⟩, ⟨8, .phase⟩, ⟨9, .phase⟩, ⟨10, .phase⟩, ⟨11, .phase⟩], none⟩) (by kernel_rfl) rfl (by kernel_rfl) (fun KK hK => ?_)
            go_simp
            refine hK.out _ _ ?_
            clear hK KK
            try simp only [Act.put, List.setIfInBounds_toArray, List.set_cons_zero, List.set_cons_succ]
            clear hr1 hr2 HD2 HDM HEND CB HDW HS0 d0 d1 d2 d3 d4 d5
            go_wp2_with fail
            exact ⟨⟨k + 1, nx, by omega, by go_num, by first | rfl | go_num, HNX2, HDI⟩, by simp [intOf]; omega⟩
      · -- Delete, Revive
        have ea' := ra.lt HM.out
        obtain ⟨xa, hxa, _, _, hx1, hx2⟩ := hsk.at (idsR_at HM.out ra.id)
        have cb := gplace_any nm t P.deps (.slice da dn dc) (.slice (some ⟨b, o, none⟩) n oc) z.a w1.drew hsm1.c0 hcp hlots hdB (ra.refG hid9)
        rw [ra.plG HM.out] at cb
        obtain ⟨ea, hea⟩ : ∃ ea, ea = plR nil0 R (idR nm P.deps z.a) := ⟨_, rfl⟩
        rw [← hea] at cb hxa ea'
        have CB := Lib.hid cb
        obtain ⟨d, hd⟩ : ∃ d, d = xa.del := ⟨_, rfl⟩
        rw [← hd] at hx1 hx2
        obtain ⟨bv, cap, hvv, _, _, _, _, _, _⟩ := hsm1.rv.pos (by rw [hvl]; omega)
        obtain ⟨nv, hnv⟩ : ∃ nv, nv = S1.vs.length := ⟨_, rfl⟩
        rw [← hnv] at hvv hvl
        subst hvv
        have hean : ea < nv := by omega
        have hcv := hsm1.cellV hxa (i := 3) (u := .int .i64 d) (by rw [hd]; rfl)
        have hend : ∀ c : Int, ((z.kind = 4 ∧ c = 1) ∨ (z.kind = 5 ∧ c = -1)) → ∀ w2, Below w1.drew.heap.size w1.drew w2 → ((DwC q3 q6 nm t (.slice da dn dc) (.slice (some ⟨b, o, none⟩) n oc) z.kind z.a.at_ z.a.n z.b.at_ z.b.n (.slice la N lc) w2 ∧ w2.cell? ⟨p, 1, none⟩ = some (.slice (some ⟨bv, 0, none⟩) nv cap)) ∧ w2.cell? ⟨bv, ea * 8 + 3, none⟩ = some (.int .i64 d) ∧ w2.frozen? ⟨bv, ea * 8 + 3, none⟩ = false) ∧
            DwI Z W0 p R (L ++ evP nm 0 ((P.ops.take (k + 1)).map (gop nm P.deps))) (w2.setCell ⟨bv, ea * 8 + 3, none⟩ (.int .i64 (d + c))) := fun c hc w2 hb2 => by
          have hsm2 := HSM1.out.below hb2
          have hcv2 := hsm2.cellV hxa (i := 3) (u := .int .i64 d) (by rw [hd]; rfl)
          refine ⟨⟨⟨HDW.out.below hb2, hsm2.c1⟩, hcv2⟩, ?_⟩
          obtain ⟨hs3, ho3⟩ := hsm2.setV hxa (i := 3) (y := { xa with del := xa.del + c }) (u := .int .i64 (d + c)) (by decide) (by rw [hd]; rfl)
          refine DwI.step (HOFF1.out.trans (Off.of_below hb2)) (Z1 := Z1) HZN1.out ⟨_, _, _, _, hs3⟩ (ho3.mono (fun i hi => by subst hi; exact hsm2.zv _ rfl)) (fun i hi => .inl hi) ?_
          rw [hevk]
          exact HSK.out.delete HM.out hc ra hea hxa
        have HEND := Lib.hid hend
        have HNX2 : Hid (nx = f0 + madeN (P.ops.take (k + 1))) := Lib.hid (by rw [madeN_snoc hz, if_neg (by omega), Nat.add_zero]; exact HNX.out)
        have HS0 : Hid ((DwC q3 q6 nm t (.slice da dn dc) (.slice (some ⟨b, o, none⟩) n oc) z.kind z.a.at_ z.a.n z.b.at_ z.b.n (.slice la N lc) w1.drew ∧ w1.drew.cell? ⟨p, 1, none⟩ = some (.slice (some ⟨bv, 0, none⟩) nv cap)) ∧ w1.drew.cell? ⟨bv, ea * 8 + 3, none⟩ = some (.int .i64 d) ∧ w1.drew.frozen? ⟨bv, ea * 8 + 3, none⟩ = false) := Lib.hid ⟨⟨hdw, hsm1.c1⟩, hcv⟩
        have hyb : -1000000 ≤ d ∧ d ≤ 1000000 := by omega
        obtain ⟨hyb1, hyb2⟩ := hyb
        have i5 : IntKind.i64.wrap (d + 1) = d + 1 := by rw [IntKind.wrap_i64]; omega
        have i6 : IntKind.i64.wrap (d - 1) = d + -1 := by rw [IntKind.wrap_i64]; omega
        have hean0 : (0 : Int) ≤ (ea : Int) := by omega
        have hean1 : (ea : Int) < (nv : Int) := by omega
        clear hend hcv hx1 hx2 hd hxa ra hea cb hlots hdB hevk hnxp hcst hsm1 hoff1 hzn hzn1 hz3 hz6 hsk hsm hoff hdw hpd p1 pb ps hvl e6 e0 e1 e2 e3 e4 e5 hN d6 hcl hclB hbw hz hid9 hcp HNXP HEV HHZ HE6 HCS HNN ea' hl0 hnv
        rcases hkd with hkk | hkk
        · obtain ⟨K, ⟨ax, ay⟩, ⟨bx, bY⟩, ls⟩ := z
          simp only at d0 d1 d2 d3 d4 hkk HS0 HEND
          subst hkk
          go_wp2_with fail
          rw [← HQ6.out]
          rw [← HW1.out]
          refine wp_region_til (S := (fun W => (((W.cell? ⟨q3, 0, none⟩ = some (.string nm) ∧ W.cell? ⟨q3, 1, none⟩ = some (.string t) ∧ W.cell? ⟨q3, 2, none⟩ = some (.slice da dn dc) ∧ W.cell? ⟨q3, 3, none⟩ = some (.slice (some ⟨b, o, none⟩) n oc)) ∧ (W.cell? ⟨q6, 0, none⟩ = some (.int .i64 4) ∧ W.cell? ⟨q6, 1, none⟩ = some (.int .i64 ax) ∧ W.cell? ⟨q6, 2, none⟩ = some (.int .i64 ay) ∧ W.cell? ⟨q6, 3, none⟩ = some (.int .i64 bx) ∧ W.cell? ⟨q6, 4, none⟩ = some (.int .i64 bY) ∧ W.cell? ⟨q6, 5, none⟩ = some (.slice la N lc))) ∧ W.cell? ⟨p, 1, none⟩ = some (.slice (some ⟨bv, 0, none⟩) nv cap)) ∧ W.cell? ⟨bv, ea * 8 + 3, none⟩ = some (.int .i64 d) ∧ W.frozen? ⟨bv, ea * 8 + 3, none⟩ = false)) 15 (by kernel_rfl) ?_ (fun hHeld => ?_)
          · exact HS0.out
          refine tkT 0 ⟨some 71, .move (.tmp 0), 68, "sketch.go:54", #[], none⟩ ?_
          try simp only [Act.put, List.setIfInBounds_toArray, List.set_cons_zero, List.set_cons_succ]
          refine tkT 1 ⟨some 72, .nilCheck (.tmp 71), 0, "sketch.go:54", #[⟨0, .data⟩], none⟩ ?_
          try simp only [Act.put, List.setIfInBounds_toArray, List.set_cons_zero, List.set_cons_succ]
          refine tkT 2 ⟨some 73, .fieldAddr 74 (.tmp 72) 1, 0, "sketch.go:54", #[⟨1, .data⟩], none⟩ ?_
          try simp only [Act.put, List.setIfInBounds_toArray, List.set_cons_zero, List.set_cons_succ]
          refine tkT 3 ⟨some 74, .load 27 (.tmp 73), 27, "sketch.go:54", #[⟨2, .data⟩], none⟩ ?_
          try simp only [Act.put, List.setIfInBounds_toArray, List.set_cons_zero, List.set_cons_succ]
          refine tkT 4 ⟨some 75, .move (.tmp 0), 68, "sketch.go:54", #[], none⟩ ?_
          try simp only [Act.put, List.setIfInBounds_toArray, List.set_cons_zero, List.set_cons_succ]
          refine tkT 5 ⟨some 76, .load 49 (.tmp 3), 49, "sketch.go:54", #[], none⟩ ?_
          try simp only [Act.put, List.setIfInBounds_toArray, List.set_cons_zero, List.set_cons_succ]
          refine tkT 6 ⟨some 77, .fieldAddr 59 (.tmp 6) 1, 0, "sketch.go:54", #[], none⟩ ?_
          try simp only [Act.put, List.setIfInBounds_toArray, List.set_cons_zero, List.set_cons_succ]
          refine tkT 7 ⟨some 78, .load 57 (.tmp 77), 57, "sketch.go:54", #[⟨6, .data⟩], none⟩ ?_
          try simp only [Act.put, List.setIfInBounds_toArray, List.set_cons_zero, List.set_cons_succ]
          refine til_one (i := 8) (o := ⟨some 79, .call { callee := Callee.value (Operand.func 58), args := #[.tmp 75, .tmp 76, .tmp 78], argTypes := #[68, 49, 57] }, 3, "sketch.go:54", #[⟨4, .data⟩, ⟨5, .data⟩, ⟨7, .data⟩], none⟩) (by kernel_rfl) rfl (fun KK hK => ?_)
          go_simp
          (with_reducible refine CB.out.mono ?_)
          rintro e w2 ⟨rfl, hb2⟩
          obtain ⟨hd2, hdi⟩ := HEND.out (1) (by simp) w2 hb2
          have HD2 := Lib.hid hd2
          have HDI := Lib.hid hdi
          clear hb2 hd2 hdi
          refine hK.out _ _ ?_ (fun hHeld => ?_)
          · exact HD2.out
          clear hK KK
          try simp only [Act.put, List.setIfInBounds_toArray, List.set_cons_zero, List.set_cons_succ]
          refine tkT 9 ⟨some 80, .indexAddr 27 (.tmp 74) (.tmp 79), 0, "sketch.go:54", #[⟨3, .data⟩, ⟨8, .data⟩], none⟩ ?_
          try simp only [Act.put, List.setIfInBounds_toArray, List.set_cons_zero, List.set_cons_succ]
          refine tkT 10 ⟨some 81, .fieldAddr 42 (.tmp 80) 2, 0, "sketch.go:54", #[⟨9, .data⟩], none⟩ ?_
          try simp only [Act.put, List.setIfInBounds_toArray, List.set_cons_zero, List.set_cons_succ]
          refine tkT 11 ⟨some 82, .load 3 (.tmp 81), 3, "sketch.go:54", #[⟨10, .data⟩], none⟩ ?_
          try simp only [Act.put, List.setIfInBounds_toArray, List.set_cons_zero, List.set_cons_succ]
          refine tkT 12 ⟨some 83, .binOp BinOp.add 3 (.tmp 82) (.const (Value.int IntKind.i64 1)) 3, 3, "sketch.go:54", #[⟨11, .data⟩], none⟩ ?_
          try simp only [Act.put, List.setIfInBounds_toArray, List.set_cons_zero, List.set_cons_succ]
          refine til_one (i := 13) (o := ⟨some 84, .indexAddr 27 (.tmp 74) (.tmp 79), 0, "sketch.go:54", #[⟨3, .data⟩, ⟨8, .data⟩, ⟨0, .phase⟩, ⟨1, .phase⟩, ⟨2, .phase⟩, ⟨3, .phase⟩, ⟨4, .phase⟩, ⟨5, .phase⟩, ⟨6, .phase⟩, ⟨7, .phase⟩, ⟨8, .phase⟩, ⟨9, .phase⟩, ⟨10, .phase⟩, ⟨11, .phase⟩, ⟨12, .phase⟩], none⟩) (by kernel_rfl) rfl (fun KK hK => ?_)
          go_simp
          refine hK.out _ _ ?_ (fun hHeld => ?_)
          · exact HD2.out
          clear hK KK
          try simp only [Act.put, List.setIfInBounds_toArray, List.set_cons_zero, List.set_cons_succ]
          refine tkT 14 ⟨some 85, .fieldAddr 42 (.tmp 84) 2, 0, "sketch.go:54", #[⟨13, .data⟩, ⟨0, .phase⟩, ⟨1, .phase⟩, ⟨2, .phase⟩, ⟨3, .phase⟩, ⟨4, .phase⟩, ⟨5, .phase⟩, ⟨6, .phase⟩, ⟨7, .phase⟩, ⟨8, .phase⟩, ⟨9, .phase⟩, ⟨10, .phase⟩, ⟨11, .phase⟩, ⟨12, .phase⟩], none⟩ ?_
          try simp only [Act.put, List.setIfInBounds_toArray, List.set_cons_zero, List.set_cons_succ]
          refine til_last (o := ⟨none, .store 3 (.tmp 85) (.tmp 83), 0, "sketch.go:54", #[⟨14, .data⟩, ⟨12, .data⟩, ⟨8, .chain⟩, ⟨0, .phase⟩, ⟨1, .phase⟩, ⟨2, .phase⟩, ⟨3, .phase⟩, ⟨4, .phase⟩, ⟨5, .phase⟩, ⟨6, .phase⟩, ⟨7, .phase⟩, ⟨8, .phase⟩, ⟨9, .phase⟩, ⟨10, .phase⟩, ⟨11, .phase⟩, ⟨12, .phase⟩], none⟩) (by kernel_rfl) rfl (by kernel_rfl) (fun KK hK => ?_)
          go_simp
          obtain ⟨_, g1, gf⟩ := hHeld
          go_simp
          refine hK.out _ _ ?_
          clear hK KK
          try simp only [Act.put, List.setIfInBounds_toArray, List.set_cons_zero, List.set_cons_succ]
          clear HD2 HEND CB HDW HS0 d0 d1 d2 d3 d4 d5
          go_wp2_with fail
          exact ⟨⟨k + 1, nx, by omega, by go_num, by first | rfl | go_num, HNX2, HDI⟩, by simp [intOf]; omega⟩
        · obtain ⟨K, ⟨ax, ay⟩, ⟨bx, bY⟩, ls⟩ := z
          simp only at d0 d1 d2 d3 d4 hkk HS0 HEND
          subst hkk
          go_wp2_with fail
          rw [← HQ6.out]
          rw [← HW1.out]
          refine wp_region_til (S := (fun W => (((W.cell? ⟨q3, 0, none⟩ = some (.string nm) ∧ W.cell? ⟨q3, 1, none⟩ = some (.string t) ∧ W.cell? ⟨q3, 2, none⟩ = some (.slice da dn dc) ∧ W.cell? ⟨q3, 3, none⟩ = some (.slice (some ⟨b, o, none⟩) n oc)) ∧ (W.cell? ⟨q6, 0, none⟩ = some (.int .i64 5) ∧ W.cell? ⟨q6, 1, none⟩ = some (.int .i64 ax) ∧ W.cell? ⟨q6, 2, none⟩ = some (.int .i64 ay) ∧ W.cell? ⟨q6, 3, none⟩ = some (.int .i64 bx) ∧ W.cell? ⟨q6, 4, none⟩ = some (.int .i64 bY) ∧ W.cell? ⟨q6, 5, none⟩ = some (.slice la N lc))) ∧ W.cell? ⟨p, 1, none⟩ = some (.slice (some ⟨bv, 0, none⟩) nv cap)) ∧ W.cell? ⟨bv, ea * 8 + 3, none⟩ = some (.int .i64 d) ∧ W.frozen? ⟨bv, ea * 8 + 3, none⟩ = false)) 15 (by kernel_rfl) ?_ (fun hHeld => ?_)
          · exact HS0.out
          refine tkT 0 ⟨some 88, .move (.tmp 0), 68, "sketch.go:56", #[], none⟩ ?_
          try simp only [Act.put, List.setIfInBounds_toArray, List.set_cons_zero, List.set_cons_succ]
          refine tkT 1 ⟨some 89, .nilCheck (.tmp 88), 0, "sketch.go:56", #[⟨0, .data⟩], none⟩ ?_
          try simp only [Act.put, List.setIfInBounds_toArray, List.set_cons_zero, List.set_cons_succ]
          refine tkT 2 ⟨some 90, .fieldAddr 74 (.tmp 89) 1, 0, "sketch.go:56", #[⟨1, .data⟩], none⟩ ?_
          try simp only [Act.put, List.setIfInBounds_toArray, List.set_cons_zero, List.set_cons_succ]
          refine tkT 3 ⟨some 91, .load 27 (.tmp 90), 27, "sketch.go:56", #[⟨2, .data⟩], none⟩ ?_
          try simp only [Act.put, List.setIfInBounds_toArray, List.set_cons_zero, List.set_cons_succ]
          refine tkT 4 ⟨some 92, .move (.tmp 0), 68, "sketch.go:56", #[], none⟩ ?_
          try simp only [Act.put, List.setIfInBounds_toArray, List.set_cons_zero, List.set_cons_succ]
          refine tkT 5 ⟨some 93, .load 49 (.tmp 3), 49, "sketch.go:56", #[], none⟩ ?_
          try simp only [Act.put, List.setIfInBounds_toArray, List.set_cons_zero, List.set_cons_succ]
          refine tkT 6 ⟨some 94, .fieldAddr 59 (.tmp 6) 1, 0, "sketch.go:56", #[], none⟩ ?_
          try simp only [Act.put, List.setIfInBounds_toArray, List.set_cons_zero, List.set_cons_succ]
          refine tkT 7 ⟨some 95, .load 57 (.tmp 94), 57, "sketch.go:56", #[⟨6, .data⟩], none⟩ ?_
          try simp only [Act.put, List.setIfInBounds_toArray, List.set_cons_zero, List.set_cons_succ]
          refine til_one (i := 8) (o := ⟨some 96, .call { callee := Callee.value (Operand.func 58), args := #[.tmp 92, .tmp 93, .tmp 95], argTypes := #[68, 49, 57] }, 3, "sketch.go:56", #[⟨4, .data⟩, ⟨5, .data⟩, ⟨7, .data⟩], none⟩) (by kernel_rfl) rfl (fun KK hK => ?_)
          go_simp
          (with_reducible refine CB.out.mono ?_)
          rintro e w2 ⟨rfl, hb2⟩
          obtain ⟨hd2, hdi⟩ := HEND.out (-1) (by simp) w2 hb2
          have HD2 := Lib.hid hd2
          have HDI := Lib.hid hdi
          clear hb2 hd2 hdi
          refine hK.out _ _ ?_ (fun hHeld => ?_)
          · exact HD2.out
          clear hK KK
          try simp only [Act.put, List.setIfInBounds_toArray, List.set_cons_zero, List.set_cons_succ]
          refine tkT 9 ⟨some 97, .indexAddr 27 (.tmp 91) (.tmp 96), 0, "sketch.go:56", #[⟨3, .data⟩, ⟨8, .data⟩], none⟩ ?_
          try simp only [Act.put, List.setIfInBounds_toArray, List.set_cons_zero, List.set_cons_succ]
          refine tkT 10 ⟨some 98, .fieldAddr 42 (.tmp 97) 2, 0, "sketch.go:56", #[⟨9, .data⟩], none⟩ ?_
          try simp only [Act.put, List.setIfInBounds_toArray, List.set_cons_zero, List.set_cons_succ]
          refine tkT 11 ⟨some 99, .load 3 (.tmp 98), 3, "sketch.go:56", #[⟨10, .data⟩], none⟩ ?_
          try simp only [Act.put, List.setIfInBounds_toArray, List.set_cons_zero, List.set_cons_succ]
          refine tkT 12 ⟨some 100, .binOp BinOp.sub 3 (.tmp 99) (.const (Value.int IntKind.i64 1)) 3, 3, "sketch.go:56", #[⟨11, .data⟩], none⟩ ?_
          try simp only [Act.put, List.setIfInBounds_toArray, List.set_cons_zero, List.set_cons_succ]
          refine til_one (i := 13) (o := ⟨some 101, .indexAddr 27 (.tmp 91) (.tmp 96), 0, "sketch.go:56", #[⟨3, .data⟩, ⟨8, .data⟩, ⟨0, .phase⟩, ⟨1, .phase⟩, ⟨2, .phase⟩, ⟨3, .phase⟩, ⟨4, .phase⟩, ⟨5, .phase⟩, ⟨6, .phase⟩, ⟨7, .phase⟩, ⟨8, .phase⟩, ⟨9, .phase⟩, ⟨10, .phase⟩, ⟨11, .phase⟩, ⟨12, .phase⟩], none⟩) (by kernel_rfl) rfl (fun KK hK => ?_)
          go_simp
          refine hK.out _ _ ?_ (fun hHeld => ?_)
          · exact HD2.out
          clear hK KK
          try simp only [Act.put, List.setIfInBounds_toArray, List.set_cons_zero, List.set_cons_succ]
          refine tkT 14 ⟨some 102, .fieldAddr 42 (.tmp 101) 2, 0, "sketch.go:56", #[⟨13, .data⟩, ⟨0, .phase⟩, ⟨1, .phase⟩, ⟨2, .phase⟩, ⟨3, .phase⟩, ⟨4, .phase⟩, ⟨5, .phase⟩, ⟨6, .phase⟩, ⟨7, .phase⟩, ⟨8, .phase⟩, ⟨9, .phase⟩, ⟨10, .phase⟩, ⟨11, .phase⟩, ⟨12, .phase⟩], none⟩ ?_
          try simp only [Act.put, List.setIfInBounds_toArray, List.set_cons_zero, List.set_cons_succ]
          refine til_last (o := ⟨none, .store 3 (.tmp 102) (.tmp 100), 0, "sketch.go:56", #[⟨14, .data⟩, ⟨12, .data⟩, ⟨8, .chain⟩, ⟨0, .phase⟩, ⟨1, .phase⟩, ⟨2, .phase⟩, ⟨3, .phase⟩, ⟨4, .phase⟩, ⟨5, .phase⟩, ⟨6, .phase⟩, ⟨7, .phase⟩, ⟨8, .phase⟩, ⟨9, .phase⟩, ⟨10, .phase⟩, ⟨11, .phase⟩, ⟨12, .phase⟩], none⟩) (by kernel_rfl) rfl (by kernel_rfl) (fun KK hK => ?_)
          go_simp
          obtain ⟨_, g1, gf⟩ := hHeld
          go_simp
          refine hK.out _ _ ?_
          clear hK KK
          try simp only [Act.put, List.setIfInBounds_toArray, List.set_cons_zero, List.set_cons_succ]
          clear HD2 HEND CB HDW HS0 d0 d1 d2 d3 d4 d5
          go_wp2_with fail
          exact ⟨⟨k + 1, nx, by omega, by go_num, by first | rfl | go_num, HNX2, HDI⟩, by simp [intOf]; omega⟩
    · have hkn : k = n := by omega
      subst hkn
      have hf := HFIN.out wr _ HD.out
      rw [List.take_of_length_le (by rw [← HN.out]; exact Nat.le_refl _)] at hf
      have HF := Lib.hid hf
      clear hf
      go_wp2_with fail
      first
        | (go_ret; exact ⟨rfl, HF.out⟩)
        | exact bodyPost_end (v := .tuple #[]) (by simp [results, Tryz.results27, go_sem]) rfl ⟨rfl, HF.out⟩
end Go.Proofs.YtojnagonhihknaaGreatDoor
