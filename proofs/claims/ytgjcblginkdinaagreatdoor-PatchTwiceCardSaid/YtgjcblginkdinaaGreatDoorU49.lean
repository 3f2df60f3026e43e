/- The law PatchTwice answers true. -/
import Derived.Test.YtgjcblginkdinaaGreatDoorU45
import Derived.Test.YtgjcblginkdinaaGreatDoorU48
set_option linter.unusedVariables false
namespace Go.Proofs.YtgjcblginkdinaaGreatDoor
open Go.ChangeShapes Go.WideShapes Go.ChangeAt Go.RowKit Go.WideMaps Go.Maps

theorem keyP {p : Pt} {da : Option Addr} {m dc : Nat} (hf : p.fine) (hr : rightP p = true) (hm : m = p.deps.length) {o : Opp} (ho : o ∈ p.ops) (h1 : o.kind ≠ 1) (nm : ByteArray) (hn : nm.size ≤ 140737488355328) (W : World) (hd : Reads W (.slice da m dc) p.deps) :
    Calls Tryz.prog 27 #[.int .i64 o.kind, .slice da m dc, .string nm, rfV o.a, rfV o.b] W fun e w' => e = .returned (.string (keyB o.kind p.deps nm o.a o.b)) ∧ Below W.heap.size W w' := by
  obtain ⟨h2, h3⟩ := (right_refs hr o ho).2 h1
  have hk := kinds5 hr o ho
  have hrf : ∀ r : Rf, r.okR p.deps.length → 0 ≤ r.at_ → r.at_ < m := fun r h h0 => by
    rw [hm]
    rcases h with h | h | h <;> omega
  exact key_any o.kind p.deps da m dc nm o.a o.b W (by omega) (by omega) hd hm (hrf _ h2) (fun h => hrf _ (h3 h)) (name_size hf.deps hn _) (fun _ => name_size hf.deps hn _)
theorem keyN {p : Pt} {da : Option Addr} {m dc : Nat} (hf : p.fine) (hm : m = p.deps.length) (i : Int) (nm : ByteArray) (hn : nm.size ≤ 140737488355328) (W : World) (hd : Reads W (.slice da m dc) p.deps) :
    Calls Tryz.prog 27 #[.int .i64 5, .slice da m dc, .string nm, .agg #[.int .i64 (-2), .int .i64 i], .agg #[.int .i64 0, .int .i64 0]] W fun e w' => e = .returned (.string (keyB 5 p.deps nm ⟨-2, i⟩ ⟨0, 0⟩)) ∧ Below W.heap.size W w' :=
  key_any 5 p.deps da m dc nm ⟨-2, i⟩ ⟨0, 0⟩ W (by omega) (by omega) hd hm (fun h => absurd h (by show ¬ ((0 : Int) ≤ -2); decide)) (fun h => by omega) (name_size hf.deps hn _) (fun h => by omega)

set_option maxHeartbeats 8000000 in
set_option maxRecDepth 100000 in
theorem ptlaw (p : Pt) (dv ov : Value) (w : World) (hp : PReads w p.note dv ov p) (hf : p.fine) (hl : ∀ o ∈ p.ops, o.lines.length ≤ 140737488355328) (he : Env w) (hk : HasK w) :
    Calls Tryz.prog 6 #[ptV p.note dv ov] w fun e w' => e = .returned (.bool true) ∧ Below w.heap.size w w' := by
  obtain ⟨da, dc, hdv, _⟩ := hp.deps.form
  obtain ⟨oa, oc, hov, _⟩ := hp.ops.form
  subst hdv; subst hov
  obtain ⟨m, hm⟩ : ∃ m, m = p.deps.length := ⟨_, rfl⟩
  obtain ⟨n, hn⟩ : ∃ n, n = p.ops.length := ⟨_, rfl⟩
  have c0 : ∀ wz, Below w.heap.size w wz → Calls Tryz.prog 8 #[] wz fun e w' => e = .returned (.bool true) ∧ Below wz.heap.size wz w' := fun wz hz => pawake_any wz (he.below hz) (hk.below hz)
  have c1 : ∀ wz, Below w.heap.size w wz → Calls Tryz.prog 9 #[ptV p.note (.slice da m dc) (.slice oa n oc)] wz fun e w' => e = .returned (.bool (smallP p)) ∧ Below wz.heap.size wz w' := fun wz hz => by
    rw [hm, hn]; exact psmall_any p _ _ wz (hp.below hz) hl
  have c2 : ∀ wz, Below w.heap.size w wz → Calls Tryz.prog 23 #[ptV p.note (.slice da m dc) (.slice oa n oc)] wz fun e w' => (∃ qa ql qc oa ol oc, e = .returned (.tuple #[ptV (ansI p).note (.slice qa ql qc) (.slice oa ol oc), errI p]) ∧ PReads w' (ansI p).note (.slice qa ql qc) (.slice oa ol oc) (ansI p)) ∧ Below wz.heap.size wz w' := fun wz hz => by
    rw [hm, hn]; exact pinv_ans p _ _ wz (hp.below hz) hf (he.tab.below hz) (hk.below hz)
  have c3 : codeI p = 0 → ∀ d1 o1 wz, Below w.heap.size w wz → PReads wz (ansI p).note d1 o1 (ansI p) → Calls Tryz.prog 23 #[ptV (ansI p).note d1 o1] wz fun e w' => (∃ qa ql qc oa ol oc, e = .returned (.tuple #[ptV (ansI (ansI p)).note (.slice qa ql qc) (.slice oa ol oc), errI (ansI p)]) ∧ PReads w' (ansI (ansI p)).note (.slice qa ql qc) (.slice oa ol oc) (ansI (ansI p))) ∧ Below wz.heap.size wz w' := fun h0 d1 o1 wz hz h1 => by
    obtain ⟨r1, r2, e1⟩ := ansI_yes h0
    exact pinv_ans (ansI p) d1 o1 wz h1 (by rw [e1]; exact inv_fine hf r1) (he.tab.below hz) (hk.below hz)
  have c4 : codeI p = 0 → ∀ wz, Below w.heap.size w wz → Calls Tryz.prog 12 #[ptV p.note (.slice da m dc) (.slice oa n oc)] wz fun e w' => e = .returned (.tuple #[.string (tx (nameP p)), .nilIface]) ∧ Below wz.heap.size wz w' := fun h0 wz hz => by
    have h := pname_any p _ _ wz (hp.below hz) hf (he.tab.below hz) (hk.below hz)
    have e1 : wrV p = .nilIface := if_pos (ansI_yes h0).1
    rw [e1] at h
    rw [hm, hn]; exact h
  have hnsz : (tx (nameP p)).size ≤ 140737488355328 := Nat.le_trans (nameP_size p) (by decide)
  have c5 : codeI p = 0 → ∀ (o : Opp) wz, o ∈ p.ops → o.kind ≠ 1 → Below w.heap.size w wz → Calls Tryz.prog 27 #[.int .i64 o.kind, .slice da m dc, .string (tx (nameP p)), rfV o.a, rfV o.b] wz fun e w' => e = .returned (.string (keyB o.kind p.deps (tx (nameP p)) o.a o.b)) ∧ Below wz.heap.size wz w' := fun h0 o wz ho h1 hz =>
    keyP hf (ansI_yes h0).1 hm ho h1 _ hnsz wz (by rw [hm]; exact hp.deps.below hz)
  have c6 : ∀ (i : Int) wz, Below w.heap.size w wz → Calls Tryz.prog 27 #[.int .i64 5, .slice da m dc, .string (tx (nameP p)), .agg #[.int .i64 (-2), .int .i64 i], .agg #[.int .i64 0, .int .i64 0]] wz fun e w' => e = .returned (.string (keyB 5 p.deps (tx (nameP p)) ⟨-2, i⟩ ⟨0, 0⟩)) ∧ Below wz.heap.size wz w' := fun i wz hz =>
    keyN hf hm i _ hnsz wz (by rw [hm]; exact hp.deps.below hz)
  have c7 : codeI p = 0 → codeI (ansI p) = 0 → ∀ (o : Opp) (qa : Option Addr) (ql qc : Nat) wz, ql = (ansI (ansI p)).deps.length → o ∈ (ansI (ansI p)).ops → Reads wz (.slice qa ql qc) (ansI (ansI p)).deps → Calls Tryz.prog 27 #[.int .i64 o.kind, .slice qa ql qc, .string ⟨#[]⟩, rfV o.a, rfV o.b] wz fun e w' => e = .returned (.string (keyB o.kind (ansI (ansI p)).deps ByteArray.empty o.a o.b)) ∧ Below wz.heap.size wz w' := fun h0 h1 o qa ql qc wz hq ho hz => by
    obtain ⟨r1, r2, e1⟩ := ansI_yes h0
    obtain ⟨r3, r4, e2⟩ := ansI_yes h1
    have e3 : ansI (ansI p) = invP (invP p) := by rw [e2, e1]
    rw [e1] at r3 r4
    rw [e3] at hq ho hz ⊢
    exact keyP (inv_fine (inv_fine hf r1) r3) r4 hq ho (invI_no1 _ _ _ _ _ o ho) _ (by decide) wz hz
  have hkeys : codeI p = 0 → codeI (ansI p) = 0 → keysR (ansI (ansI p)).deps (ansI (ansI p)).ops = keysP p.deps (tx (nameP p)) 0 p.ops ∧ (keysP p.deps (tx (nameP p)) 0 p.ops).length ≤ 700 ∧ p.ops.length ≤ 400 ∧ (ansI (ansI p)).ops.length ≤ 400 ∧ linesN p.ops ≤ 300 := fun h0 h1 => by
    obtain ⟨r1, r2, e1⟩ := ansI_yes h0
    obtain ⟨r3, r4, e2⟩ := ansI_yes h1
    have e3 : ansI (ansI p) = invP (invP p) := by rw [e2, e1]
    rw [e3]
    obtain ⟨s1, s2, s3⟩ := right_small r1
    rw [e1] at r4
    have := keysP_len p.deps (tx (nameP p)) p.ops 0
    exact ⟨twice_keys r1, by omega, s1, (right_small r4).1, s3⟩
  have hszP : ∀ s, s ∈ keysP p.deps (tx (nameP p)) 0 p.ops → s.size ≤ maxLen := by
    have gen : ∀ (l : List Opp) (k : Nat), ∀ s ∈ keysP p.deps (tx (nameP p)) k l, s.size ≤ maxLen := by
      intro l
      induction l with
      | nil => intro k s hs; cases hs
      | cons o r ih =>
        intro k s hs
        simp only [keysP, List.mem_append] at hs
        rcases hs with hs | hs
        · have hb : ∀ (kk : Int) (x y : Rf), (keyB kk p.deps (tx (nameP p)) x y).size ≤ maxLen := fun kk x y => Nat.le_trans (key_size (name_size hf.deps hnsz _) (fun _ => name_size hf.deps hnsz _)) (by unfold maxLen; omega)
          split at hs
          · obtain ⟨j, _, rfl⟩ := List.mem_map.1 hs
            exact hb _ _ _
          · rw [List.mem_singleton] at hs
            rw [hs]; exact hb _ _ _
        · exact ih _ s hs
    exact gen p.ops 0
  rw [← hm, ← hn]
  have hOps := hp.ops
  rw [← hn] at hOps
  obtain ⟨t, htt⟩ : ∃ t, t = p.note := ⟨_, rfl⟩
  rw [← htt] at c1 c2 c4 ⊢
  obtain ⟨s1, hs1⟩ : ∃ s, s = smallP p := ⟨_, rfl⟩
  rw [← hs1] at c1
  obtain ⟨Y, hY⟩ : ∃ X, X = tx (nameP p) := ⟨_, rfl⟩
  rw [← hY] at c4 c5 c6 hkeys hszP
  obtain ⟨ev, hev⟩ : ∃ v, v = errI p := ⟨_, rfl⟩
  obtain ⟨kk, hkk⟩ : ∃ v, v = codeI p := ⟨_, rfl⟩
  obtain ⟨q, hq⟩ : ∃ q, q = ansI p := ⟨_, rfl⟩
  have hcase : (kk = 0 ∧ ev = .nilIface) ∨ (kk ≠ 0 ∧ ev = errV kk) := by
    rw [hev, hkk]; unfold errI
    by_cases h : codeI p = 0
    · exact .inl ⟨h, if_pos h⟩
    · exact .inr ⟨h, if_neg h⟩
  rw [← hev] at c2
  rw [← hkk] at c3 c4 c5 c7 hkeys
  rw [← hq] at c2 c3 c7 hkeys
  obtain ⟨ev2, hev2⟩ : ∃ v, v = errI q := ⟨_, rfl⟩
  obtain ⟨kk2, hkk2⟩ : ∃ v, v = codeI q := ⟨_, rfl⟩
  obtain ⟨r, hr⟩ : ∃ q2, q2 = ansI q := ⟨_, rfl⟩
  have hcase2 : (kk2 = 0 ∧ ev2 = .nilIface) ∨ (kk2 ≠ 0 ∧ ev2 = errV kk2) := by
    rw [hev2, hkk2]; unfold errI
    by_cases h : codeI q = 0
    · exact .inl ⟨h, if_pos h⟩
    · exact .inr ⟨h, if_neg h⟩
  rw [← hev2] at c3
  rw [← hkk2] at c7 hkeys
  rw [← hr] at c3 c7 hkeys
  obtain ⟨qn, hqn⟩ : ∃ x, x = q.note := ⟨_, rfl⟩
  obtain ⟨rn, hrn⟩ : ∃ x, x = r.note := ⟨_, rfl⟩
  rw [← hqn] at c2 c3
  rw [← hrn] at c3
  have HST := Lib.hid (rt_new w t (.slice da m dc) (.slice oa n oc) 25)
  have C0 := Lib.hid c0
  have C1 := Lib.hid c1
  have C2 := Lib.hid c2
  have C3 := Lib.hid c3
  have C4 := Lib.hid c4
  have C5 := Lib.hid c5
  have C6 := Lib.hid c6
  have C7 := Lib.hid c7
  have HKE := Lib.hid hkeys
  have HSZ := Lib.hid hszP
  have HCA := Lib.hid hcase
  have HCB := Lib.hid hcase2
  have HO := Lib.hid hOps
  have HN := Lib.hid hn
  clear c0 c1 c2 c3 c4 c5 c6 c7 hkeys hszP hcase hcase2 hOps hm hn htt hp hf he hk hs1 hY hev hkk hq hev2 hkk2 hr hqn hrn hl hnsz
  cases s1 with
  | false =>
    clear C2 C3 C4 C5 C6 C7
    go_enter Tryz.func6, Tryz.ntmps6
    go_wp2_with fail
    refine (C0.out _ HST.out.2).mono ?_
    rintro e w1 ⟨rfl, hb⟩
    obtain ⟨⟨q0, q1, q2⟩, hB⟩ := rt_call hb HST.out
    have QB := Lib.hid hB
    clear hb hB
    go_wp2_with fail
    refine (C1.out _ QB.out).mono ?_
    rintro e w2 ⟨rfl, hb⟩
    have QB2 := Lib.hid (QB.out.trans (hb.mono QB.out.size))
    clear hb
    go_wp2_with fail
    go_ret
    exact ⟨rfl, QB2.out⟩
  | true =>
    have hmm := @run_makeMap Tryz.prog
    go_enter Tryz.func6, Tryz.ntmps6
    go_wp2_with fail
    refine (C0.out _ HST.out.2).mono ?_
    rintro e w1 ⟨rfl, hb⟩
    have H1 := Lib.hid (rt_call hb HST.out)
    clear hb
    obtain ⟨⟨q0, q1, q2⟩, _⟩ := H1.out
    go_wp2_with fail
    refine (C1.out _ H1.out.2).mono ?_
    rintro e w2 ⟨rfl, hb⟩
    have H2 := Lib.hid (rt_call hb H1.out)
    clear hb q0 q1 q2
    obtain ⟨⟨q0, q1, q2⟩, _⟩ := H2.out
    go_wp2_with fail
    refine (C2.out _ H2.out.2).mono ?_
    rintro e w3 ⟨⟨a1, l1, c1, a2, l2, c2, rfl, hr⟩, hb⟩
    have hal : Below w3.heap.size w3 (w3.alloc (.cells #[.string qn, .slice a1 l1 c1, .slice a2 l2 c2] 25)) := (Below.refl _ _).alloc (Nat.le_refl _) _
    have H3 := Lib.hid (rt_call hal (rt_call hb H2.out))
    have P3 := Lib.hid (pb_new w3 qn (.slice a1 l1 c1) (.slice a2 l2 c2) 25)
    have R3 := Lib.hid (hr.below hal)
    clear hb q0 q1 q2 hal hr
    obtain ⟨⟨q0, q1, q2⟩, _⟩ := H3.out
    obtain ⟨u0, u1, u2⟩ := P3.out
    rcases HCA.out with ⟨rfl, rfl⟩ | ⟨hk0, rfl⟩
    · go_wp2_with fail
      refine (C3.out (by first | rfl | trivial) _ _ _ H3.out.2 R3.out).mono ?_
      rintro e w4 ⟨⟨a3, l3, c3, a4, l4, c4, rfl, hr⟩, hb⟩
      have hal : Below w4.heap.size w4 (w4.alloc (.cells #[.string rn, .slice a3 l3 c3, .slice a4 l4 c4] 25)) := (Below.refl _ _).alloc (Nat.le_refl _) _
      have H4 := Lib.hid (rt_call hal (rt_call hb H3.out))
      have U4 := Lib.hid (pb_new w4 rn (.slice a3 l3 c3) (.slice a4 l4 c4) 25)
      have V4 := Lib.hid (hr.below hal)
      clear hb q0 q1 q2 u0 u1 u2 hal hr
      obtain ⟨⟨q0, q1, q2⟩, _⟩ := H4.out
      rcases HCB.out with ⟨rfl, rfl⟩ | ⟨hk0, rfl⟩
      · have hbm : Below (w4.alloc (.cells #[.string rn, .slice a3 l3 c3, .slice a4 l4 c4] 25)).heap.size (w4.alloc (.cells #[.string rn, .slice a3 l3 c3, .slice a4 l4 c4] 25)) (((w4.alloc (.cells #[.string rn, .slice a3 l3 c3, .slice a4 l4 c4] 25)).alloc (.map #[] 0)).alloc (.map #[] 0)) :=
          ((Below.refl _ _).alloc (Nat.le_refl _) _).alloc (by simp) _
        have hOA : OM (((w4.alloc (.cells #[.string rn, .slice a3 l3 c3, .slice a4 l4 c4] 25)).alloc (.map #[] 0)).alloc (.map #[] 0)) (w4.heap.size + 1) [] := by
          have h := om_made (w4.alloc (.cells #[.string rn, .slice a3 l3 c3, .slice a4 l4 c4] 25))
          rw [show (w4.alloc (.cells #[.string rn, .slice a3 l3 c3, .slice a4 l4 c4] 25)).heap.size = w4.heap.size + 1 by simp] at h
          exact om_below h ((Below.refl _ _).alloc (Nat.le_refl _) _)
        have hOB : OM (((w4.alloc (.cells #[.string rn, .slice a3 l3 c3, .slice a4 l4 c4] 25)).alloc (.map #[] 0)).alloc (.map #[] 0)) (w4.heap.size + 1 + 1) [] := by
          have h := om_made ((w4.alloc (.cells #[.string rn, .slice a3 l3 c3, .slice a4 l4 c4] 25)).alloc (.map #[] 0))
          rw [show ((w4.alloc (.cells #[.string rn, .slice a3 l3 c3, .slice a4 l4 c4] 25)).alloc (.map #[] 0)).heap.size = w4.heap.size + 1 + 1 by simp] at h
          exact h
        obtain ⟨wb, hwb⟩ : ∃ z, z = w4.alloc (.cells #[.string rn, .slice a3 l3 c3, .slice a4 l4 c4] 25) := ⟨_, rfl⟩
        have hsb : wb.heap.size = w4.heap.size + 1 := by rw [hwb]; simp
        rw [← hwb] at hbm hOA hOB H4 U4 V4
        have HBM := Lib.hid hbm
        have HOA := Lib.hid hOA
        have HOB := Lib.hid hOB
        have HWB := Lib.hid hwb
        have HSB := Lib.hid hsb
        clear hbm hOA hOB q0 q1 q2 hsb
        obtain ⟨⟨q0, q1, q2⟩, _⟩ := rt_call HBM.out H4.out
        rw [hwb] at q0 q1 q2
        clear hwb
        go_wp2_with fail
        rw [← HWB.out]
        refine (C4.out (by first | rfl | trivial) _ (rt_call HBM.out H4.out).2).mono ?_
        rintro e w6 ⟨rfl, hb⟩
        have H6 := Lib.hid (HBM.out.trans (hb.mono HBM.out.size))
        have A6 := Lib.hid (om_below HOA.out hb)
        have B6 := Lib.hid (om_below HOB.out hb)
        clear hb q0 q1 q2
        obtain ⟨⟨q0, q1, q2⟩, _⟩ := rt_call H6.out H4.out
        obtain ⟨bA, hbA⟩ : ∃ z, z = w4.heap.size + 1 := ⟨_, rfl⟩
        rw [← hbA] at A6 B6 HSB ⊢
        clear hbA
        go_wp2_with fail
        clear q0 q1 q2
        have hn4 : n ≤ 400 := by have := (HKE.out (by first | rfl | trivial) (by first | rfl | trivial)).2.2.1; rw [← HN.out] at this; exact this
        have hl4 : r.ops.length ≤ 400 := (HKE.out (by first | rfl | trivial) (by first | rfl | trivial)).2.2.2.1
        go_loopw [10, 46] (fun ow i W => ∃ k : Nat, k ≤ n ∧ i = .int .i64 (k : Nat) ∧ ow = .int .i64 (madeN (p.ops.take k) : Nat) ∧ Hid (Below wb.heap.size wb W) ∧ Hid (OM W bA (keysP p.deps Y 0 (p.ops.take k))) ∧ Hid (OM W (bA + 1) [])) (fun _ i _ => n - (intOf i).toNat)
        case atStart => exact ⟨0, Nat.zero_le _, rfl, rfl, H6, A6, B6⟩
        case round => as_aux_lemma =>
          obtain ⟨wo, rfl⟩ : ∃ z, z = wr := ⟨wr, rfl⟩
          obtain ⟨k, hk, rfl, rfl, HB, HA, HBB⟩ := hrel
          by_cases hlt : k < n
          · obtain ⟨x, hx⟩ : ∃ x, p.ops[k]? = some x := ⟨p.ops[k]'(by rw [← HN.out]; exact hlt), by simp⟩
            obtain ⟨b, o, rfl, hnl, hcl⟩ := HO.out.at hx
            clear hnl
            obtain ⟨⟨q0, q1, q2⟩, hbw⟩ := rt_call HB.out H4.out
            obtain ⟨lv, d0, d1, d2, d3, d4, d5, d6⟩ := (hcl.below hbw).2 k x hx
            obtain ⟨la, lc, hlv, _⟩ := d6.form
            obtain ⟨N, hN⟩ : ∃ N, N = x.lines.length := ⟨_, rfl⟩
            rw [← hN] at hlv
            subst hlv
            have hxm := List.mem_of_getElem? hx
            obtain ⟨pre, hpre⟩ : ∃ l, l = keysP p.deps Y 0 (p.ops.take k) := ⟨_, rfl⟩
            obtain ⟨M, hM⟩ : ∃ l, l = madeN (p.ops.take k) := ⟨_, rfl⟩
            have hnext := keysP_take (deps := p.deps) (nm := Y) hx
            have hmn := madeN_tk hx
            have hall : ∀ l, keysP p.deps Y 0 (p.ops.take (k + 1)) = l → l.length ≤ 700 ∧ ∀ s ∈ l, s.size ≤ maxLen := fun l hl => by
              have hsub : keysP p.deps Y 0 p.ops = l ++ keysP p.deps Y (0 + madeN (p.ops.take (k + 1))) (p.ops.drop (k + 1)) := by
                rw [← hl, ← keysP_app, List.take_append_drop]
              have h7 := (HKE.out (by first | rfl | trivial) (by first | rfl | trivial)).2.1
              have hs := HSZ.out
              rw [hsub] at h7 hs
              rw [List.length_append] at h7
              exact ⟨by omega, fun s h => hs s (List.mem_append.2 (.inl h))⟩
            rw [← hpre, ← hM] at hnext
            rw [← hM] at hmn ⊢
            rw [← hpre] at HA
            have HNX := Lib.hid hnext
            have HMN := Lib.hid hmn
            have HAL := Lib.hid hall
            have HNL := Lib.hid hN
            have HXM := Lib.hid hxm
            have HMP : Hid (M ≤ pre.length) := Lib.hid (by rw [hpre, hM]; exact made_keys _ _ _ _)
            have hal := (Below.refl wo.heap.size wo).alloc (Nat.le_refl _) (.cells #[.int .i64 x.kind, .int .i64 x.a.at_, .int .i64 x.a.n, .int .i64 x.b.at_, .int .i64 x.b.n, .slice la N lc] 56)
            have HBa := Lib.hid (HB.out.trans (hal.mono HB.out.size))
            have HAa := Lib.hid (om_below HA.out hal)
            have HBb := Lib.hid (om_below HBB.out hal)
            have hbsz : bA + 1 ≤ wo.heap.size := by have := om_lt HBB.out; omega
            have hBA : wb.heap.size ≤ bA := by rw [HSB.out]; exact Nat.le_refl _
            have hwz := HB.out.size
            clear hx hN hpre hM hnext hmn hall hxm hcl d6 hal hbw HA HB HBB
            obtain ⟨K, ⟨x1, y1⟩, ⟨x2, y2⟩, ls⟩ := x
            simp only at d0 d1 d2 d3 d4 HNX HMN HNL HXM HBa HAa HBb
            have qa := (rt_call HBa.out H4.out)
            have e0 : (wo.alloc (.cells #[.int .i64 K, .int .i64 x1, .int .i64 y1, .int .i64 x2, .int .i64 y2, .slice la N lc] 56)).cell? ⟨wo.heap.size, 0, none⟩ = some (.int .i64 K) := World.cell?_alloc_at _ _ _ _ rfl
            have e1 : (wo.alloc (.cells #[.int .i64 K, .int .i64 x1, .int .i64 y1, .int .i64 x2, .int .i64 y2, .slice la N lc] 56)).cell? ⟨wo.heap.size, 1, none⟩ = some (.int .i64 x1) := World.cell?_alloc_at _ _ _ _ rfl
            have e2 : (wo.alloc (.cells #[.int .i64 K, .int .i64 x1, .int .i64 y1, .int .i64 x2, .int .i64 y2, .slice la N lc] 56)).cell? ⟨wo.heap.size, 2, none⟩ = some (.int .i64 y1) := World.cell?_alloc_at _ _ _ _ rfl
            have e3 : (wo.alloc (.cells #[.int .i64 K, .int .i64 x1, .int .i64 y1, .int .i64 x2, .int .i64 y2, .slice la N lc] 56)).cell? ⟨wo.heap.size, 3, none⟩ = some (.int .i64 x2) := World.cell?_alloc_at _ _ _ _ rfl
            have e4 : (wo.alloc (.cells #[.int .i64 K, .int .i64 x1, .int .i64 y1, .int .i64 x2, .int .i64 y2, .slice la N lc] 56)).cell? ⟨wo.heap.size, 4, none⟩ = some (.int .i64 y2) := World.cell?_alloc_at _ _ _ _ rfl
            have e5 : (wo.alloc (.cells #[.int .i64 K, .int .i64 x1, .int .i64 y1, .int .i64 x2, .int .i64 y2, .slice la N lc] 56)).cell? ⟨wo.heap.size, 5, none⟩ = some (.slice la N lc) := World.cell?_alloc_at _ _ _ _ rfl
            obtain ⟨⟨p0, p1, p2⟩, hba⟩ := qa
            have HBW := Lib.hid hba
            clear hba
            by_cases hK1 : K = 1
            · subst hK1
              as_aux_lemma =>
              have hNb : pre.length + N ≤ 700 := by
                have h := (HAL.out _ HNX.out).1
                rw [if_pos rfl, List.length_append, List.length_map, List.length_range, ← HNL.out] at h
                exact h
              have hMp : M ≤ pre.length := HMP.out
              go_wp2_with fail
              clear e0 e1 e2 e3 e4 e5 d0 d1 d2 d3 d4 d5
              go_loopw [10, 70] (fun ow i W => ∃ j : Nat, j ≤ N ∧ i = .int .i64 (j : Nat) ∧ ow = .int .i64 ((M : Nat) + (j : Nat)) ∧ Hid (Below wb.heap.size wb W) ∧ Hid (OM W bA (pre ++ (List.range j).map fun j => keyB 5 p.deps Y ⟨-2, ((M + j : Nat) : Int)⟩ ⟨0, 0⟩)) ∧ Hid (OM W (bA + 1) [])) (fun _ i _ => N - (intOf i).toNat)
              case atStart => exact ⟨0, Nat.zero_le _, rfl, by first | rfl | simp, HBa, Lib.hid (by simpa using HAa.out), HBb⟩
              case round => as_aux_lemma =>
                obtain ⟨wi, rfl⟩ : ∃ z, z = wr := ⟨wr, rfl⟩
                obtain ⟨j, hj, rfl, rfl, HB, HA, HBB⟩ := hrel
                have hbsz2 : bA + 1 < wi.heap.size := om_lt HBB.out
                by_cases hjl : j < N
                · obtain ⟨⟨g0, g1, g2⟩, hgw⟩ := rt_call HB.out H4.out
                  obtain ⟨ky, hky⟩ : ∃ z, z = keyB 5 p.deps Y ⟨-2, (M : Int) + (j : Int)⟩ ⟨0, 0⟩ := ⟨_, rfl⟩
                  have hcal := C6.out ((M : Int) + (j : Int)) wi hgw
                  rw [← hky] at hcal
                  obtain ⟨ks, hks⟩ : ∃ l, l = pre ++ (List.range j).map fun j => keyB 5 p.deps Y ⟨-2, ((M + j : Nat) : Int)⟩ ⟨0, 0⟩ := ⟨_, rfl⟩
                  have hkl : ks.length = pre.length + j := by rw [hks, List.length_append, List.length_map, List.length_range]
                  have hklt : ks.length ≤ 700 := by omega
                  have hkn : pre ++ (List.range (j + 1)).map (fun j => keyB 5 p.deps Y ⟨-2, ((M + j : Nat) : Int)⟩ ⟨0, 0⟩) = ks ++ [ky] := by
                    rw [List.range_succ, List.map_append, ← List.append_assoc, ← hks, hky]; simp
                  have hkz : ky.size ≤ maxLen := (HAL.out _ HNX.out).2 ky (by
                    first | rw [if_pos rfl] | rw [if_pos trivial]
                    refine List.mem_append.2 (.inr (List.mem_map.2 ⟨j, List.mem_range.2 (by rw [← HNL.out]; exact hjl), ?_⟩))
                    rw [hky, Int.natCast_add])
                  have hkey : keyOf Tryz.prog 9 (.string ky) = some (kl ky) := keyOf_string_mk Tryz.underlying9 hkz
                  rw [← hks] at HA
                  have HCAL := Lib.hid hcal
                  have HKN := Lib.hid hkn
                  clear hcal hky hks hkl hkn hkz hgw
                  go_wp2_with fail
                  refine (HCAL.out).mono ?_
                  rintro e w5 ⟨rfl, hb5⟩
                  have HB5 := Lib.hid (HB.out.trans (hb5.mono HB.out.size))
                  have HA5 := Lib.hid (om_below HA.out hb5)
                  have HBB5 := Lib.hid (om_below HBB.out hb5)
                  clear hb5 g0 g1 g2 p0 p1 p2 q0 q1 q2
                  go_wp2_with (first | (at_lookup; refine wpList_lookup_own_int _ rfl _ _ 52 rfl 9 3 .i64 mlaw Tryz.underlying52 Tryz.underlying3 (zeroI _) (bA) _ _ rfl (om_open HA5.out) _ _ rfl hkey ?_; intro c hat hwc) | (at_mapUpdate; refine wpList_mapUpdate_own _ rfl _ _ _ 52 rfl 9 3 mlaw Tryz.underlying52 _ (bA) _ _ rfl (om_open HA5.out) (by unfold maxLen; omega) _ _ _ rfl rfl hkey _ [] (plainElem_int Tryz.underlying3 (wrap64_wf _)) ?_; intro w6 hown6 hg6))
                  have HA6 := Lib.hid (om_step hat hown6)
                  have HB6 := Lib.hid (gb_below HB5.out hg6 hBA HB5.out.size)
                  have HBB6 := Lib.hid (om_other HBB5.out hg6 (by omega))
                  clear hown6 hg6 hat hwc
                  go_wp2_with fail
                  exact ⟨⟨j + 1, by omega, by go_num, by first | go_num | (congr 1; omega), HB6, Lib.hid (by rw [HKN.out]; exact HA6.out), HBB6⟩, by simp [intOf]; omega⟩
                · obtain rfl : N = j := by omega
                  have hfin := HNX.out
                  first | rw [if_pos rfl, ← HNL.out] at hfin | rw [if_pos trivial, ← HNL.out] at hfin
                  have hmfin := HMN.out
                  first | rw [if_pos rfl, ← HNL.out] at hmfin | rw [if_pos trivial, ← HNL.out] at hmfin
                  have HF1 := Lib.hid hfin
                  have HF2 := Lib.hid hmfin
                  clear hfin hmfin
                  go_wp2_with fail
                  exact ⟨⟨k + 1, by omega, by go_num, by rw [HF2.out]; simp, HB, Lib.hid (by rw [HF1.out]; exact HA.out), HBB⟩, by simp [intOf]; omega⟩
            · as_aux_lemma =>
              have n1 : (K == 1) = false := by simpa using hK1
              have hnx2 := HNX.out
              rw [if_neg hK1] at hnx2
              have hmn2 := HMN.out
              rw [if_neg hK1, Nat.add_zero] at hmn2
              obtain ⟨ky, hky⟩ : ∃ z, z = keyB K p.deps Y ⟨x1, y1⟩ ⟨x2, y2⟩ := ⟨_, rfl⟩
              have hcal : Calls Tryz.prog 27 #[.int .i64 K, .slice da m dc, .string Y, .agg #[.int .i64 x1, .int .i64 y1], .agg #[.int .i64 x2, .int .i64 y2]] (wo.alloc (.cells #[.int .i64 K, .int .i64 x1, .int .i64 y1, .int .i64 x2, .int .i64 y2, .slice la N lc] 56)) fun e w' => e = .returned (.string ky) ∧ Below (wo.alloc (.cells #[.int .i64 K, .int .i64 x1, .int .i64 y1, .int .i64 x2, .int .i64 y2, .slice la N lc] 56)).heap.size (wo.alloc (.cells #[.int .i64 K, .int .i64 x1, .int .i64 y1, .int .i64 x2, .int .i64 y2, .slice la N lc] 56)) w' := by
                rw [hky]; exact C5.out (by first | rfl | trivial) ⟨K, ⟨x1, y1⟩, ⟨x2, y2⟩, ls⟩ _ HXM.out hK1 HBW.out
              rw [← hky] at hnx2
              have hall2 := HAL.out _ hnx2
              have hkey : keyOf Tryz.prog 9 (.string ky) = some (kl ky) := keyOf_string_mk Tryz.underlying9 (hall2.2 ky (by simp))
              have hlen : pre.length ≤ 700 := by have := hall2.1; rw [List.length_append] at this; omega
              have HCAL := Lib.hid hcal
              have HN2 := Lib.hid hnx2
              have HM2 := Lib.hid hmn2
              clear hcal hnx2 hmn2 hall2 hky hK1
              go_wp2_with fail
              refine (HCAL.out).mono ?_
              rintro e w5 ⟨rfl, hb5⟩
              have HB5 := Lib.hid (HBa.out.trans (hb5.mono HBa.out.size))
              have HA5 := Lib.hid (om_below HAa.out hb5)
              have HBB5 := Lib.hid (om_below HBb.out hb5)
              clear hb5 e0 e1 e2 e3 e4 e5 p0 p1 p2 q0 q1 q2 d0 d1 d2 d3 d4 d5
              go_wp2_with (first | (at_lookup; refine wpList_lookup_own_int _ rfl _ _ 52 rfl 9 3 .i64 mlaw Tryz.underlying52 Tryz.underlying3 (zeroI _) (bA) _ _ rfl (om_open HA5.out) _ _ rfl hkey ?_; intro c hat hwc) | (at_mapUpdate; refine wpList_mapUpdate_own _ rfl _ _ _ 52 rfl 9 3 mlaw Tryz.underlying52 _ (bA) _ _ rfl (om_open HA5.out) (by unfold maxLen; omega) _ _ _ rfl rfl hkey _ [] (plainElem_int Tryz.underlying3 (wrap64_wf _)) ?_; intro w6 hown6 hg6))
              have HA6 := Lib.hid (om_step hat hown6)
              have HB6 := Lib.hid (gb_below HB5.out hg6 hBA HB5.out.size)
              have HBB6 := Lib.hid (om_other HBB5.out hg6 (by omega))
              clear hown6 hg6 hat hwc
              go_wp2_with fail
              exact ⟨⟨k + 1, by omega, by go_num, by rw [HM2.out]; first | done | rfl, HB6, Lib.hid (by rw [HN2.out]; exact HA6.out), HBB6⟩, by simp [intOf]; omega⟩
          · obtain rfl : n = k := by omega
            as_aux_lemma =>
            have hall : keysP p.deps Y 0 (p.ops.take n) = keysP p.deps Y 0 p.ops := by rw [List.take_of_length_le (by rw [← HN.out]; exact Nat.le_refl _)]
            rw [hall] at HA
            have hke := HKE.out (by first | rfl | trivial) (by first | rfl | trivial)
            obtain ⟨KA, hKA⟩ : ∃ l, l = keysP p.deps Y 0 p.ops := ⟨_, rfl⟩
            have hszs := HSZ.out
            rw [← hKA] at HA hke hszs
            have hka7 : KA.length ≤ 700 := hke.2.1
            have hkr : keysR r.deps r.ops = KA := hke.1
            obtain ⟨u0, u1, u2⟩ := pb_call HB.out U4.out
            have hbA : bA + 1 < wo.heap.size := om_lt HBB.out
            have hBA : wb.heap.size ≤ bA := by rw [HSB.out]; exact Nat.le_refl _
            have hd3 : l3 = r.deps.length := by
              obtain ⟨_, _, h, _⟩ := V4.out.deps.form
              injection h
            have ho4 : l4 = r.ops.length := by
              obtain ⟨_, _, h, _⟩ := V4.out.ops.form
              injection h
            have HD3 := Lib.hid hd3
            have HO4 := Lib.hid ho4
            have HKR := Lib.hid hkr
            have HSS := Lib.hid hszs
            have HC7 := Lib.hid (C7.out (by first | rfl | trivial) (by first | rfl | trivial))
            have hl44 : l4 ≤ 400 := by rw [ho4]; exact hl4
            clear hall hke hKA hszs hkr hd3 ho4
            go_wp2_with fail
            clear u0 u1 u2
            go_loopw [89] (fun i W => ∃ k : Nat, k ≤ l4 ∧ i = .int .i64 (k : Nat) ∧ Hid (Below wb.heap.size wb W) ∧ Hid (OM W bA KA) ∧ Hid (OM W (bA + 1) (keysR r.deps (r.ops.take k)))) (fun i _ => l4 - (intOf i).toNat)
            case atStart => exact ⟨0, Nat.zero_le _, rfl, HB, HA, HBB⟩
            case round => as_aux_lemma =>
              obtain ⟨wq, rfl⟩ : ∃ z, z = wr := ⟨wr, rfl⟩
              clear HB HA HBB
              obtain ⟨k, hk, rfl, HB, HA, HBB⟩ := hrel
              by_cases hlt : k < l4
              · obtain ⟨x, hx⟩ : ∃ x, r.ops[k]? = some x := ⟨r.ops[k]'(by rw [← HO4.out]; exact hlt), by simp⟩
                obtain ⟨b, o, rfl, hnl, hcl⟩ := (V4.out.ops).at hx
                clear hnl
                obtain ⟨lv, d0, d1, d2, d3, d4, d5, d6⟩ := (hcl.below HB.out).2 k x hx
                obtain ⟨la, lc, hlv, _⟩ := d6.form
                obtain ⟨N, hN⟩ : ∃ N, N = x.lines.length := ⟨_, rfl⟩
                rw [← hN] at hlv
                subst hlv
                obtain ⟨pre, hpre⟩ : ∃ l, l = keysR r.deps (r.ops.take k) := ⟨_, rfl⟩
                obtain ⟨ky, hky⟩ : ∃ z, z = keyB x.kind r.deps ByteArray.empty x.a x.b := ⟨_, rfl⟩
                have hnext := keysR_take (deps := r.deps) hx
                rw [← hpre, ← hky] at hnext
                rw [← hpre] at HBB
                have hsub : ∃ rest, KA = (pre ++ [ky]) ++ rest := by
                  refine ⟨keysR r.deps (r.ops.drop (k + 1)), ?_⟩
                  rw [← HKR.out, ← hnext]
                  unfold keysR
                  rw [← List.map_append, List.take_append_drop]
                obtain ⟨rest, hrest⟩ := hsub
                have hpl : pre.length ≤ 700 := by have := congrArg List.length hrest; simp at this; omega
                have hkey : keyOf Tryz.prog 9 (.string ky) = some (kl ky) := keyOf_string_mk Tryz.underlying9 (HSS.out ky (by rw [hrest]; simp))
                have hal := (Below.refl wq.heap.size wq).alloc (Nat.le_refl _) (.cells #[.int .i64 x.kind, .int .i64 x.a.at_, .int .i64 x.a.n, .int .i64 x.b.at_, .int .i64 x.b.n, .slice la N lc] 56)
                have hcal := HC7.out x a3 l3 c3 _ HD3.out (List.mem_of_getElem? hx) ((V4.out.deps).below (HB.out.trans (hal.mono HB.out.size)))
                rw [← hky] at hcal
                have HBa := Lib.hid (HB.out.trans (hal.mono HB.out.size))
                have HAa := Lib.hid (om_below HA.out hal)
                have HBb := Lib.hid (om_below HBB.out hal)
                have HNX := Lib.hid hnext
                have HCAL := Lib.hid hcal
                clear hx hN hpre hky hnext hrest hcl d6 hal HA HB HBB hcal
                obtain ⟨K, ⟨x1, y1⟩, ⟨x2, y2⟩, ls⟩ := x
                simp only at d0 d1 d2 d3 d4 HBa HAa HBb HCAL
                have e0 : (wq.alloc (.cells #[.int .i64 K, .int .i64 x1, .int .i64 y1, .int .i64 x2, .int .i64 y2, .slice la N lc] 56)).cell? ⟨wq.heap.size, 0, none⟩ = some (.int .i64 K) := World.cell?_alloc_at _ _ _ _ rfl
                have e1 : (wq.alloc (.cells #[.int .i64 K, .int .i64 x1, .int .i64 y1, .int .i64 x2, .int .i64 y2, .slice la N lc] 56)).cell? ⟨wq.heap.size, 1, none⟩ = some (.int .i64 x1) := World.cell?_alloc_at _ _ _ _ rfl
                have e2 : (wq.alloc (.cells #[.int .i64 K, .int .i64 x1, .int .i64 y1, .int .i64 x2, .int .i64 y2, .slice la N lc] 56)).cell? ⟨wq.heap.size, 2, none⟩ = some (.int .i64 y1) := World.cell?_alloc_at _ _ _ _ rfl
                have e3 : (wq.alloc (.cells #[.int .i64 K, .int .i64 x1, .int .i64 y1, .int .i64 x2, .int .i64 y2, .slice la N lc] 56)).cell? ⟨wq.heap.size, 3, none⟩ = some (.int .i64 x2) := World.cell?_alloc_at _ _ _ _ rfl
                have e4 : (wq.alloc (.cells #[.int .i64 K, .int .i64 x1, .int .i64 y1, .int .i64 x2, .int .i64 y2, .slice la N lc] 56)).cell? ⟨wq.heap.size, 4, none⟩ = some (.int .i64 y2) := World.cell?_alloc_at _ _ _ _ rfl
                have e5 : (wq.alloc (.cells #[.int .i64 K, .int .i64 x1, .int .i64 y1, .int .i64 x2, .int .i64 y2, .slice la N lc] 56)).cell? ⟨wq.heap.size, 5, none⟩ = some (.slice la N lc) := World.cell?_alloc_at _ _ _ _ rfl
                obtain ⟨u0, u1, u2⟩ := pb_call HBa.out U4.out
                go_wp2_with fail
                refine (HCAL.out).mono ?_
                rintro e w5 ⟨rfl, hb5⟩
                have HB5 := Lib.hid (HBa.out.trans (hb5.mono HBa.out.size))
                have HA5 := Lib.hid (om_below HAa.out hb5)
                have HBB5 := Lib.hid (om_below HBb.out hb5)
                clear hb5 e0 e1 e2 e3 e4 e5 u0 u1 u2 d0 d1 d2 d3 d4 d5
                go_wp2_with (first | (at_lookup; refine wpList_lookup_own_int _ rfl _ _ 52 rfl 9 3 .i64 mlaw Tryz.underlying52 Tryz.underlying3 (zeroI _) (bA + 1) _ _ rfl (om_open HBB5.out) _ _ rfl hkey ?_; intro c hat hwc) | (at_mapUpdate; refine wpList_mapUpdate_own _ rfl _ _ _ 52 rfl 9 3 mlaw Tryz.underlying52 _ (bA + 1) _ _ rfl (om_open HBB5.out) (by unfold maxLen; omega) _ _ _ rfl rfl hkey _ [] (plainElem_int Tryz.underlying3 (wrap64_wf _)) ?_; intro w6 hown6 hg6))
                have HBB6 := Lib.hid (om_step hat hown6)
                have HB6 := Lib.hid (gb_below HB5.out hg6 (by omega) HB5.out.size)
                have HA6 := Lib.hid (om_other HA5.out hg6 (by omega))
                clear hown6 hg6 hat hwc
                go_wp2_with fail
                exact ⟨⟨k + 1, by omega, by go_num, HB6, HA6, Lib.hid (by rw [HNX.out]; exact HBB6.out)⟩, by simp [intOf]; omega⟩
              · obtain rfl : l4 = k := by omega
                as_aux_lemma =>
                have hfull : keysR r.deps (r.ops.take l4) = KA := by rw [List.take_of_length_le (by rw [← HO4.out]; exact Nat.le_refl _)]; exact HKR.out
                rw [hfull] at HBB
                have hnn : ((Maps.size (cntD KA) : Int) != (Maps.size (cntD KA) : Int)) = false := by simp
                clear hfull
                go_wp2_with (first | (at_len; refine wpList_len_own _ rfl _ 52 rfl 9 3 Tryz.underlying52 _ bA _ _ rfl (om_open HA.out) ?_) | (at_len; refine wpList_len_own _ rfl _ 52 rfl 9 3 Tryz.underlying52 _ (bA + 1) _ _ rfl (om_open HBB.out) ?_) | (at_range; refine wpList_range_own _ rfl _ 52 rfl 9 3 mlaw Tryz.underlying52 _ bA _ _ rfl (om_open HA.out) ?_; intro w0 hrg0 hg0 hs0))
                go_frame
                have HB0 := Lib.hid (HB.out.grown hg0 HB.out.size (fun j hj => by cases hj))
                have HBB0 := Lib.hid (show OM w0 (bA + 1) KA from World.ownsMap.kept HBB.out hg0 (by simp))
                have hbq : bA + 1 < wq.heap.size := om_lt HBB.out
                have HRG0 := Lib.hid hrg0
                clear hg0 hrg0 hs0
                go_loopw [15] (fun _ W => ∃ (left : Lit → Bool) (cnt : Nat), Hid (W.ranges Tryz.prog 9 (plainElem (H := Unit) Tryz.prog 3) bA wq.heap.size KA.length (cntD KA) left cnt) ∧ Hid (Below wb.heap.size wb W) ∧ Hid (OM W (bA + 1) KA)) (fun _ W => W.rangeLeft bA wq.heap.size)
                case atStart => exact ⟨_, _, HRG0, HB0, HBB0⟩
                case round => as_aux_lemma =>
                  clear HB HA HBB HB0 HBB0 HRG0
                  obtain ⟨left, cnt, HRG, HB, HBB⟩ := hrel
                  go_wp2_with (at_next; refine wpList_next_ranges _ rfl _ rfl 9 mlaw (plainElem (H := Unit) Tryz.prog 3) Value.string (Value.int .i64) (keyOf_str_inv Tryz.underlying9) (fun v y h => by obtain ⟨c, hc, _⟩ := plainElem_int_inv Tryz.underlying3 h; exact ⟨c, hc⟩) bA wq.heap.size _ _ _ _ rfl HRG.out ?_ ?_)
                  · intro hc0 hl0
                    go_wp2_with fail
                    go_ret
                    exact ⟨rfl, (rt_call HB.out H4.out).2⟩
                  · intro x c kx y1 y2 w1 cnt1 hkey hlk hRv hat hrg1 hlt hg1 hs1 hen
                    obtain ⟨c2, hc2, hy2, _⟩ := plainElem_int_inv Tryz.underlying3 hRv
                    injection hc2 with _ hcc
                    injection hy2 with hy1 _
                    have hat0 := hat (.lit (.int .i64 0))
                    rw [hy1, ← hcc] at hat0
                    have HAT := Lib.hid hat0
                    have HBn := Lib.hid (gb_below HB.out hg1 (by omega) HB.out.size)
                    have HBBn := Lib.hid (om_other HBB.out hg1 (by omega))
                    have HRGn := Lib.hid hrg1
                    have HLT := Lib.hid hlt
                    clear hat hat0 hRv hy1 hcc hlk hg1 hrg1 hs1 HBB hlt
                    go_wp2_with (at_lookup; refine wpList_lookup_own_int _ rfl _ _ 52 rfl 9 3 .i64 mlaw Tryz.underlying52 Tryz.underlying3 (zeroI _) (bA + 1) _ _ rfl (om_open HBBn.out) _ _ rfl hkey ?_; intro c' hat' hwc'; have hne : (c' != c) = false := (by have h := HAT.out; rw [hat'] at h; injection h with h; injection h with _ h; simp [h]))
                    exact ⟨⟨_, _, HRGn, HBn, HBBn⟩, by rw [HRGn.out.left_eq, HRG.out.left_eq]; exact HLT.out⟩
      · go_wp2_with fail
        go_ret
        exact ⟨rfl, H4.out.2⟩
    · go_wp2_with fail
      go_ret
      exact ⟨rfl, H3.out.2⟩
end Go.Proofs.YtgjcblginkdinaaGreatDoor
