/- The contract of sound. The contract of the laws' Small. -/
import Derived.Test.YtojnagonhihknaaGreatDoorV18
import Derived.Test.YtojnagonhihknaaGreatDoorV24
set_option linter.unusedVariables false
namespace Go.Proofs.YtojnagonhihknaaGreatDoor
open Go.ChangeShapes Go.WideShapes Go.ChangeAt Go.RowKit

theorem sound_no {p : Pt} (h : ¬ (p.note.size ≤ 100 ∧ p.ops.length ≤ 400 ∧ risB p.deps = true ∧ opsB p.deps.length 0 p.ops = true)) : soundB p = false := by
  rw [Bool.eq_false_iff]
  intro hb
  unfold soundB at hb
  simp only [Bool.and_eq_true, decide_eq_true_eq] at hb
  exact h ⟨hb.1.1.1, hb.1.1.2, hb.1.2, hb.2⟩
theorem sound_yes {p : Pt} (h1 : p.note.size ≤ 100) (h2 : p.ops.length ≤ 400) (h3 : risB p.deps = true) (h4 : opsB p.deps.length 0 p.ops = true) : soundB p = true := by
  unfold soundB
  simp only [Bool.and_eq_true, decide_eq_true_eq]
  exact ⟨⟨⟨h1, h2⟩, h3⟩, h4⟩
theorem ops_step {deps k : Nat} {l : List Opp} {x : Opp} (h : opsB deps 0 (l.take k) = true) (hx : l[k]? = some x) (hf : opB deps (linesN (l.take k)) x = true) : opsB deps 0 (l.take (k + 1)) = true := by
  rw [take_snoc hx, opsB_app, h, Nat.zero_add]
  simp [opsB, hf]
theorem ops_no {deps k : Nat} {l : List Opp} {x : Opp} (hx : l[k]? = some x) (hf : opB deps (linesN (l.take k)) x = false) : opsB deps 0 l = false := by
  have e : l = l.take k ++ x :: l.drop (k + 1) := by
    obtain ⟨h, e⟩ := List.getElem?_eq_some_iff.1 hx
    rw [← e, List.getElem_cons_drop, List.take_append_drop]
  rw [e, opsB_app, Nat.zero_add, opsB, hf]
  simp
theorem ops_lines {deps : Nat} : ∀ (l : List Opp) (m : Nat), m ≤ 300 → opsB deps m l = true → m + linesN l ≤ 300
  | [], m, hm, _ => by simpa [linesN] using hm
  | o :: r, m, hm, h => by
    simp only [opsB, opB, Bool.and_eq_true, decide_eq_true_eq] at h
    obtain ⟨⟨h1, h2⟩, h3⟩ := h
    have e := opR_lines h1
    have : m + o.lines.length ≤ 300 := by
      by_cases hk : o.kind = 1
      · have := h2 hk; omega
      · rw [if_neg hk] at e; omega
    have := ops_lines r _ this h3
    simp only [linesN]; omega
theorem linesN_snoc {l : List Opp} {k : Nat} {x : Opp} (hx : l[k]? = some x) : linesN (l.take (k + 1)) = linesN (l.take k) + x.lines.length := by
  rw [take_snoc hx, linesN_app]; simp [linesN]

set_option maxHeartbeats 4000000 in
set_option maxRecDepth 100000 in
theorem psound_any (p : Pt) (dv ov : Value) (w : World) (hp : PReads w p.note dv ov p) (hf : p.fine) :
    Calls Tryz.prog 111 #[ptV p.note dv ov] w fun e w' => e = .returned (.bool (soundB p)) ∧ Below w.heap.size w w' := by
  obtain ⟨_, hd, ho⟩ := hp
  obtain ⟨da, dc, rfl, hdn⟩ := hd.form
  obtain ⟨oa, oc, rfl, hon⟩ := ho.form
  obtain ⟨t, ht⟩ : ∃ t, t = p.note := ⟨_, rfl⟩
  obtain ⟨n, hnn⟩ : ∃ n, n = p.ops.length := ⟨_, rfl⟩
  obtain ⟨m, hmm⟩ : ∃ m, m = p.deps.length := ⟨_, rfl⟩
  have hb1 : ∀ o1, Below w.heap.size w (w.alloc o1) := fun o1 => (Below.refl _ _).alloc (Nat.le_refl _) _
  have cr : ∀ wz, Below w.heap.size w wz → Calls Tryz.prog 133 #[.slice da m dc] wz fun e w' => e = .returned (.bool (risB p.deps)) ∧ Below wz.heap.size wz w' := fun wz hz => by
    rw [hmm]; exact prising_any p.deps _ wz (hd.below hz)
  obtain ⟨rb, hrb⟩ : ∃ b, b = risB p.deps := ⟨_, rfl⟩
  rw [← hrb] at cr
  rw [← hnn] at ho hon ⊢
  rw [← hmm] at hd hdn ⊢
  rw [← ht]
  have CR := Lib.hid cr
  have HO := Lib.hid ho
  have HN := Lib.hid hnn
  have HM := Lib.hid hmm
  have HT := Lib.hid ht
  have HRB := Lib.hid hrb
  have HB1 := Lib.hid hb1
  have HF := Lib.hid hf
  have hts : t.size ≤ 140737488355328 := by rw [ht]; exact hf.note
  clear cr ho hnn hmm ht hrb hb1 hd hf
  by_cases h1 : 100 < t.size
  · have e1 : (100 : Int) < t.size := by omega
    have hs : soundB p = false := sound_no (fun h => by have := h.1; rw [← HT.out] at this; omega)
    rw [hs]
    clear hs
    go_enter Tryz.func111, Tryz.ntmps111
    go_wp2_with fail
    all_goals go_ret
    all_goals exact ⟨rfl, HB1.out _⟩
  · have e1 : ¬ (100 : Int) < t.size := by omega
    by_cases h2 : 400 < n
    · have e2 : (400 : Int) < n := by omega
      have hs : soundB p = false := sound_no (fun h => by have := h.2.1; rw [← HN.out] at this; omega)
      rw [hs]
      clear hs
      go_enter Tryz.func111, Tryz.ntmps111
      go_wp2_with fail
      all_goals go_ret
      all_goals exact ⟨rfl, HB1.out _⟩
    · have e2 : ¬ (400 : Int) < n := by omega
      cases rb with
      | false =>
        have hs : soundB p = false := sound_no (fun h => by have := h.2.2.1; rw [← HRB.out] at this; cases this)
        rw [hs]
        clear hs
        go_enter Tryz.func111, Tryz.ntmps111
        go_wp2_with fail
        refine (CR.out _ (HB1.out _)).mono ?_
        rintro e w1 ⟨rfl, hb⟩
        obtain ⟨_, qb, _⟩ := boxA1 hb
        have QB := Lib.hid qb
        clear hb qb
        go_wp2_with fail
        all_goals go_ret
        all_goals exact ⟨rfl, QB.out⟩
      | true =>
        go_enter Tryz.func111, Tryz.ntmps111
        go_wp2_with fail
        refine (CR.out _ (HB1.out _)).mono ?_
        rintro e w1 ⟨rfl, hb⟩
        obtain ⟨q1, qb, qs⟩ := boxA1 hb
        have q11 := q1 1
        have q12 := q1 2
        have qlt : w.heap.size < w1.heap.size := by omega
        have QB := Lib.hid qb
        clear hb qb q1 qs
        go_wp2_with fail
        go_loopw [29] (fun i wr => ∃ k L : Nat, k ≤ n ∧ i = .int .i64 k ∧ L ≤ 300 ∧ Hid (L = linesN (p.ops.take k)) ∧ Hid (Below w1.heap.size w1 wr) ∧ w1.heap.size < wr.heap.size ∧ wr.cell? ⟨w1.heap.size, 0, none⟩ = some (.int .i64 (m : Nat)) ∧ wr.cell? ⟨w1.heap.size, 1, none⟩ = some (.int .i64 (L : Nat)) ∧ wr.frozen? ⟨w1.heap.size, 1, none⟩ = false ∧ Hid (opsB m 0 (p.ops.take k) = true)) (fun i _ => n - (intOf i).toNat)
        case atStart =>
          refine ⟨0, 0, Nat.zero_le _, rfl, by omega, Lib.hid (by simp [linesN]), Lib.hid ((Below.refl _ _).alloc (Nat.le_refl _) _), by simp, ?_, ?_, ?_, Lib.hid (by simp [opsB])⟩
          · exact (World.cell?_alloc_at _ _ _ _ rfl).trans rfl
          · exact (World.cell?_alloc_at _ _ _ _ rfl).trans rfl
          · exact World.frozen?_alloc_at _ _ _ _ rfl
        case round =>
          obtain ⟨k, L, hk, rfl, hL, HLL, HB, hsz, c0, c1, f1, HA⟩ := hrel
          have HBW := Lib.hid (QB.out.trans (HB.out.mono (Nat.le_of_lt qlt)))
          by_cases hlt : k < n
          · obtain ⟨x, hx⟩ : ∃ x, p.ops[k]? = some x := ⟨p.ops[k]'(by rw [← HN.out]; exact hlt), by simp⟩
            obtain ⟨b, o, rfl, hnl, hcl⟩ := HO.out.at hx
            clear hnl
            obtain ⟨lv, d0, d1, d2, d3, d4, d5, d6⟩ := (hcl.below HBW.out).2 k x hx
            obtain ⟨la, lc, hlv, hln⟩ := d6.form
            subst hlv
            have hop : ∀ wz, Below wr.heap.size wr wz → Calls Tryz.prog 134 #[ckV m L, opV x (.slice la x.lines.length lc)] wz fun e w' => e = .returned (.bool (opB m L x)) ∧ Below wz.heap.size wz w' := fun wz hz => pop_any m L x _ wz hL (d6.below hz) (HF.out.ops x (List.mem_of_getElem? hx))
            obtain ⟨ob, hob⟩ : ∃ b, b = opB m L x := ⟨_, rfl⟩
            obtain ⟨N, hN⟩ : ∃ N, N = x.lines.length := ⟨_, rfl⟩
            rw [← hob, ← hN] at hop
            rw [← hN] at d5 d6 hln
            have HX := Lib.hid hx
            have HOB := Lib.hid hob
            have HNN := Lib.hid hN
            have HOP := Lib.hid hop
            have ha1 : ∀ o1, Below wr.heap.size wr (wr.alloc o1) := fun o1 => (Below.refl _ _).alloc (Nat.le_refl _) _
            have HA1 := Lib.hid ha1
            clear hx hob hN hop d6 hcl ha1
            obtain ⟨K, ⟨ax, ay⟩, ⟨bx, bY⟩, ls⟩ := x
            simp only at d0 d1 d2 d3 d4
            cases ob with
            | false =>
              have hs : soundB p = false := sound_no (fun h => by
                have h1 := h.2.2.2
                rw [ops_no HX.out (by rw [← HLL.out, ← HM.out]; exact HOB.out.symm)] at h1
                cases h1)
              have HSN := Lib.hid hs
              clear hs
              go_wp2_with fail
              refine (HOP.out _ (HA1.out _)).mono ?_
              rintro e w2 ⟨rfl, hb2⟩
              have HB2 := Lib.hid (HBW.out.trans (((HA1.out _).trans (hb2.mono (by simp))).mono HBW.out.size))
              clear hb2
              go_wp2_with fail
              all_goals go_ret
              all_goals exact ⟨ret_bool HSN.out.symm, HB2.out⟩
            | true =>
              have hsn : opsB m 0 (p.ops.take (k + 1)) = true := ops_step HA.out HX.out (by rw [← HLL.out]; exact HOB.out.symm)
              have hL2 : L + N = linesN (p.ops.take (k + 1)) := by rw [linesN_snoc HX.out, ← HLL.out, HNN.out]
              have hL3 : L + N ≤ 300 := by rw [hL2]; have := ops_lines _ 0 (by omega) hsn; omega
              have HSN := Lib.hid hsn
              have HL2 := Lib.hid hL2
              clear hsn hL2
              go_wp2_with fail
              refine (HOP.out _ (HA1.out _)).mono ?_
              rintro e w2 ⟨rfl, hb2⟩
              obtain ⟨r1, rb2, rs⟩ := boxA1 hb2
              have r15 := r1 5
              have rc0 := (rb2.cell (p := ⟨w1.heap.size, 0, none⟩) hsz).trans c0
              have rc1 := (rb2.cell (p := ⟨w1.heap.size, 1, none⟩) hsz).trans c1
              have rf1 := (rb2.frozen (p := ⟨w1.heap.size, 1, none⟩) hsz).trans f1
              have HB2 := Lib.hid (HB.out.trans (rb2.mono (Nat.le_of_lt hsz)))
              have hsz2 : w1.heap.size < w2.heap.size := by omega
              clear hb2 r1 rb2 rs c0 c1 f1
              go_wp2_with fail
              refine ⟨⟨k + 1, L + N, by omega, by go_num, hL3, Lib.hid HL2.out, Lib.hid (HB2.out.setCell (p := ⟨w1.heap.size, 1, none⟩) (Nat.le_refl _) _), ?_, ?_, ?_, ?_, Lib.hid HSN.out⟩, by simp [intOf]; omega⟩
              · simpa [World.setCell] using hsz2
              · exact (World.cell?_setCell_other _ _ _ _ (by simp)).trans rc0
              · exact (World.cell?_setCell_same _ _ _ rc1).trans (by rw [Int.natCast_add])
              · rw [World.frozen?_setCell]; exact rf1
          · have hke : n ≤ k := by omega
            have hs : soundB p = true := sound_yes (by rw [← HT.out]; omega) (by rw [← HN.out]; omega) HRB.out.symm (by have := HA.out; rwa [List.take_of_length_le (by rw [← HN.out]; exact hke), HM.out] at this)
            have HSY := Lib.hid hs
            clear hs hke
            go_wp2
            go_ret
            exact ⟨ret_bool HSY.out.symm, HBW.out⟩
end Go.Proofs.YtojnagonhihknaaGreatDoor
set_option linter.unusedVariables false
namespace Go.Proofs.YtojnagonhihknaaGreatDoor
open Go.ChangeShapes Go.WideShapes Go.ChangeAt Go.RowKit

def smallP (p : Pt) : Bool := decide (p.deps.length ≤ 200) && decide (p.ops.length ≤ 1000) && decide (linesN p.ops ≤ 2000)
theorem small_lines {p : Pt} (h : smallP p = true) : linesN p.ops ≤ 4611686018427387904 := by
  unfold smallP at h
  simp only [Bool.and_eq_true, decide_eq_true_eq] at h
  omega

set_option maxHeartbeats 2000000 in
set_option maxRecDepth 100000 in
theorem psmall_any (p : Pt) (dv ov : Value) (w : World) (hp : PReads w p.note dv ov p) (hl : ∀ o ∈ p.ops, o.lines.length ≤ 140737488355328) :
    Calls Tryz.prog 21 #[ptV p.note dv ov] w fun e w' => e = .returned (.bool (smallP p)) ∧ Below w.heap.size w w' := by
  obtain ⟨hnt, hd, ho⟩ := hp
  obtain ⟨da, dc, rfl, hdn⟩ := hd.form
  obtain ⟨oa, oc, rfl, hon⟩ := ho.form
  obtain ⟨t, ht⟩ : ∃ t, t = p.note := ⟨_, rfl⟩
  obtain ⟨n, hnn⟩ : ∃ n, n = p.ops.length := ⟨_, rfl⟩
  obtain ⟨m, hmm⟩ : ∃ m, m = p.deps.length := ⟨_, rfl⟩
  have hb1 : ∀ o1, Below w.heap.size w (w.alloc o1) := fun o1 => (Below.refl _ _).alloc (Nat.le_refl _) _
  rw [← hnn] at ho hon ⊢
  rw [← hmm] at hdn ⊢
  rw [← ht]
  have hsm : smallP p = (decide (m ≤ 200) && decide (n ≤ 1000) && decide (linesN p.ops ≤ 2000)) := by rw [hmm, hnn]; rfl
  have HO := Lib.hid ho
  have HN := Lib.hid hnn
  have HB1 := Lib.hid hb1
  have HL := Lib.hid hl
  have HSM := Lib.hid hsm
  clear ho hnn hmm ht hb1 hl hsm hnt hd
  by_cases hg : m ≤ 200 ∧ n ≤ 1000
  · obtain ⟨g1, g2⟩ := hg
    have e1 : ¬ (200 : Int) < m := by omega
    have e2 : ¬ (1000 : Int) < n := by omega
    go_enter Tryz.func21, Tryz.ntmps21
    go_wp2_with fail
    go_loopw [3, 19] (fun s i wr => ∃ (k N : Nat), k ≤ n ∧ i = .int .i64 (k : Nat) ∧ s = .int .i64 (N : Nat) ∧ N ≤ 2000 ∧ Hid (N = linesN (p.ops.take k)) ∧ Hid (Below w.heap.size w wr)) (fun _ i _ => n - (intOf i).toNat)
    case atStart => exact ⟨0, 0, Nat.zero_le _, rfl, rfl, by omega, Lib.hid (by simp [linesN]), HB1.out _ |> Lib.hid⟩
    case round =>
      obtain ⟨k, N, hk, rfl, rfl, hN, HNN, HB⟩ := hrel
      by_cases hlt : k < n
      · obtain ⟨x, hx⟩ : ∃ x, p.ops[k]? = some x := ⟨p.ops[k]'(by rw [← HN.out]; exact hlt), by simp⟩
        obtain ⟨b, o, rfl, hnl, hcl⟩ := HO.out.at hx
        clear hnl
        obtain ⟨lv, d0, d1, d2, d3, d4, d5, d6⟩ := (hcl.below HB.out).2 k x hx
        obtain ⟨la, lc, hlv, _⟩ := d6.form
        obtain ⟨L, hL⟩ : ∃ L, L = x.lines.length := ⟨_, rfl⟩
        rw [← hL] at hlv
        subst hlv
        have hL2 : L ≤ 140737488355328 := by rw [hL]; exact HL.out x (List.mem_of_getElem? hx)
        have hsn : linesN (p.ops.take (k + 1)) = N + L := by rw [linesN_snoc hx, ← HNN.out, hL]
        have HSN := Lib.hid hsn
        have HBA := Lib.hid (show ∀ o1, Below w.heap.size w (wr.alloc o1) from fun o1 => HB.out.alloc HB.out.size _)
        clear hx hcl d6 hL hsn
        obtain ⟨K, ⟨x1, y1⟩, ⟨x2, y2⟩, ls⟩ := x
        simp only at d0 d1 d2 d3 d4
        by_cases hbig : 2000 < N + L
        · have e3 : (2000 : Int) < (N : Int) + L := by omega
          have hno : smallP p = false := by
            rw [HSM.out]
            have h1 := linesN_take p.ops (k + 1)
            have h2 : ¬ linesN p.ops ≤ 2000 := by have := HSN.out; omega
            simp [h2]
          have HNO := Lib.hid hno
          clear hno
          go_wp2_with fail
          go_ret
          exact ⟨ret_bool HNO.out.symm, HBA.out _⟩
        · have e3 : ¬ (2000 : Int) < (N : Int) + L := by omega
          go_wp2_with fail
          exact ⟨⟨k + 1, N + L, by omega, by go_num, by go_num, by omega, Lib.hid HSN.out.symm, Lib.hid (HBA.out _)⟩, by simp [intOf]; omega⟩
      · obtain rfl : k = n := by omega
        have hyes : smallP p = true := by
          rw [HSM.out]
          have h1 : linesN p.ops = N := by rw [HNN.out, List.take_of_length_le (by rw [← HN.out]; exact Nat.le_refl _)]
          simp [g1, g2, h1, hN]
        have HY := Lib.hid hyes
        clear hyes
        go_wp2_with fail
        go_ret
        exact ⟨ret_bool HY.out.symm, HB.out⟩
  · have hs : smallP p = false := by
      rw [HSM.out]
      by_cases g1 : m ≤ 200
      · have g2 : ¬ n ≤ 1000 := fun h => hg ⟨g1, h⟩
        simp [g2]
      · simp [g1]
    have HS := Lib.hid hs
    clear hs
    go_enter Tryz.func21, Tryz.ntmps21
    go_wp2_with fail
    all_goals first
      | (exfalso; omega)
      | (go_ret; exact ⟨ret_bool HS.out.symm, HB1.out _⟩)
end Go.Proofs.YtojnagonhihknaaGreatDoor
