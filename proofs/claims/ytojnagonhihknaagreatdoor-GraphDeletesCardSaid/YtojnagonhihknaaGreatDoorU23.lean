/- The contract of the checker's op. The contract of sound. -/
import Derived.Test.YtojnagonhihknaaGreatDoorU13
set_option linter.unusedVariables false
namespace Go.Proofs.YtojnagonhihknaaGreatDoor
open Go.ChangeShapes Go.WideShapes Go.ChangeAt Go.RowKit

set_option maxHeartbeats 4000000 in
set_option maxRecDepth 100000 in
theorem pop_any (deps made : Nat) (o : Opp) (lv : Value) (w : World) (hm : made ≤ 300) (hr : Reads w lv o.lines) (hs : ∀ x ∈ o.lines, x.size ≤ 140737488355328) :
    Calls Tryz.prog 134 #[ckV deps made, opV o lv] w fun e w' => e = .returned (.bool (opB deps made o)) ∧ Below w.heap.size w w' := by
  obtain ⟨a, c, rfl, hn⟩ := hr.form
  obtain ⟨K, ⟨x, y⟩, ⟨u, v⟩, ls⟩ := o
  simp only at hr hs hn
  have hb2 : ∀ o1 o2, Below w.heap.size w ((w.alloc o1).alloc o2) := fun o1 o2 => ((Below.refl _ _).alloc (Nat.le_refl _) _).alloc (by simp) _
  have cl : ∀ wz, Below w.heap.size w wz → Calls Tryz.prog 166 #[ckV deps made, .slice a ls.length c] wz fun e w' => e = .returned (.bool (decide (ls.length ≠ 0) && decide (ls.length + made ≤ 300) && ls.all lineB)) ∧ Below wz.heap.size wz w' := fun wz hz => plines_any deps made ls _ wz hm (hr.below hz) hs
  have cb := fun wz => pbetween_any deps made ⟨x, y⟩ ⟨u, v⟩ wz
  have cr := fun wz => pref_any deps made ⟨x, y⟩ wz
  obtain ⟨lb, hlb⟩ : ∃ b, b = (decide (ls.length ≠ 0) && decide (ls.length + made ≤ 300) && ls.all lineB) := ⟨_, rfl⟩
  obtain ⟨bb, hbb⟩ : ∃ b, b = betwB deps made ⟨x, y⟩ ⟨u, v⟩ := ⟨_, rfl⟩
  obtain ⟨rb, hrb⟩ : ∃ b, b = refB deps made ⟨x, y⟩ := ⟨_, rfl⟩
  have o1 : K = 1 → opB deps made ⟨K, ⟨x, y⟩, ⟨u, v⟩, ls⟩ = (lb && bb) := fun e => by
    subst e
    rw [hlb, hbb]
    simp only [opB, opR, if_true]
    apply Bool.eq_iff_iff.2
    simp only [Bool.and_eq_true, decide_eq_true_eq, true_implies]
    constructor <;> (rintro h; simp_all)
  have o2 : K = 2 ∨ K = 3 → opB deps made ⟨K, ⟨x, y⟩, ⟨u, v⟩, ls⟩ = (decide (ls.length = 0) && bb) := fun e => by
    have e1 : ¬ K = 1 := by omega
    rw [hbb]
    simp only [opB, opR, if_pos e, e1, if_false, false_implies, decide_true, Bool.and_true]
  have o4 : K = 4 ∨ K = 5 → opB deps made ⟨K, ⟨x, y⟩, ⟨u, v⟩, ls⟩ = (decide (ls.length = 0) && decide (u = 0 ∧ v = 0) && decide (0 ≤ x) && rb) := fun e => by
    have e1 : ¬ K = 1 := by omega
    have e2 : ¬ (K = 2 ∨ K = 3) := by omega
    rw [hrb]
    simp only [opB, opR, if_neg e2, if_pos e, e1, if_false, false_implies, decide_true, Bool.and_true, Rf.mk.injEq]
  have o0 : ¬ K = 1 → ¬ (K = 2 ∨ K = 3) → ¬ (K = 4 ∨ K = 5) → opB deps made ⟨K, ⟨x, y⟩, ⟨u, v⟩, ls⟩ = false := fun e1 e2 e3 => by
    simp only [opB, opR, if_neg e1, if_neg e2, if_neg e3, Bool.false_and]
  obtain ⟨n, hnn⟩ : ∃ n, n = ls.length := ⟨_, rfl⟩
  rw [← hlb, ← hnn] at cl
  rw [← hbb] at cb
  rw [← hrb] at cr
  rw [← hnn] at hn o2 o4 ⊢
  have CL := Lib.hid cl
  have CB := Lib.hid cb
  have CR := Lib.hid cr
  have HB := Lib.hid hb2
  clear cl cb cr hb2 hlb hbb hrb hnn hr hs
  by_cases k1 : K = 1
  · rw [o1 k1]
    subst k1
    clear o1 o2 o4 o0
    go_enter Tryz.func134, Tryz.ntmps134
    go_wp2_with fail
    refine (CL.out _ (HB.out _ _)).mono ?_
    rintro e w1 ⟨rfl, hb1⟩
    obtain ⟨q1, q2, qb, qs⟩ := boxA2 hb1
    have q10 := q1 0
    have q11 := q1 1
    have q21 := q2 1
    have q22 := q2 2
    have q23 := q2 3
    have q24 := q2 4
    have QB := Lib.hid qb
    clear hb1 q1 q2 qb qs
    cases lb with
    | false =>
      go_wp2_with fail
      go_ret
      exact ⟨rfl, QB.out⟩
    | true =>
      go_wp2_with fail
      refine (CB.out _).mono ?_
      rintro e w2 ⟨rfl, hb2⟩
      have QB2 := Lib.hid (QB.out.trans (hb2.mono QB.out.size))
      clear hb2
      go_wp2_with fail
      go_ret
      exact ⟨rfl, QB2.out⟩
  · have j1 := neI k1
    by_cases k2 : K = 2 ∨ K = 3
    · rw [o2 k2]
      clear o1 o2 o4 o0
      have hk : (K = 2 ∧ True) ∨ K = 3 := by rcases k2 with h | h; exact .inl ⟨h, trivial⟩; exact .inr h
      clear k2 k1
      rcases hk with ⟨rfl, _⟩ | rfl
      all_goals
        by_cases h0 : n = 0
        · subst h0
          go_enter Tryz.func134, Tryz.ntmps134
          go_wp2_with fail
          refine (CB.out _).mono ?_
          rintro e w2 ⟨rfl, hb2⟩
          obtain ⟨_, _, qb, _⟩ := boxA2 hb2
          have QB := Lib.hid qb
          clear hb2 qb
          go_wp2_with fail
          go_ret
          exact ⟨ret_bool (by simp), QB.out⟩
        · have e1 : ((n : Int) == 0) = false := by simp [h0]
          go_enter Tryz.func134, Tryz.ntmps134
          go_wp2_with fail
          all_goals go_ret
          all_goals exact ⟨ret_bool (by simp [h0]), HB.out _ _⟩
    · by_cases k4 : K = 4 ∨ K = 5
      · rw [o4 k4]
        clear o1 o2 o4 o0
        have hk : (K = 4 ∧ True) ∨ K = 5 := by rcases k4 with h | h; exact .inl ⟨h, trivial⟩; exact .inr h
        clear k4 k1 k2
        rcases hk with ⟨rfl, _⟩ | rfl
        all_goals
          by_cases h0 : n = 0
          · subst h0
            by_cases hu : u = 0 ∧ v = 0
            · obtain ⟨rfl, rfl⟩ := hu
              by_cases hx : 0 ≤ x
              · go_enter Tryz.func134, Tryz.ntmps134
                go_wp2_with fail
                refine (CR.out _).mono ?_
                rintro e w2 ⟨rfl, hb2⟩
                obtain ⟨_, _, qb, _⟩ := boxA2 hb2
                have QB := Lib.hid qb
                clear hb2 qb
                go_wp2_with fail
                go_ret
                exact ⟨ret_bool (by simp [hx]), QB.out⟩
              · go_enter Tryz.func134, Tryz.ntmps134
                go_wp2_with fail
                all_goals go_ret
                all_goals exact ⟨ret_bool (by simp; intro h; omega), HB.out _ _⟩
            · have hu2 : decide (u = 0 ∧ v = 0) = false := decide_eq_false hu
              rw [hu2]
              have hu3 : (u == 0 && v == 0) = false := by rw [Bool.eq_false_iff]; intro h; simp at h; exact hu h
              go_enter Tryz.func134, Tryz.ntmps134
              go_wp2_with fail
              all_goals first | (exfalso; simp_all; done) | (go_ret; exact ⟨ret_bool (by simp), HB.out _ _⟩)
          · have e1 : ((n : Int) == 0) = false := by simp [h0]
            go_enter Tryz.func134, Tryz.ntmps134
            go_wp2_with fail
            all_goals go_ret
            all_goals exact ⟨ret_bool (by simp [h0]), HB.out _ _⟩
      · rw [o0 k1 k2 k4]
        clear o1 o2 o4 o0
        simp only [not_or] at k2 k4
        have j2 := neI k2.1
        have j3 := neI k2.2
        have j4 := neI k4.1
        have j5 := neI k4.2
        clear k1 k2 k4
        go_enter Tryz.func134, Tryz.ntmps134
        go_wp2_with fail
        go_ret
        exact ⟨rfl, HB.out _ _⟩
end Go.Proofs.YtojnagonhihknaaGreatDoor
set_option linter.unusedVariables false
namespace Go.Proofs.YtojnagonhihknaaGreatDoor
open Go.ChangeShapes Go.WideShapes Go.ChangeAt Go.RowKit

theorem sound_no {p : Pt} (h : ¬ (p.note.size ≤ 100 ∧ p.ops.length ≤ 400 ∧ risB p.deps = true ∧ opsB p.deps.length 0 p.ops = true)) : soundB p = false := by
  rw [Bool.eq_false_iff]
  intro hb
  unfold soundB at hb
  simp only [Bool.and_eq_true, decide_eq_true_eq] at hb
  exact h ⟨hb.1.1.1, hb.1.1.2, hb.1.2, hb.2⟩
theorem sound_yes {p : Pt} (h1 : p.note.size ≤ 100) (h2 : p.ops.length ≤ 400) (h3 : risB p.deps = true) (h4 : opsB p.deps.length 0 p.ops = true) : soundB p = true := by
  unfold soundB
  simp only [Bool.and_eq_true, decide_eq_true_eq]
  exact ⟨⟨⟨h1, h2⟩, h3⟩, h4⟩
theorem ops_step {deps k : Nat} {l : List Opp} {x : Opp} (h : opsB deps 0 (l.take k) = true) (hx : l[k]? = some x) (hf : opB deps (linesN (l.take k)) x = true) : opsB deps 0 (l.take (k + 1)) = true := by
  rw [take_snoc hx, opsB_app, h, Nat.zero_add]
  simp [opsB, hf]
theorem ops_no {deps k : Nat} {l : List Opp} {x : Opp} (hx : l[k]? = some x) (hf : opB deps (linesN (l.take k)) x = false) : opsB deps 0 l = false := by
  have e : l = l.take k ++ x :: l.drop (k + 1) := by
    obtain ⟨h, e⟩ := List.getElem?_eq_some_iff.1 hx
    rw [← e, List.getElem_cons_drop, List.take_append_drop]
  rw [e, opsB_app, Nat.zero_add, opsB, hf]
  simp
theorem ops_lines {deps : Nat} : ∀ (l : List Opp) (m : Nat), m ≤ 300 → opsB deps m l = true → m + linesN l ≤ 300
  | [], m, hm, _ => by simpa [linesN] using hm
  | o :: r, m, hm, h => by
    simp only [opsB, opB, Bool.and_eq_true, decide_eq_true_eq] at h
    obtain ⟨⟨h1, h2⟩, h3⟩ := h
    have e := opR_lines h1
    have : m + o.lines.length ≤ 300 := by
      by_cases hk : o.kind = 1
      · have := h2 hk; omega
      · rw [if_neg hk] at e; omega
    have := ops_lines r _ this h3
    simp only [linesN]; omega
theorem linesN_snoc {l : List Opp} {k : Nat} {x : Opp} (hx : l[k]? = some x) : linesN (l.take (k + 1)) = linesN (l.take k) + x.lines.length := by
  rw [take_snoc hx, linesN_app]; simp [linesN]

set_option maxHeartbeats 4000000 in
set_option maxRecDepth 100000 in
theorem psound_any (p : Pt) (dv ov : Value) (w : World) (hp : PReads w p.note dv ov p) (hf : p.fine) :
    Calls Tryz.prog 111 #[ptV p.note dv ov] w fun e w' => e = .returned (.bool (soundB p)) ∧ Below w.heap.size w w' := by
  obtain ⟨_, hd, ho⟩ := hp
  obtain ⟨da, dc, rfl, hdn⟩ := hd.form
  obtain ⟨oa, oc, rfl, hon⟩ := ho.form
  obtain ⟨t, ht⟩ : ∃ t, t = p.note := ⟨_, rfl⟩
  obtain ⟨n, hnn⟩ : ∃ n, n = p.ops.length := ⟨_, rfl⟩
  obtain ⟨m, hmm⟩ : ∃ m, m = p.deps.length := ⟨_, rfl⟩
  have hb1 : ∀ o1, Below w.heap.size w (w.alloc o1) := fun o1 => (Below.refl _ _).alloc (Nat.le_refl _) _
  have cr : ∀ wz, Below w.heap.size w wz → Calls Tryz.prog 133 #[.slice da m dc] wz fun e w' => e = .returned (.bool (risB p.deps)) ∧ Below wz.heap.size wz w' := fun wz hz => by
    rw [hmm]; exact prising_any p.deps _ wz (hd.below hz)
  obtain ⟨rb, hrb⟩ : ∃ b, b = risB p.deps := ⟨_, rfl⟩
  rw [← hrb] at cr
  rw [← hnn] at ho hon ⊢
  rw [← hmm] at hd hdn ⊢
  rw [← ht]
  have CR := Lib.hid cr
  have HO := Lib.hid ho
  have HN := Lib.hid hnn
  have HM := Lib.hid hmm
  have HT := Lib.hid ht
  have HRB := Lib.hid hrb
  have HB1 := Lib.hid hb1
  have HF := Lib.hid hf
  have hts : t.size ≤ 140737488355328 := by rw [ht]; exact hf.note
  clear cr ho hnn hmm ht hrb hb1 hd hf
  by_cases h1 : 100 < t.size
  · have e1 : (100 : Int) < t.size := by omega
    have hs : soundB p = false := sound_no (fun h => by have := h.1; rw [← HT.out] at this; omega)
    rw [hs]
    clear hs
    go_enter Tryz.func111, Tryz.ntmps111
    go_wp2_with fail
    all_goals go_ret
    all_goals exact ⟨rfl, HB1.out _⟩
  · have e1 : ¬ (100 : Int) < t.size := by omega
    by_cases h2 : 400 < n
    · have e2 : (400 : Int) < n := by omega
      have hs : soundB p = false := sound_no (fun h => by have := h.2.1; rw [← HN.out] at this; omega)
      rw [hs]
      clear hs
      go_enter Tryz.func111, Tryz.ntmps111
      go_wp2_with fail
      all_goals go_ret
      all_goals exact ⟨rfl, HB1.out _⟩
    · have e2 : ¬ (400 : Int) < n := by omega
      cases rb with
      | false =>
        have hs : soundB p = false := sound_no (fun h => by have := h.2.2.1; rw [← HRB.out] at this; cases this)
        rw [hs]
        clear hs
        go_enter Tryz.func111, Tryz.ntmps111
        go_wp2_with fail
        refine (CR.out _ (HB1.out _)).mono ?_
        rintro e w1 ⟨rfl, hb⟩
        obtain ⟨_, qb, _⟩ := boxA1 hb
        have QB := Lib.hid qb
        clear hb qb
        go_wp2_with fail
        all_goals go_ret
        all_goals exact ⟨rfl, QB.out⟩
      | true =>
        go_enter Tryz.func111, Tryz.ntmps111
        go_wp2_with fail
        refine (CR.out _ (HB1.out _)).mono ?_
        rintro e w1 ⟨rfl, hb⟩
        obtain ⟨q1, qb, qs⟩ := boxA1 hb
        have q11 := q1 1
        have q12 := q1 2
        have qlt : w.heap.size < w1.heap.size := by omega
        have QB := Lib.hid qb
        clear hb qb q1 qs
        go_wp2_with fail
        go_loopw [29] (fun i wr => ∃ k L : Nat, k ≤ n ∧ i = .int .i64 k ∧ L ≤ 300 ∧ Hid (L = linesN (p.ops.take k)) ∧ Hid (Below w1.heap.size w1 wr) ∧ w1.heap.size < wr.heap.size ∧ wr.cell? ⟨w1.heap.size, 0, none⟩ = some (.int .i64 (m : Nat)) ∧ wr.cell? ⟨w1.heap.size, 1, none⟩ = some (.int .i64 (L : Nat)) ∧ wr.frozen? ⟨w1.heap.size, 1, none⟩ = false ∧ Hid (opsB m 0 (p.ops.take k) = true)) (fun i _ => n - (intOf i).toNat)
        case atStart =>
          refine ⟨0, 0, Nat.zero_le _, rfl, by omega, Lib.hid (by simp [linesN]), Lib.hid ((Below.refl _ _).alloc (Nat.le_refl _) _), by simp, ?_, ?_, ?_, Lib.hid (by simp [opsB])⟩
          · exact (World.cell?_alloc_at _ _ _ _ rfl).trans rfl
          · exact (World.cell?_alloc_at _ _ _ _ rfl).trans rfl
          · exact World.frozen?_alloc_at _ _ _ _ rfl
        case round =>
          obtain ⟨k, L, hk, rfl, hL, HLL, HB, hsz, c0, c1, f1, HA⟩ := hrel
          have HBW := Lib.hid (QB.out.trans (HB.out.mono (Nat.le_of_lt qlt)))
          by_cases hlt : k < n
          · obtain ⟨x, hx⟩ : ∃ x, p.ops[k]? = some x := ⟨p.ops[k]'(by rw [← HN.out]; exact hlt), by simp⟩
            obtain ⟨b, o, rfl, hnl, hcl⟩ := HO.out.at hx
            clear hnl
            obtain ⟨lv, d0, d1, d2, d3, d4, d5, d6⟩ := (hcl.below HBW.out).2 k x hx
            obtain ⟨la, lc, hlv, hln⟩ := d6.form
            subst hlv
            have hop : ∀ wz, Below wr.heap.size wr wz → Calls Tryz.prog 134 #[ckV m L, opV x (.slice la x.lines.length lc)] wz fun e w' => e = .returned (.bool (opB m L x)) ∧ Below wz.heap.size wz w' := fun wz hz => pop_any m L x _ wz hL (d6.below hz) (HF.out.ops x (List.mem_of_getElem? hx))
            obtain ⟨ob, hob⟩ : ∃ b, b = opB m L x := ⟨_, rfl⟩
            obtain ⟨N, hN⟩ : ∃ N, N = x.lines.length := ⟨_, rfl⟩
            rw [← hob, ← hN] at hop
            rw [← hN] at d5 d6 hln
            have HX := Lib.hid hx
            have HOB := Lib.hid hob
            have HNN := Lib.hid hN
            have HOP := Lib.hid hop
            have ha1 : ∀ o1, Below wr.heap.size wr (wr.alloc o1) := fun o1 => (Below.refl _ _).alloc (Nat.le_refl _) _
            have HA1 := Lib.hid ha1
            clear hx hob hN hop d6 hcl ha1
            obtain ⟨K, ⟨ax, ay⟩, ⟨bx, bY⟩, ls⟩ := x
            simp only at d0 d1 d2 d3 d4
            cases ob with
            | false =>
              have hs : soundB p = false := sound_no (fun h => by
                have h1 := h.2.2.2
                rw [ops_no HX.out (by rw [← HLL.out, ← HM.out]; exact HOB.out.symm)] at h1
                cases h1)
              have HSN := Lib.hid hs
              clear hs
              go_wp2_with fail
              refine (HOP.out _ (HA1.out _)).mono ?_
              rintro e w2 ⟨rfl, hb2⟩
              have HB2 := Lib.hid (HBW.out.trans (((HA1.out _).trans (hb2.mono (by simp))).mono HBW.out.size))
              clear hb2
              go_wp2_with fail
              all_goals go_ret
              all_goals exact ⟨ret_bool HSN.out.symm, HB2.out⟩
            | true =>
              have hsn : opsB m 0 (p.ops.take (k + 1)) = true := ops_step HA.out HX.out (by rw [← HLL.out]; exact HOB.out.symm)
              have hL2 : L + N = linesN (p.ops.take (k + 1)) := by rw [linesN_snoc HX.out, ← HLL.out, HNN.out]
              have hL3 : L + N ≤ 300 := by rw [hL2]; have := ops_lines _ 0 (by omega) hsn; omega
              have HSN := Lib.hid hsn
              have HL2 := Lib.hid hL2
              clear hsn hL2
              go_wp2_with fail
              refine (HOP.out _ (HA1.out _)).mono ?_
              rintro e w2 ⟨rfl, hb2⟩
              obtain ⟨r1, rb2, rs⟩ := boxA1 hb2
              have r15 := r1 5
              have rc0 := (rb2.cell (p := ⟨w1.heap.size, 0, none⟩) hsz).trans c0
              have rc1 := (rb2.cell (p := ⟨w1.heap.size, 1, none⟩) hsz).trans c1
              have rf1 := (rb2.frozen (p := ⟨w1.heap.size, 1, none⟩) hsz).trans f1
              have HB2 := Lib.hid (HB.out.trans (rb2.mono (Nat.le_of_lt hsz)))
              have hsz2 : w1.heap.size < w2.heap.size := by omega
              clear hb2 r1 rb2 rs c0 c1 f1
              go_wp2_with fail
              refine ⟨⟨k + 1, L + N, by omega, by go_num, hL3, Lib.hid HL2.out, Lib.hid (HB2.out.setCell (p := ⟨w1.heap.size, 1, none⟩) (Nat.le_refl _) _), ?_, ?_, ?_, ?_, Lib.hid HSN.out⟩, by simp [intOf]; omega⟩
              · simpa [World.setCell] using hsz2
              · exact (World.cell?_setCell_other _ _ _ _ (by simp)).trans rc0
              · exact (World.cell?_setCell_same _ _ _ rc1).trans (by rw [Int.natCast_add])
              · rw [World.frozen?_setCell]; exact rf1
          · have hke : n ≤ k := by omega
            have hs : soundB p = true := sound_yes (by rw [← HT.out]; omega) (by rw [← HN.out]; omega) HRB.out.symm (by have := HA.out; rwa [List.take_of_length_le (by rw [← HN.out]; exact hke), HM.out] at this)
            have HSY := Lib.hid hs
            clear hs hke
            go_wp2
            go_ret
            exact ⟨ret_bool HSY.out.symm, HBW.out⟩
end Go.Proofs.YtojnagonhihknaaGreatDoor
