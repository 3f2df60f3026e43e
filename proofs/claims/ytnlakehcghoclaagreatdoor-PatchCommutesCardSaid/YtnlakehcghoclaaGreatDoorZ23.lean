/- The contract of the checker's op. -/
import Derived.Test.YtnlakehcghoclaaGreatDoorZ22
set_option linter.unusedVariables false
namespace Go.Proofs.YtnlakehcghoclaaGreatDoor
open Go.ChangeShapes Go.WideShapes Go.ChangeAt Go.RowKit

set_option maxHeartbeats 4000000 in
set_option maxRecDepth 100000 in
theorem pop_any (deps made : Nat) (o : Opp) (lv : Value) (w : World) (hm : made ≤ 300) (hr : Reads w lv o.lines) (hs : ∀ x ∈ o.lines, x.size ≤ 140737488355328) :
    Calls Tryz.prog 58 #[ckV deps made, opV o lv] w fun e w' => e = .returned (.bool (opB deps made o)) ∧ Below w.heap.size w w' := by
  obtain ⟨a, c, rfl, hn⟩ := hr.form
  obtain ⟨K, ⟨x, y⟩, ⟨u, v⟩, ls⟩ := o
  simp only at hr hs hn
  have hb2 : ∀ o1 o2, Below w.heap.size w ((w.alloc o1).alloc o2) := fun o1 o2 => ((Below.refl _ _).alloc (Nat.le_refl _) _).alloc (by simp) _
  have cl : ∀ wz, Below w.heap.size w wz → Calls Tryz.prog 98 #[ckV deps made, .slice a ls.length c] wz fun e w' => e = .returned (.bool (decide (ls.length ≠ 0) && decide (ls.length + made ≤ 300) && ls.all lineB)) ∧ Below wz.heap.size wz w' := fun wz hz => plines_any deps made ls _ wz hm (hr.below hz) hs
  have cb := fun wz => pbetween_any deps made ⟨x, y⟩ ⟨u, v⟩ wz
  have cr := fun wz => pref_any deps made ⟨x, y⟩ wz
  obtain ⟨lb, hlb⟩ : ∃ b, b = (decide (ls.length ≠ 0) && decide (ls.length + made ≤ 300) && ls.all lineB) := ⟨_, rfl⟩
  obtain ⟨bb, hbb⟩ : ∃ b, b = betwB deps made ⟨x, y⟩ ⟨u, v⟩ := ⟨_, rfl⟩
  obtain ⟨rb, hrb⟩ : ∃ b, b = refB deps made ⟨x, y⟩ := ⟨_, rfl⟩
  have o1 : K = 1 → opB deps made ⟨K, ⟨x, y⟩, ⟨u, v⟩, ls⟩ = (lb && bb) := fun e => by
    subst e
    rw [hlb, hbb]
    simp only [opB, opR, if_true]
    apply Bool.eq_iff_iff.2
    simp only [Bool.and_eq_true, decide_eq_true_eq, true_implies]
    constructor <;> (rintro h; simp_all)
  have o2 : K = 2 ∨ K = 3 → opB deps made ⟨K, ⟨x, y⟩, ⟨u, v⟩, ls⟩ = (decide (ls.length = 0) && bb) := fun e => by
    have e1 : ¬ K = 1 := by omega
    rw [hbb]
    simp only [opB, opR, if_pos e, e1, if_false, false_implies, decide_true, Bool.and_true]
  have o4 : K = 4 ∨ K = 5 → opB deps made ⟨K, ⟨x, y⟩, ⟨u, v⟩, ls⟩ = (decide (ls.length = 0) && decide (u = 0 ∧ v = 0) && decide (0 ≤ x) && rb) := fun e => by
    have e1 : ¬ K = 1 := by omega
    have e2 : ¬ (K = 2 ∨ K = 3) := by omega
    rw [hrb]
    simp only [opB, opR, if_neg e2, if_pos e, e1, if_false, false_implies, decide_true, Bool.and_true, Rf.mk.injEq]
  have o0 : ¬ K = 1 → ¬ (K = 2 ∨ K = 3) → ¬ (K = 4 ∨ K = 5) → opB deps made ⟨K, ⟨x, y⟩, ⟨u, v⟩, ls⟩ = false := fun e1 e2 e3 => by
    simp only [opB, opR, if_neg e1, if_neg e2, if_neg e3, Bool.false_and]
  obtain ⟨n, hnn⟩ : ∃ n, n = ls.length := ⟨_, rfl⟩
  rw [← hlb, ← hnn] at cl
  rw [← hbb] at cb
  rw [← hrb] at cr
  rw [← hnn] at hn o2 o4 ⊢
  have CL := Lib.hid cl
  have CB := Lib.hid cb
  have CR := Lib.hid cr
  have HB := Lib.hid hb2
  clear cl cb cr hb2 hlb hbb hrb hnn hr hs
  by_cases k1 : K = 1
  · rw [o1 k1]
    subst k1
    clear o1 o2 o4 o0
    go_enter Tryz.func58, Tryz.ntmps58
    go_wp2_with fail
    refine (CL.out _ (HB.out _ _)).mono ?_
    rintro e w1 ⟨rfl, hb1⟩
    obtain ⟨q1, q2, qb, qs⟩ := boxA2 hb1
    have q10 := q1 0
    have q11 := q1 1
    have q21 := q2 1
    have q22 := q2 2
    have q23 := q2 3
    have q24 := q2 4
    have QB := Lib.hid qb
    clear hb1 q1 q2 qb qs
    cases lb with
    | false =>
      go_wp2_with fail
      go_ret
      exact ⟨rfl, QB.out⟩
    | true =>
      go_wp2_with fail
      refine (CB.out _).mono ?_
      rintro e w2 ⟨rfl, hb2⟩
      have QB2 := Lib.hid (QB.out.trans (hb2.mono QB.out.size))
      clear hb2
      go_wp2_with fail
      go_ret
      exact ⟨rfl, QB2.out⟩
  · have j1 := neI k1
    by_cases k2 : K = 2 ∨ K = 3
    · rw [o2 k2]
      clear o1 o2 o4 o0
      have hk : (K = 2 ∧ True) ∨ K = 3 := by rcases k2 with h | h; exact .inl ⟨h, trivial⟩; exact .inr h
      clear k2 k1
      rcases hk with ⟨rfl, _⟩ | rfl
      all_goals
        by_cases h0 : n = 0
        · subst h0
          go_enter Tryz.func58, Tryz.ntmps58
          go_wp2_with fail
          refine (CB.out _).mono ?_
          rintro e w2 ⟨rfl, hb2⟩
          obtain ⟨_, _, qb, _⟩ := boxA2 hb2
          have QB := Lib.hid qb
          clear hb2 qb
          go_wp2_with fail
          go_ret
          exact ⟨ret_bool (by simp), QB.out⟩
        · have e1 : ((n : Int) == 0) = false := by simp [h0]
          go_enter Tryz.func58, Tryz.ntmps58
          go_wp2_with fail
          all_goals go_ret
          all_goals exact ⟨ret_bool (by simp [h0]), HB.out _ _⟩
    · by_cases k4 : K = 4 ∨ K = 5
      · rw [o4 k4]
        clear o1 o2 o4 o0
        have hk : (K = 4 ∧ True) ∨ K = 5 := by rcases k4 with h | h; exact .inl ⟨h, trivial⟩; exact .inr h
        clear k4 k1 k2
        rcases hk with ⟨rfl, _⟩ | rfl
        all_goals
          by_cases h0 : n = 0
          · subst h0
            by_cases hu : u = 0 ∧ v = 0
            · obtain ⟨rfl, rfl⟩ := hu
              by_cases hx : 0 ≤ x
              · go_enter Tryz.func58, Tryz.ntmps58
                go_wp2_with fail
                refine (CR.out _).mono ?_
                rintro e w2 ⟨rfl, hb2⟩
                obtain ⟨_, _, qb, _⟩ := boxA2 hb2
                have QB := Lib.hid qb
                clear hb2 qb
                go_wp2_with fail
                go_ret
                exact ⟨ret_bool (by simp [hx]), QB.out⟩
              · go_enter Tryz.func58, Tryz.ntmps58
                go_wp2_with fail
                all_goals go_ret
                all_goals exact ⟨ret_bool (by simp; intro h; omega), HB.out _ _⟩
            · have hu2 : decide (u = 0 ∧ v = 0) = false := decide_eq_false hu
              rw [hu2]
              have hu3 : (u == 0 && v == 0) = false := by rw [Bool.eq_false_iff]; intro h; simp at h; exact hu h
              go_enter Tryz.func58, Tryz.ntmps58
              go_wp2_with fail
              all_goals first | (exfalso; simp_all; done) | (go_ret; exact ⟨ret_bool (by simp), HB.out _ _⟩)
          · have e1 : ((n : Int) == 0) = false := by simp [h0]
            go_enter Tryz.func58, Tryz.ntmps58
            go_wp2_with fail
            all_goals go_ret
            all_goals exact ⟨ret_bool (by simp [h0]), HB.out _ _⟩
      · rw [o0 k1 k2 k4]
        clear o1 o2 o4 o0
        simp only [not_or] at k2 k4
        have j2 := neI k2.1
        have j3 := neI k2.2
        have j4 := neI k4.1
        have j5 := neI k4.2
        clear k1 k2 k4
        go_enter Tryz.func58, Tryz.ntmps58
        go_wp2_with fail
        go_ret
        exact ⟨rfl, HB.out _ _⟩
end Go.Proofs.YtnlakehcghoclaaGreatDoor
