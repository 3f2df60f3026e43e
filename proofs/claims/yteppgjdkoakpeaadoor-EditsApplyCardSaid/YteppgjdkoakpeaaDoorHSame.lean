/- The contract of the reference's Same: two lists of hunks, compared. -/
import Derived.Test.YteppgjdkoakpeaaDoorHReads
set_option linter.unusedVariables false
namespace Go.Proofs.YteppgjdkoakpeaaDoor
open Go.ChangeShapes Go.WideShapes Go.ChangeAt Go.RowKit

set_option maxHeartbeats 400000 in
theorem hsame_ne (a a' : Option Addr) (n m c c' : Nat) (w : World) (h : n ≠ m) (hn : n ≤ 9223372036854775807) (hm : m ≤ 9223372036854775807) :
    Calls Tryd.prog 13 #[.slice a n c, .slice a' m c'] w fun e w' => e = .returned (.bool false) ∧ w' = w := by
  have h1 : ((n : Int) != (m : Int)) = true := by rw [bne_iff_ne]; omega
  go_enter Tryd.func13, Tryd.ntmps13
  go_wp2
  go_ret
  exact ⟨rfl, rfl⟩

set_option maxHeartbeats 400000 in
theorem hsame_nil (a a' : Option Addr) (c c' : Nat) (w : World) :
    Calls Tryd.prog 13 #[.slice a 0 c, .slice a' 0 c'] w fun e w' => e = .returned (.bool true) ∧ w' = w := by
  go_enter Tryd.func13, Tryd.ntmps13
  go_wp2
  refine wp_loop_rounds 1 ?_
  rw [rounds_succ]
  go_wp2
  go_ret
  exact ⟨rfl, rfl⟩

theorem hk_eq {p q : Hk} (h1 : p.at_ = q.at_) (h2 : p.cut = q.cut) (h3 : p.put = q.put) : p = q := by
  cases p; cases q; simp_all
theorem ret_no {ps qs : List (Hk × Value)} {m : Nat} {p q : Hk × Value} (hp : ps[m]? = some p) (hq : qs[m]? = some q) (h : p.1 ≠ q.1) : false = decide (ps.map (·.1) = qs.map (·.1)) := by
  rw [eq_comm, decide_eq_false_iff_not]
  intro e
  have e2 := congrArg (fun l => l[m]?) e
  simp only [List.getElem?_map, hp, hq, Option.map_some, Option.some.injEq] at e2
  exact h e2

set_option maxRecDepth 100000 in
set_option maxHeartbeats 4000000 in
theorem hsame_cells (b o b' o' c c' n : Nat) (ps qs : List (Hk × Value)) (w : World) (hn : n = ps.length) (hl : n = qs.length) (hm : n ≤ 9223372036854775807) (hx : HCells w b o ps) (hy : HCells w b' o' qs) :
    Calls Tryd.prog 13 #[.slice (some ⟨b, o, none⟩) n c, .slice (some ⟨b', o', none⟩) n c'] w fun e w' => e = .returned (.bool (decide (ps.map (·.1) = qs.map (·.1)))) ∧ ∃ n, w' = w.drewN n := by
  have HN := Lib.hid hn
  have HL := Lib.hid hl
  have HX := Lib.hid hx
  have HY := Lib.hid hy
  clear hn hl hx hy
  go_enter Tryd.func13, Tryd.ntmps13
  go_wp2
  go_loopw [5] (fun i wr => ∃ k d : Nat, k ≤ n ∧ i = .int .i64 k ∧ wr = w.drewN d ∧ (ps.map (·.1)).take k = (qs.map (·.1)).take k) (fun i _ => n - (intOf i).toNat)
  case atStart => exact ⟨0, 0, Nat.zero_le _, rfl, rfl, rfl⟩
  case round =>
    obtain ⟨k, d, hk, rfl, rfl, ht⟩ := hrel
    have HT := Lib.hid ht
    clear ht
    by_cases hlt : k < n
    · obtain ⟨p, ep⟩ : ∃ p, ps[k]? = some p := ⟨ps[k]'(by rw [← HN.out]; exact hlt), by simp⟩
      obtain ⟨q, eq⟩ : ∃ q, qs[k]? = some q := ⟨qs[k]'(by rw [← HL.out]; exact hlt), by simp⟩
      obtain ⟨p1, p2, p3, p4⟩ := HX.out.2 k p ep
      obtain ⟨q1, q2, q3, q4⟩ := HY.out.2 k q eq
      obtain ⟨pa, pc, ea⟩ := p4.form
      obtain ⟨qa, qc, eb⟩ := q4.form
      rw [ea] at p3 p4
      rw [eb] at q3 q4
      obtain ⟨pL, hpL⟩ : ∃ L, L = p.1.put.length := ⟨_, rfl⟩
      obtain ⟨qL, hqL⟩ : ∃ L, L = q.1.put.length := ⟨_, rfl⟩
      obtain ⟨pA, hpA⟩ : ∃ L, L = p.1.at_ := ⟨_, rfl⟩
      obtain ⟨qA, hqA⟩ : ∃ L, L = q.1.at_ := ⟨_, rfl⟩
      obtain ⟨pC, hpC⟩ : ∃ L, L = p.1.cut := ⟨_, rfl⟩
      obtain ⟨qC, hqC⟩ : ∃ L, L = q.1.cut := ⟨_, rfl⟩
      rw [← hpL] at p3 p4
      rw [← hqL] at q3 q4
      rw [← hpA] at p1
      rw [← hqA] at q1
      rw [← hpC] at p2
      rw [← hqC] at q2
      have EP := Lib.hid ep
      have EQ := Lib.hid eq
      have PL := Lib.hid hpL
      have QL := Lib.hid hqL
      have PA := Lib.hid hpA
      have QA := Lib.hid hqA
      have PC := Lib.hid hpC
      have QC := Lib.hid hqC
      have P4 := Lib.hid p4
      have Q4 := Lib.hid q4
      clear ep eq hpL hqL hpA hqA hpC hqC p4 q4 ea eb
      have h0 : (0 : Int) ≤ k := by omega
      have h1 : (k : Int) < n := by omega
      by_cases eA : pA = qA
      · have cA : (pA != qA) = false := by rw [bne_eq_false_iff_eq]; exact eA
        by_cases eC : pC = qC
        · have cC : (pC != qC) = false := by rw [bne_eq_false_iff_eq]; exact eC
          by_cases eL : pL = qL
          · have cL : ((pL : Int) != (qL : Int)) = false := by rw [bne_eq_false_iff_eq]; omega
            have EA := Lib.hid eA
            have EC := Lib.hid eC
            have EL := Lib.hid eL
            clear eA eC eL
            go_wp2
            go_quiet (fail)
            go_wp2
            go_loopw [6] (fun jv wr => ∃ j d : Nat, j ≤ pL ∧ jv = .int .i64 j ∧ wr = w.drewN d ∧ p.1.put.take j = q.1.put.take j) (fun jv _ => pL - (intOf jv).toNat)
            case atStart => exact ⟨0, _, Nat.zero_le _, rfl, World.drewN_drewN _ _ _, rfl⟩
            case round =>
             as_aux_lemma =>
              obtain ⟨j, d2, hj, rfl, rfl, ht2⟩ := hrel
              have HT2 := Lib.hid ht2
              clear ht2
              by_cases hjl : j < pL
              · obtain ⟨x, ex⟩ : ∃ x, p.1.put[j]? = some x := ⟨p.1.put[j]'(by rw [← PL.out]; exact hjl), by simp⟩
                obtain ⟨y, ey⟩ : ∃ y, q.1.put[j]? = some y := ⟨q.1.put[j]'(by rw [← QL.out, ← EL.out]; exact hjl), by simp⟩
                obtain ⟨-, hpb1, hpb2, pb, po, epa, hpc⟩ := P4.out.some (by intro e; rw [e] at ex; simp at ex)
                have hpb : pL ≤ 9223372036854775807 := by omega
                clear hpb1 hpb2
                obtain ⟨-, -, -, qb, qo, eqa, hqc⟩ := Q4.out.some (by intro e; rw [e] at ey; simp at ey)
                have cx : w.cell? ⟨pb, po + j, none⟩ = some (.string x) := hpc.2 j x ex
                have cy : w.cell? ⟨qb, qo + j, none⟩ = some (.string y) := hqc.2 j y ey
                subst epa eqa
                have EX := Lib.hid ex
                have EY := Lib.hid ey
                clear ex ey hpc hqc
                have j0 : (0 : Int) ≤ j := by omega
                have j1 : (j : Int) < pL := by omega
                have j2 : (j : Int) < qL := by have := EL.out; omega
                go_wp2
                go_quiet (fail)
                go_wp2
                · have hne : x ≠ y := ba_ne (by assumption)
                  go_ret
                  refine ⟨ret_bool (ret_no EP.out EQ.out fun e => hne ?_), _, World.drewN_drewN _ _ _⟩
                  have h1 := EX.out
                  rw [e] at h1
                  exact Option.some.inj (h1.symm.trans EY.out)
                · have he : x = y := ba_eq (by assumption)
                  have eL := EL.out
                  refine ⟨⟨j + 1, _, by omega, by go_num, by first | rfl | exact World.drewN_drewN _ _ _, take_succ_eq HT2.out EX.out EY.out he⟩, by simp [intOf]; omega⟩
              · have hge : pL ≤ j := by omega
                go_wp2
                refine ⟨⟨k + 1, _, by omega, by go_num, rfl, ?_⟩, by simp [intOf]; omega⟩
                have e3 : p.1.put = q.1.put := by
                  have h1 : p.1.put.take j = p.1.put := List.take_of_length_le (by rw [← PL.out]; omega)
                  have h2 : q.1.put.take j = q.1.put := List.take_of_length_le (by rw [← QL.out, ← EL.out]; omega)
                  rw [← h1, ← h2]
                  exact HT2.out
                exact take_succ_eq HT.out (by rw [List.getElem?_map, EP.out]; rfl) (by rw [List.getElem?_map, EQ.out]; rfl) (hk_eq (by rw [← PA.out, ← QA.out]; exact EA.out) (by rw [← PC.out, ← QC.out]; exact EC.out) e3)
          · have cL : ((pL : Int) != (qL : Int)) = true := by rw [bne_iff_ne]; omega
            as_aux_lemma =>
              have EL := Lib.hid eL
              clear eL eA eC
              go_wp2
              go_quiet (fail)
              go_wp2
              go_ret
              refine ⟨ret_bool (ret_no EP.out EQ.out fun e => EL.out ?_), _, World.drewN_drewN _ _ _⟩
              rw [PL.out, QL.out, e]
        · have cC : (pC != qC) = true := by rw [bne_iff_ne]; exact eC
          as_aux_lemma =>
            have EC := Lib.hid eC
            clear eC eA
            go_wp2
            go_quiet (fail)
            go_wp2
            go_ret
            refine ⟨ret_bool (ret_no EP.out EQ.out fun e => EC.out ?_), _, World.drewN_drewN _ _ _⟩
            rw [PC.out, QC.out, e]
      · have cA : (pA != qA) = true := by rw [bne_iff_ne]; exact eA
        as_aux_lemma =>
          have EA := Lib.hid eA
          clear eA
          go_wp2
          go_quiet (fail)
          go_wp2
          go_ret
          refine ⟨ret_bool (ret_no EP.out EQ.out fun e => EA.out ?_), _, World.drewN_drewN _ _ _⟩
          rw [PA.out, QA.out, e]
    · have hge : n ≤ k := by omega
      go_wp2
      go_ret
      refine ⟨ret_bool ?_, _, rfl⟩
      have e : k = n := by omega
      have h1 : (ps.map (·.1)).take k = ps.map (·.1) := List.take_of_length_le (by rw [List.length_map, ← HN.out]; omega)
      have h2 : (qs.map (·.1)).take k = qs.map (·.1) := List.take_of_length_le (by rw [List.length_map, ← HL.out]; omega)
      rw [eq_comm, decide_eq_true_iff, ← h1, ← h2]
      exact HT.out

theorem hsame_any (hs ks : List Hk) (v v' : Value) (w : World) (hx : HReads w v hs) (hy : HReads w v' ks) :
    Calls Tryd.prog 13 #[v, v'] w fun e w' => e = .returned (.bool (decide (hs = ks))) ∧ ∃ n, w' = w.drewN n := by
  by_cases hl : hs.length = ks.length
  · obtain ⟨ps, rfl, hx⟩ := hx
    obtain ⟨qs, rfl, hy⟩ := hy
    rw [List.length_map, List.length_map] at hl
    rcases hx with ⟨rfl, a, c, rfl⟩ | ⟨hn, b, o, c, rfl, hc, hm, hx⟩
    · rcases hy with ⟨rfl, a', c', rfl⟩ | ⟨hn', b', o', c', rfl, hc', hm', hy⟩
      · exact (hsame_nil a a' c c' w).mono fun e w' ⟨he, hw⟩ => ⟨by rw [he]; rfl, 0, hw⟩
      · exact absurd (List.length_eq_zero_iff.1 hl.symm) hn'
    · rcases hy with ⟨rfl, a', c', rfl⟩ | ⟨hn', b', o', c', rfl, hc', hm', hy⟩
      · exact absurd (List.length_eq_zero_iff.1 hl) hn
      · rw [← hl]
        exact hsame_cells b o b' o' c c' ps.length ps qs w rfl hl (by omega) hx hy
  · have hd : decide (hs = ks) = false := by rw [decide_eq_false_iff_not]; rintro rfl; exact hl rfl
    rw [hd]
    obtain ⟨a, c, rfl, h1⟩ := hx.len
    obtain ⟨a', c', rfl, h2⟩ := hy.len
    exact (hsame_ne a a' _ _ c c' w hl h1 h2).mono fun e w' ⟨he, hw⟩ => ⟨he, 0, hw⟩
end Go.Proofs.YteppgjdkoakpeaaDoor
