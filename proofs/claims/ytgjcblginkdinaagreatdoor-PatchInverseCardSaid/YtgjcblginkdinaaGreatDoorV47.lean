/- The reference's Same: two slices of strings, compared. The contracts of the document's Made and Same. The contract of the document's Same. -/
import Derived.Test.YtgjcblginkdinaaGreatDoorV0
import Derived.Test.YtgjcblginkdinaaGreatDoorV40
set_option linter.unusedVariables false
namespace Go.Proofs.YtgjcblginkdinaaGreatDoor
open Go.ChangeShapes Go.WideShapes Go.ChangeAt Go.RowKit

set_option maxHeartbeats 400000 in
theorem same_ne (a a' : Option Addr) (n m c c' : Nat) (w : World) (h : n ≠ m) (hn : n ≤ 9223372036854775807) (hm : m ≤ 9223372036854775807) :
    Calls Tryz.prog 41 #[.slice a n c, .slice a' m c'] w fun e w' => e = .returned (.bool false) ∧ w' = w := by
  have h1 : ((n : Int) != (m : Int)) = true := by rw [bne_iff_ne]; omega
  go_enter Tryz.func41, Tryz.ntmps41
  go_wp2
  go_ret
  exact ⟨rfl, rfl⟩

set_option maxHeartbeats 400000 in
theorem same_nil (a a' : Option Addr) (c c' : Nat) (w : World) :
    Calls Tryz.prog 41 #[.slice a 0 c, .slice a' 0 c'] w fun e w' => e = .returned (.bool true) ∧ w' = w := by
  go_enter Tryz.func41, Tryz.ntmps41
  go_wp2
  refine wp_loop_rounds 1 ?_
  rw [rounds_succ]
  go_wp2
  go_ret
  exact ⟨rfl, rfl⟩

set_option maxHeartbeats 1000000 in
theorem same_cells (b o b' o' c c' : Nat) (xs ys : List ByteArray) (w : World) (hl : xs.length = ys.length) (hm : xs.length ≤ 9223372036854775807)
    (hx : Cells w b o xs) (hy : Cells w b' o' ys) :
    Calls Tryz.prog 41 #[.slice (some ⟨b, o, none⟩) xs.length c, .slice (some ⟨b', o', none⟩) ys.length c'] w fun e w' => e = .returned (.bool (decide (xs = ys))) ∧ ∃ n, w' = w.drewN n := by
  rw [← hl]
  have HL := Lib.hid hl
  clear hl
  obtain ⟨n, hn⟩ : ∃ n, n = xs.length := ⟨_, rfl⟩
  have hnn : n ≤ 9223372036854775807 := by omega
  rw [← hn]
  have HN := Lib.hid hn
  clear hn hm
  have HX := Lib.hid hx
  have HY := Lib.hid hy
  clear hx hy
  go_enter Tryz.func41, Tryz.ntmps41
  go_wp2
  go_loopw [5] (fun i wr => ∃ k d : Nat, k ≤ n ∧ i = .int .i64 k ∧ wr = w.drewN d ∧ xs.take k = ys.take k) (fun i _ => n - (intOf i).toNat)
  case atStart => exact ⟨0, 0, Nat.zero_le _, rfl, rfl, rfl⟩
  case round =>
    obtain ⟨k, d, hk, rfl, rfl, ht⟩ := hrel
    have HT := Lib.hid ht
    clear ht
    by_cases hlt : k < n
    · obtain ⟨x, ex⟩ : ∃ x, xs[k]? = some x := ⟨xs[k]'(by rw [← HN.out]; exact hlt), by simp⟩
      obtain ⟨y, ey⟩ : ∃ y, ys[k]? = some y := ⟨ys[k]'(by rw [← HL.out, ← HN.out]; exact hlt), by simp⟩
      have cx : w.cell? ⟨b, o + k, none⟩ = some (.string x) := HX.out.2 k x ex
      have cy : w.cell? ⟨b', o' + k, none⟩ = some (.string y) := HY.out.2 k y ey
      have EX := Lib.hid ex
      have EY := Lib.hid ey
      clear ex ey
      have h0 : (0 : Int) ≤ k := by omega
      have h1 : (k : Int) < n := by omega
      go_wp2
      go_quiet (fail)
      go_wp2
      · have hne : x ≠ y := ba_ne (by assumption)
        go_ret
        refine ⟨ret_bool ?_, _, World.drewN_drewN _ _ _⟩
        rw [eq_comm, decide_eq_false_iff_not]
        rintro rfl
        exact hne (Option.some.inj (EX.out.symm.trans EY.out))
      · have he : x = y := ba_eq (by assumption)
        refine ⟨⟨k + 1, _, by omega, by go_num, rfl, take_succ_eq HT.out EX.out EY.out he⟩, by simp [intOf]; omega⟩
    · have hge : n ≤ k := by omega
      go_wp2
      go_ret
      refine ⟨ret_bool ?_, _, rfl⟩
      have e : k = n := by omega
      have h1 : xs.take k = xs := List.take_of_length_le (by rw [← HN.out]; omega)
      have h2 : ys.take k = ys := List.take_of_length_le (by rw [← HL.out, ← HN.out]; omega)
      rw [eq_comm, decide_eq_true_iff, ← h1, ← h2]
      exact HT.out

theorem same_q (xs ys : List ByteArray) (v v' : Value) (w : World) (hx : Reads w v xs) (hy : Reads w v' ys) :
    Calls Tryz.prog 41 #[v, v'] w fun e w' => e = .returned (.bool (decide (xs = ys))) ∧ ∃ n, w' = w.drewN n := by
  by_cases hl : xs.length = ys.length
  · rcases hx with ⟨rfl, a, c, rfl⟩ | ⟨hn, b, o, c, rfl, hc, hm, hx⟩
    · rcases hy with ⟨rfl, a', c', rfl⟩ | ⟨hn', b', o', c', rfl, hc', hm', hy⟩
      · exact (same_nil a a' c c' w).mono fun e w' ⟨he, hw⟩ => ⟨by rw [he]; rfl, 0, hw⟩
      · exact absurd (List.length_eq_zero_iff.1 hl.symm) hn'
    · rcases hy with ⟨rfl, a', c', rfl⟩ | ⟨hn', b', o', c', rfl, hc', hm', hy⟩
      · exact absurd (List.length_eq_zero_iff.1 hl) hn
      · exact same_cells b o b' o' c c' xs ys w hl (by omega) hx hy
  · have hd : decide (xs = ys) = false := by rw [decide_eq_false_iff_not]; rintro rfl; exact hl rfl
    rw [hd]
    obtain ⟨a, c, rfl, h1⟩ : ∃ a c, v = .slice a xs.length c ∧ xs.length ≤ 9223372036854775807 := by
      rcases hx with ⟨rfl, a, c, rfl⟩ | ⟨hn, b, o, c, rfl, hc, hm, hx⟩
      · exact ⟨a, c, rfl, by simp⟩
      · exact ⟨_, c, rfl, by omega⟩
    obtain ⟨a', c', rfl, h2⟩ : ∃ a c, v' = .slice a ys.length c ∧ ys.length ≤ 9223372036854775807 := by
      rcases hy with ⟨rfl, a, c, rfl⟩ | ⟨hn, b, o, c, rfl, hc, hm, hx⟩
      · exact ⟨a, c, rfl, by simp⟩
      · exact ⟨_, c, rfl, by omega⟩
    exact (same_ne a a' _ _ c c' w hl h1 h2).mono fun e w' ⟨he, hw⟩ => ⟨he, 0, hw⟩

theorem same_any (xs ys : List ByteArray) (v v' : Value) (w : World) (hx : Reads w v xs) (hy : Reads w v' ys) :
    Calls Tryz.prog 41 #[v, v'] w fun e w' => e = .returned (.bool (decide (xs = ys))) ∧ Below w.heap.size w w' :=
  (same_q xs ys v v' w hx hy).mono fun e w' ⟨he, n, hw⟩ => ⟨he, hw ▸ Below.drewN (Below.refl _ _)⟩
end Go.Proofs.YtgjcblginkdinaaGreatDoor
set_option linter.unusedVariables false
namespace Go.Proofs.YtgjcblginkdinaaGreatDoor
open Go.ChangeShapes Go.WideShapes Go.ChangeAt Go.RowKit

set_option maxHeartbeats 2000000 in
set_option maxRecDepth 100000 in
theorem rmade_any (p : Pt) (dv ov : Value) (w : World) (hp : PReads w p.note dv ov p) (hl : linesN p.ops ≤ 4611686018427387904) :
    Calls Tryz.prog 17 #[ptV p.note dv ov] w fun e w' => e = .returned (.int .i64 (madeN p.ops : Nat)) ∧ Below w.heap.size w w' := by
  obtain ⟨hnt, hd, ho⟩ := hp
  obtain ⟨da, dc, rfl, hdn⟩ := hd.form
  obtain ⟨oa, oc, rfl, hon⟩ := ho.form
  obtain ⟨t, ht⟩ : ∃ t, t = p.note := ⟨_, rfl⟩
  obtain ⟨n, hnn⟩ : ∃ n, n = p.ops.length := ⟨_, rfl⟩
  obtain ⟨m, hmm⟩ : ∃ m, m = p.deps.length := ⟨_, rfl⟩
  rw [← hnn] at ho hon ⊢
  rw [← hmm] at hdn ⊢
  rw [← ht]
  have HST := Lib.hid (rt_new w t (.slice da m dc) (.slice oa n oc) 25)
  have HO := Lib.hid ho
  have HN := Lib.hid hnn
  have HL := Lib.hid hl
  clear ho hnn hmm ht hl hnt hd
  go_enter Tryz.func17, Tryz.ntmps17
  go_wp2_with fail
  go_loopw [3, 4] (fun s i wr => ∃ (k N : Nat), k ≤ n ∧ i = .int .i64 (k : Nat) ∧ s = .int .i64 (N : Nat) ∧ N ≤ 4611686018427387904 ∧ Hid (N = madeN (p.ops.take k)) ∧ Hid (RtS w t (.slice da m dc) (.slice oa n oc) wr)) (fun _ i _ => n - (intOf i).toNat)
  case atStart => exact ⟨0, 0, Nat.zero_le _, rfl, rfl, by omega, Lib.hid (by simp [madeN]), HST⟩
  case round =>
    obtain ⟨k, N, hk, rfl, rfl, hN, HNN, HRT⟩ := hrel
    obtain ⟨⟨c0, c1, c2⟩, hbw⟩ := HRT.out
    have HB := Lib.hid hbw
    clear hbw
    by_cases hlt : k < n
    · obtain ⟨x, hx⟩ : ∃ x, p.ops[k]? = some x := ⟨p.ops[k]'(by rw [← HN.out]; exact hlt), by simp⟩
      obtain ⟨b, o, rfl, hnl, hcl⟩ := HO.out.at hx
      clear hnl
      obtain ⟨lv, d0, d1, d2, d3, d4, d5, d6⟩ := (hcl.below HB.out).2 k x hx
      obtain ⟨la, lc, hlv, _⟩ := d6.form
      obtain ⟨L, hL⟩ : ∃ L, L = x.lines.length := ⟨_, rfl⟩
      rw [← hL] at hlv
      subst hlv
      have hms : madeN (p.ops.take (k + 1)) = N + (if x.kind = 1 then L else 0) := by rw [madeN_snoc hx, ← HNN.out, hL]
      have hml : madeN (p.ops.take (k + 1)) ≤ 4611686018427387904 := Nat.le_trans (madeN_take _ _) (Nat.le_trans (madeN_le _) HL.out)
      rw [hms] at hml
      have HMS := Lib.hid hms
      obtain ⟨K, ⟨x1, y1⟩, ⟨x2, y2⟩, ls⟩ := x
      simp only at d0 d1 d2 d3 d4 hml
      clear hx hcl d6 hms hL
      by_cases k1 : K = 1
      · subst k1
        have hmsum : N + L ≤ 4611686018427387904 := by simpa using hml
        have HMS1 := Lib.hid (show N + L = madeN (p.ops.take (k + 1)) by rw [HMS.out]; rfl)
        go_wp2_with fail
        exact ⟨⟨k + 1, N + L, by omega, by go_num, by go_num, hmsum, HMS1, HRT⟩, by simp [intOf]; omega⟩
      · have q1 := neI k1
        have HMS1 := Lib.hid (show N = madeN (p.ops.take (k + 1)) by rw [HMS.out]; simp [k1])
        go_wp2_with fail
        exact ⟨⟨k + 1, N, by omega, by go_num, rfl, hN, HMS1, HRT⟩, by simp [intOf]; omega⟩
    · obtain rfl : k = n := by omega
      have HF := Lib.hid (show N = madeN p.ops by rw [HNN.out, List.take_of_length_le (by rw [← HN.out]; exact Nat.le_refl _)])
      go_wp2_with fail
      go_ret
      exact ⟨by rw [← HF.out]; rfl, HB.out⟩
end Go.Proofs.YtgjcblginkdinaaGreatDoor
set_option linter.unusedVariables false
namespace Go.Proofs.YtgjcblginkdinaaGreatDoor
open Go.ChangeShapes Go.WideShapes Go.ChangeAt Go.RowKit

noncomputable def sameP (p q : Pt) : Bool := @decide (p = q) (Classical.propDecidable _)
theorem sameP_iff {p q : Pt} : sameP p q = true ↔ p = q := by unfold sameP; exact @decide_eq_true_iff _ (Classical.propDecidable _)
theorem sameP_no {p q : Pt} (h : p ≠ q) : sameP p q = false := by rw [Bool.eq_false_iff]; exact fun e => h (sameP_iff.1 e)

set_option maxHeartbeats 4000000 in
set_option maxRecDepth 100000 in
theorem rsame5_any (p q : Pt) (dv ov dv' ov' : Value) (w : World) (hp : PReads w p.note dv ov p) (hq : PReads w q.note dv' ov' q) :
    Calls Tryz.prog 19 #[ptV p.note dv ov, ptV q.note dv' ov'] w fun e w' => e = .returned (.bool (sameP p q)) ∧ Below w.heap.size w w' := by
  obtain ⟨_, hd, ho⟩ := hp
  obtain ⟨_, hd', ho'⟩ := hq
  obtain ⟨da, dc, rfl, hdn⟩ := hd.form
  obtain ⟨oa, oc, rfl, hon⟩ := ho.form
  obtain ⟨da', dc', rfl, hdn'⟩ := hd'.form
  obtain ⟨oa', oc', rfl, hon'⟩ := ho'.form
  obtain ⟨t, ht⟩ : ∃ t, t = p.note := ⟨_, rfl⟩
  obtain ⟨n, hnn⟩ : ∃ n, n = p.ops.length := ⟨_, rfl⟩
  obtain ⟨m, hmm⟩ : ∃ m, m = p.deps.length := ⟨_, rfl⟩
  obtain ⟨t', ht'⟩ : ∃ t, t = q.note := ⟨_, rfl⟩
  obtain ⟨n', hnn'⟩ : ∃ n, n = q.ops.length := ⟨_, rfl⟩
  obtain ⟨m', hmm'⟩ : ∃ m, m = q.deps.length := ⟨_, rfl⟩
  have hb2 : ∀ o1 o2, Below w.heap.size w ((w.alloc o1).alloc o2) := fun o1 o2 => ((Below.refl _ _).alloc (Nat.le_refl _) _).alloc (by simp) _
  rw [← hnn] at ho hon ⊢
  rw [← hmm] at hd hdn ⊢
  rw [← hnn'] at ho' hon' ⊢
  rw [← hmm'] at hd' hdn' ⊢
  rw [← ht, ← ht']
  have cd : ∀ wz, Below w.heap.size w wz → Calls Tryz.prog 41 #[.slice da m dc, .slice da' m' dc'] wz fun e w' => e = .returned (.bool (decide (p.deps = q.deps))) ∧ Below wz.heap.size wz w' := fun wz hz => same_any _ _ _ _ wz (hd.below hz) (hd'.below hz)
  obtain ⟨D, hD⟩ : ∃ D, D = decide (p.deps = q.deps) := ⟨_, rfl⟩
  rw [← hD] at cd
  have CD := Lib.hid cd
  have HD := Lib.hid hD
  have HO := Lib.hid ho
  have HO' := Lib.hid ho'
  have HN := Lib.hid hnn
  have HN' := Lib.hid hnn'
  have HT := Lib.hid ht
  have HT' := Lib.hid ht'
  have HB2 := Lib.hid hb2
  clear cd hD ho ho' hnn hnn' hmm hmm' ht ht' hb2 hd hd'
  by_cases e1 : t = t'
  · subst e1
    go_enter Tryz.func19, Tryz.ntmps19
    go_wp2_with fail
    refine (CD.out _ (HB2.out _ _)).mono ?_
    rintro e w1 ⟨rfl, hb⟩
    obtain ⟨q1, q2, qb, qs⟩ := boxA2 hb
    have q10 := (q1 0).trans rfl
    have q11 := (q1 1).trans rfl
    have q12 := (q1 2).trans rfl
    have q20 := (q2 0).trans rfl
    have q21 := (q2 1).trans rfl
    have q22 := (q2 2).trans rfl
    have QB := Lib.hid qb
    clear hb qb q1 q2
    cases D with
    | false =>
      have HS := Lib.hid (sameP_no (p := p) (q := q) (fun h => by
        have e := HD.out
        rw [h, decide_eq_true rfl] at e
        cases e))
      go_wp2_with fail
      go_ret
      exact ⟨ret_bool HS.out.symm, QB.out⟩
    | true =>
      have hdd : p.deps = q.deps := of_decide_eq_true HD.out.symm
      have HDD := Lib.hid hdd
      clear HD hdd
      by_cases en : n = n'
      · subst en
        go_wp2_with fail
        go_loopw [5] (fun i wr => ∃ k : Nat, k ≤ n ∧ i = .int .i64 (k : Nat) ∧ Hid (wr.cell? ⟨w.heap.size, 2, none⟩ = some (.slice oa n oc) ∧ wr.cell? ⟨w.heap.size + 1, 2, none⟩ = some (.slice oa' n oc')) ∧ Hid (Below w.heap.size w wr) ∧ Hid (p.ops.take k = q.ops.take k)) (fun i _ => n - (intOf i).toNat)
        case atStart => exact ⟨0, Nat.zero_le _, rfl, Lib.hid ⟨q12, q22⟩, QB, Lib.hid (by simp)⟩
        case round =>
          clear q10 q11 q12 q20 q21 q22
          obtain ⟨k, hk, rfl, HC, HB, HA⟩ := hrel
          obtain ⟨c2, c2'⟩ := HC.out
          by_cases hlt : k < n
          · obtain ⟨x, hx⟩ : ∃ x, p.ops[k]? = some x := ⟨p.ops[k]'(by rw [← HN.out]; exact hlt), by simp⟩
            obtain ⟨y, hy⟩ : ∃ y, q.ops[k]? = some y := ⟨q.ops[k]'(by rw [← HN'.out]; exact hlt), by simp⟩
            obtain ⟨b, o, rfl, hnl, hcl⟩ := HO.out.at hx
            clear hnl
            obtain ⟨b', o', rfl, hnl, hcl'⟩ := HO'.out.at hy
            clear hnl
            obtain ⟨lv, d0, d1, d2, d3, d4, d5, d6⟩ := (hcl.below HB.out).2 k x hx
            obtain ⟨lv', g0, g1, g2, g3, g4, g5, g6⟩ := (hcl'.below HB.out).2 k y hy
            obtain ⟨la, lc, hlv, _⟩ := d6.form
            obtain ⟨la', lc', hlv', _⟩ := g6.form
            obtain ⟨L, hL⟩ : ∃ L, L = x.lines.length := ⟨_, rfl⟩
            obtain ⟨L', hL'⟩ : ∃ L, L = y.lines.length := ⟨_, rfl⟩
            rw [← hL] at hlv
            rw [← hL'] at hlv'
            subst hlv
            subst hlv'
            have hcs : ∀ wz, Below wr.heap.size wr wz → Calls Tryz.prog 41 #[.slice la L lc, .slice la' L' lc'] wz fun e w' => e = .returned (.bool (decide (x.lines = y.lines))) ∧ Below wz.heap.size wz w' := fun wz hz => same_any _ _ _ _ wz (d6.below hz) (g6.below hz)
            have hno : x ≠ y → sameP p q = false := fun h => sameP_no (fun e => h (by rw [e, hy] at hx; exact (Option.some.inj hx).symm))
            have hyes : x = y → p.ops.take (k + 1) = q.ops.take (k + 1) := fun h => by rw [take_snoc hx, take_snoc hy, HA.out, h]
            have hal : ∀ o1 o2 q' j v, wr.cell? ⟨q', j, none⟩ = some v → ((wr.alloc o1).alloc o2).cell? ⟨q', j, none⟩ = some v := fun o1 o2 q' j v hv => ((((Below.refl _ wr).alloc (Nat.le_refl _) o1).alloc (by simp) o2).cell (p := ⟨q', j, none⟩) (cell_lt hv)).trans hv
            have hal1 : ∀ o1 q' j v, wr.cell? ⟨q', j, none⟩ = some v → (wr.alloc o1).cell? ⟨q', j, none⟩ = some v := fun o1 q' j v hv => (((Below.refl _ wr).alloc (Nat.le_refl _) o1).cell (p := ⟨q', j, none⟩) (cell_lt hv)).trans hv
            have hb3 : ∀ o1 o2, Below wr.heap.size wr ((wr.alloc o1).alloc o2) := fun o1 o2 => ((Below.refl _ _).alloc (Nat.le_refl _) _).alloc (by simp) _
            have hbq : ∀ o1 o2, Below w.heap.size w ((wr.alloc o1).alloc o2) := fun o1 o2 => (HB.out.alloc HB.out.size _).alloc (by have := HB.out.size; simp; omega) _
            have HX := Lib.hid hcs
            have HNO := Lib.hid hno
            have HYES := Lib.hid hyes
            have HAL := Lib.hid hal
            have HB3 := Lib.hid hb3
            have HBQ := Lib.hid hbq
            obtain ⟨K, ⟨x1, y1⟩, ⟨x2, y2⟩, ls⟩ := x
            obtain ⟨K', ⟨u1, v1⟩, ⟨u2, v2⟩, ls'⟩ := y
            simp only at d0 d1 d2 d3 d4 g0 g1 g2 g3 g4
            have h2 := hal1 (.cells #[.int .i64 K, .int .i64 x1, .int .i64 y1, .int .i64 x2, .int .i64 y2, .slice la L lc] 56) _ _ _ c2'
            have k0 := hal1 (.cells #[.int .i64 K, .int .i64 x1, .int .i64 y1, .int .i64 x2, .int .i64 y2, .slice la L lc] 56) _ _ _ g0
            have k1 := hal1 (.cells #[.int .i64 K, .int .i64 x1, .int .i64 y1, .int .i64 x2, .int .i64 y2, .slice la L lc] 56) _ _ _ g1
            have k2 := hal1 (.cells #[.int .i64 K, .int .i64 x1, .int .i64 y1, .int .i64 x2, .int .i64 y2, .slice la L lc] 56) _ _ _ g2
            have k3 := hal1 (.cells #[.int .i64 K, .int .i64 x1, .int .i64 y1, .int .i64 x2, .int .i64 y2, .slice la L lc] 56) _ _ _ g3
            have k4 := hal1 (.cells #[.int .i64 K, .int .i64 x1, .int .i64 y1, .int .i64 x2, .int .i64 y2, .slice la L lc] 56) _ _ _ g4
            have k5 := hal1 (.cells #[.int .i64 K, .int .i64 x1, .int .i64 y1, .int .i64 x2, .int .i64 y2, .slice la L lc] 56) _ _ _ g5
            clear hcs hno hyes hal hal1 hb3 hbq hx hy hcl hcl' d6 g6 hL hL'
            go_wp2_with fail
            all_goals first
              | (go_ret
                 exact ⟨ret_bool (HNO.out (fun e => by simp only [Opp.mk.injEq, Rf.mk.injEq] at e; omega)).symm, HBQ.out _ _⟩)
              | (refine (HX.out _ (HB3.out _ _)).mono ?_
                 rintro e w2 ⟨rfl, hb2⟩
                 have m1 := HAL.out (.cells #[.int .i64 K', .int .i64 u1, .int .i64 v1, .int .i64 u2, .int .i64 v2, .slice la L lc] 56) (.cells #[.int .i64 K', .int .i64 u1, .int .i64 v1, .int .i64 u2, .int .i64 v2, .slice la' L' lc'] 56) _ _ _ HC.out.1
                 have m2 := HAL.out (.cells #[.int .i64 K', .int .i64 u1, .int .i64 v1, .int .i64 u2, .int .i64 v2, .slice la L lc] 56) (.cells #[.int .i64 K', .int .i64 u1, .int .i64 v1, .int .i64 u2, .int .i64 v2, .slice la' L' lc'] 56) _ _ _ HC.out.2
                 have HC2 := Lib.hid (And.intro ((hb2.cell (cell_lt m1)).trans m1) ((hb2.cell (cell_lt m2)).trans m2))
                 have HBW := Lib.hid ((HBQ.out _ _).trans (hb2.mono (HBQ.out _ _).size))
                 clear hb2 m1 m2
                 obtain ⟨D2, hD2⟩ : ∃ D, D = decide (ls = ls') := ⟨_, rfl⟩
                 rw [← hD2]
                 have HD2 := Lib.hid hD2
                 clear hD2
                 cases D2 with
                 | false =>
                   have HSF := Lib.hid (HNO.out (fun e => by
                     have h := HD2.out
                     simp only [Opp.mk.injEq] at e
                     rw [decide_eq_true e.2.2.2] at h
                     cases h))
                   go_wp2_with fail
                   go_ret
                   exact ⟨ret_bool HSF.out.symm, HBW.out⟩
                 | true =>
                   have HY := Lib.hid (HYES.out (by
                     have hl := of_decide_eq_true HD2.out.symm
                     simp only [Opp.mk.injEq, Rf.mk.injEq]
                     exact ⟨by omega, ⟨by omega, by omega⟩, ⟨by omega, by omega⟩, hl⟩))
                   go_wp2_with fail
                   exact ⟨⟨k + 1, by omega, by go_num, HC2, HBW, HY⟩, by simp [intOf]; omega⟩)
          · obtain rfl : k = n := by omega
            have hs : sameP p q = true := sameP_iff.2 (by
              have ho : p.ops = q.ops := by
                have := HA.out
                rwa [List.take_of_length_le (by rw [← HN.out]; exact Nat.le_refl _), List.take_of_length_le (by rw [← HN'.out]; exact Nat.le_refl _)] at this
              have h1 := HDD.out
              have h2 : p.note = q.note := by rw [← HT.out, ← HT'.out]
              cases p; cases q
              simp only at ho h1 h2
              rw [ho, h1, h2])
            have HS := Lib.hid hs
            clear hs
            go_wp2_with fail
            go_ret
            exact ⟨ret_bool HS.out.symm, HB.out⟩
      · have f2 : ((n : Int) == (n' : Int)) = false := by rw [beq_eq_false_iff_ne]; omega
        have HS := Lib.hid (sameP_no (p := p) (q := q) (fun h => en (by rw [HN.out, HN'.out, h])))
        go_wp2_with fail
        all_goals first
          | (exfalso; omega)
          | (go_ret; exact ⟨ret_bool HS.out.symm, QB.out⟩)
  · have HS := Lib.hid (sameP_no (p := p) (q := q) (fun h => e1 (by rw [HT.out, HT'.out, h])))
    have f1 : (t.toList == t'.toList) = false := by
      rw [beq_eq_false_iff_ne]
      intro e
      apply e1
      rw [ByteArray.toList_eq, ByteArray.toList_eq] at e
      rw [← tx_data t, ← tx_data t', e]
    go_enter Tryz.func19, Tryz.ntmps19
    go_wp2_with fail
    go_ret
    exact ⟨ret_bool HS.out.symm, HB2.out _ _⟩
end Go.Proofs.YtgjcblginkdinaaGreatDoor
