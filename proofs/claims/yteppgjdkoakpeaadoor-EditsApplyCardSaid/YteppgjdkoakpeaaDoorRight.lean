/- The contracts of both functions Right: which hunks are edits. -/
import Derived.Test.YteppgjdkoakpeaaDoorHReads
set_option linter.unusedVariables false
namespace Go.Proofs.YteppgjdkoakpeaaDoor
open Go.ChangeShapes Go.WideShapes Go.ChangeAt Go.RowKit

theorem lastEnd_bounds {n : Int} : ∀ (h : List Hk) (e : Int), -1 ≤ e → e ≤ n → rightFrom n e h = true → -1 ≤ lastEnd e h ∧ lastEnd e h ≤ n
  | [], e, h1, h2, _ => ⟨h1, h2⟩
  | k :: r, e, h1, h2, hr => by
    rw [rightFrom, Bool.and_eq_true] at hr
    have hk := okH_iff.1 hr.1
    exact lastEnd_bounds r (hend k) (by unfold hend; omega) (by unfold hend; omega) hr.2

theorem right_next {n : Int} {hs : List Hk} {m : Nat} {k : Hk} (hk : hs[m]? = some k) (h : rightFrom n (-1) (hs.take m) = true) (ho : okH n (lastEnd (-1) (hs.take m)) k = true) :
    rightFrom n (-1) (hs.take (m + 1)) = true ∧ lastEnd (-1) (hs.take (m + 1)) = hend k := by
  rw [List.take_add_one, hk, Option.toList_some]
  exact ⟨by rw [rightFrom_append, h]; simp [rightFrom, ho], lastEnd_snoc _ _ _⟩

theorem right_no {n : Int} {hs : List Hk} {m : Nat} {k : Hk} (hk : hs[m]? = some k) (h : rightFrom n (-1) (hs.take m) = true) (ho : okH n (lastEnd (-1) (hs.take m)) k = false) : rightL hs n = false := by
  have e : hs = hs.take m ++ k :: hs.drop (m + 1) := by
    obtain ⟨hm, e⟩ := List.getElem?_eq_some_iff.1 hk
    rw [← e, List.getElem_cons_drop, List.take_append_drop]
  unfold rightL
  rw [e, rightFrom_append, h, rightFrom, ho]
  rfl

theorem right_done {n : Int} {hs : List Hk} {m : Nat} (hm : hs.length ≤ m) (h : rightFrom n (-1) (hs.take m) = true) : rightL hs n = true := by
  rw [List.take_of_length_le hm] at h
  exact h
theorem ok_no1 {n e : Int} {k : Hk} (h : k.at_ ≤ e) : okH n e k = false := by
  cases hh : okH n e k with | false => rfl | true => have := okH_iff.1 hh; omega
theorem ok_no2 {n e : Int} {k : Hk} (h : k.at_ > n) : okH n e k = false := by
  cases hh : okH n e k with | false => rfl | true => have := okH_iff.1 hh; omega
theorem ok_no3 {n e : Int} {k : Hk} (h : k.cut < 0) : okH n e k = false := by
  cases hh : okH n e k with | false => rfl | true => have := okH_iff.1 hh; omega
theorem ok_no4 {n e : Int} {k : Hk} (h : k.cut > n - k.at_) : okH n e k = false := by
  cases hh : okH n e k with | false => rfl | true => have := okH_iff.1 hh; omega
theorem ok_no5 {n e : Int} {k : Hk} (h : k.cut = 0) (h' : k.put.length = 0) : okH n e k = false := by
  cases hh : okH n e k with | false => rfl | true => have := okH_iff.1 hh; omega

set_option maxHeartbeats 4000000 in
theorem rright_cells (b o c L : Nat) (ps : List (Hk × Value)) (w : World) (n : Nat) (hL : L = ps.length) (hc : HCells w b o ps) (hn : n ≤ 1000000) (hLm : L ≤ 9223372036854775807) :
    Calls Tryd.prog 10 #[.slice (some ⟨b, o, none⟩) L c, .int .i64 n] w fun e w' => e = .returned (.bool (rightL (ps.map (·.1)) n)) ∧ Below w.heap.size w w' := by
  obtain ⟨hs, hhs⟩ : ∃ hs, hs = ps.map (·.1) := ⟨_, rfl⟩
  rw [← hhs]
  have HL := Lib.hid hL
  have HC := Lib.hid hc
  have HHS := Lib.hid hhs
  clear hL hc hhs
  go_enter Tryd.func10, Tryd.ntmps10
  go_wp2
  go_loopw [5, 6] (fun ev iv wr => ∃ m : Nat, m ≤ L ∧ iv = .int .i64 m ∧ ev = .int .i64 (lastEnd (-1) (hs.take m)) ∧ rightFrom n (-1) (hs.take m) = true ∧ Below w.heap.size w wr) (fun _ iv _ => L - (intOf iv).toNat)
  case atStart => exact ⟨0, by omega, rfl, rfl, rfl, Below.refl _ _⟩
  case round =>
    obtain ⟨m, hm, rfl, rfl, hr, hbel⟩ := hrel
    have HR := Lib.hid hr
    have HB := Lib.hid hbel
    have hsz := hbel.size
    obtain ⟨e1, e2⟩ := lastEnd_bounds _ (-1) (by omega) (by omega) hr
    obtain ⟨E, hE⟩ : ∃ E, E = lastEnd (-1) (hs.take m) := ⟨_, rfl⟩
    rw [← hE] at e1 e2 ⊢
    have HE := Lib.hid hE
    clear hr hbel hE
    by_cases hlt : m < L
    · obtain ⟨p, hp⟩ : ∃ p, ps[m]? = some p := ⟨ps[m]'(by rw [← HL.out]; exact hlt), by simp⟩
      obtain ⟨c1, c2, c3, c4⟩ := HC.out.2 m p hp
      obtain ⟨aa, ca, ea⟩ := c4.form
      rw [ea] at c3
      have d1 := (HB.out.cell (p := ⟨b, o + m * 3, none⟩) HC.out.1).trans c1
      have d2 := (HB.out.cell (p := ⟨b, o + m * 3 + 1, none⟩) HC.out.1).trans c2
      have d3 := (HB.out.cell (p := ⟨b, o + m * 3 + 2, none⟩) HC.out.1).trans c3
      have hk : hs[m]? = some p.1 := by rw [HHS.out, List.getElem?_map, hp]; rfl
      obtain ⟨A, hA⟩ : ∃ A, A = p.1.at_ := ⟨_, rfl⟩
      obtain ⟨C, hC⟩ : ∃ C, C = p.1.cut := ⟨_, rfl⟩
      obtain ⟨U, hU⟩ : ∃ U, U = p.1.put.length := ⟨_, rfl⟩
      rw [← hA] at d1
      rw [← hC] at d2
      rw [← hU] at d3
      have HK := Lib.hid hk
      have HA := Lib.hid hA
      have HCC := Lib.hid hC
      have HU := Lib.hid hU
      clear c1 c2 c3 c4 ea hp hk hA hC hU
      have h0 : (0 : Int) ≤ m := by omega
      have h1 : (m : Int) < L := by omega
      have hbal : ∀ o, Below w.heap.size w (wr.alloc o) := fun o => HB.out.alloc hsz o
      have HBA := Lib.hid hbal
      clear hbal
      by_cases t1 : A ≤ E
      · have ho := ok_no1 (n := n) (e := E) (k := p.1) (by rw [← HA.out]; exact t1)
        rw [HE.out] at ho
        have HN := Lib.hid (right_no HK.out HR.out ho)
        clear ho
        go_wp2
        go_ret
        exact ⟨ret_bool HN.out.symm, HBA.out _⟩
      · by_cases t2 : A > n
        · have ho := ok_no2 (n := n) (e := E) (k := p.1) (by rw [← HA.out]; exact t2)
          rw [HE.out] at ho
          have HN := Lib.hid (right_no HK.out HR.out ho)
          clear ho
          go_wp2
          go_ret
          exact ⟨ret_bool HN.out.symm, HBA.out _⟩
        · by_cases t3 : C < 0
          · have ho := ok_no3 (n := n) (e := E) (k := p.1) (by rw [← HCC.out]; exact t3)
            rw [HE.out] at ho
            have HN := Lib.hid (right_no HK.out HR.out ho)
            clear ho
            go_wp2
            go_ret
            exact ⟨ret_bool HN.out.symm, HBA.out _⟩
          · by_cases t4 : C > n - A
            · have ho := ok_no4 (n := n) (e := E) (k := p.1) (by rw [← HCC.out, ← HA.out]; exact t4)
              rw [HE.out] at ho
              have HN := Lib.hid (right_no HK.out HR.out ho)
              clear ho
              go_wp2
              go_ret
              exact ⟨ret_bool HN.out.symm, HBA.out _⟩
            · by_cases t5 : C = 0
              · by_cases t6 : U = 0
                · have ho := ok_no5 (n := n) (e := E) (k := p.1) (by rw [← HCC.out]; exact t5) (by rw [← HU.out]; exact t6)
                  rw [HE.out] at ho
                  have HN := Lib.hid (right_no HK.out HR.out ho)
                  clear ho
                  subst t5 t6
                  go_wp2
                  go_ret
                  exact ⟨ret_bool HN.out.symm, HBA.out _⟩
                · have ho : okH n E p.1 = true := okH_iff.2 (by rw [← HA.out, ← HCC.out, ← HU.out]; omega)
                  rw [HE.out] at ho
                  have HN := Lib.hid (right_next HK.out HR.out ho)
                  have c6 : ((U : Int) == 0) = false := by rw [beq_eq_false_iff_ne]; omega
                  clear ho
                  subst t5
                  go_wp2
                  refine ⟨⟨m + 1, by omega, by go_num, ?_, HN.out.1, HBA.out _⟩, by simp [intOf]; omega⟩
                  rw [HN.out.2]
                  unfold hend
                  rw [← HA.out, ← HCC.out]
                  first | rfl | simp
              · have ho : okH n E p.1 = true := okH_iff.2 (by rw [← HA.out, ← HCC.out, ← HU.out]; omega)
                rw [HE.out] at ho
                have HN := Lib.hid (right_next HK.out HR.out ho)
                have c6 : (C == 0) = false := by rw [beq_eq_false_iff_ne]; omega
                clear ho
                go_wp2
                refine ⟨⟨m + 1, by omega, by go_num, ?_, HN.out.1, HBA.out _⟩, by simp [intOf]; omega⟩
                rw [HN.out.2]
                unfold hend
                rw [← HA.out, ← HCC.out]
    · go_wp2
      go_ret
      exact ⟨ret_bool (right_done (by rw [HHS.out, List.length_map, ← HL.out]; omega) HR.out).symm, HB.out⟩

set_option maxHeartbeats 400000 in
theorem rright_nil (a : Option Addr) (c n : Nat) (w : World) : Calls Tryd.prog 10 #[.slice a 0 c, .int .i64 n] w fun e w' => e = .returned (.bool true) ∧ w' = w := by
  go_enter Tryd.func10, Tryd.ntmps10
  go_wp2
  refine wp_loop_rounds 1 ?_
  rw [rounds_succ]
  go_wp2
  go_ret
  exact ⟨rfl, rfl⟩

theorem rright_any (hs : List Hk) (v : Value) (w : World) (n : Nat) (hr : HReads w v hs) (hn : n ≤ 1000000) :
    Calls Tryd.prog 10 #[v, .int .i64 n] w fun e w' => e = .returned (.bool (rightL hs n)) ∧ Below w.heap.size w w' := by
  obtain ⟨ps, rfl, ⟨rfl, a, c, rfl⟩ | ⟨hne, b, o, c, rfl, h1, h2, h3⟩⟩ := hr
  · exact (rright_nil a c n w).mono fun e w' ⟨h1, h2⟩ => ⟨h1, h2 ▸ Below.refl _ _⟩
  · exact rright_cells b o c ps.length ps w n rfl h3 hn (by omega)

set_option maxHeartbeats 4000000 in
theorem eright_cells (b o c L : Nat) (ps : List (Hk × Value)) (w : World) (n : Nat) (hL : L = ps.length) (hc : HCells w b o ps) (hn : n ≤ 1000000) (hLm : L ≤ 9223372036854775807) :
    Calls Tryd.prog 9 #[.slice (some ⟨b, o, none⟩) L c, .int .i64 n] w fun e w' => e = .returned (.bool (rightL (ps.map (·.1)) n)) ∧ Below w.heap.size w w' := by
  obtain ⟨hs, hhs⟩ : ∃ hs, hs = ps.map (·.1) := ⟨_, rfl⟩
  rw [← hhs]
  have HL := Lib.hid hL
  have HC := Lib.hid hc
  have HHS := Lib.hid hhs
  clear hL hc hhs
  go_enter Tryd.func9, Tryd.ntmps9
  go_wp2
  go_loopw [5, 10] (fun ev iv wr => ∃ m : Nat, m ≤ L ∧ iv = .int .i64 m ∧ ev = .int .i64 (lastEnd (-1) (hs.take m)) ∧ rightFrom n (-1) (hs.take m) = true ∧ Below w.heap.size w wr) (fun _ iv _ => L - (intOf iv).toNat)
  case atStart => exact ⟨0, by omega, rfl, rfl, rfl, Below.refl _ _⟩
  case round =>
    obtain ⟨m, hm, rfl, rfl, hr, hbel⟩ := hrel
    have HR := Lib.hid hr
    have HB := Lib.hid hbel
    have hsz := hbel.size
    obtain ⟨e1, e2⟩ := lastEnd_bounds _ (-1) (by omega) (by omega) hr
    obtain ⟨E, hE⟩ : ∃ E, E = lastEnd (-1) (hs.take m) := ⟨_, rfl⟩
    rw [← hE] at e1 e2 ⊢
    have HE := Lib.hid hE
    clear hr hbel hE
    by_cases hlt : m < L
    · obtain ⟨p, hp⟩ : ∃ p, ps[m]? = some p := ⟨ps[m]'(by rw [← HL.out]; exact hlt), by simp⟩
      obtain ⟨c1, c2, c3, c4⟩ := HC.out.2 m p hp
      obtain ⟨aa, ca, ea⟩ := c4.form
      rw [ea] at c3
      have d1 := (HB.out.cell (p := ⟨b, o + m * 3, none⟩) HC.out.1).trans c1
      have d2 := (HB.out.cell (p := ⟨b, o + m * 3 + 1, none⟩) HC.out.1).trans c2
      have d3 := (HB.out.cell (p := ⟨b, o + m * 3 + 2, none⟩) HC.out.1).trans c3
      have hk : hs[m]? = some p.1 := by rw [HHS.out, List.getElem?_map, hp]; rfl
      obtain ⟨A, hA⟩ : ∃ A, A = p.1.at_ := ⟨_, rfl⟩
      obtain ⟨C, hC⟩ : ∃ C, C = p.1.cut := ⟨_, rfl⟩
      obtain ⟨U, hU⟩ : ∃ U, U = p.1.put.length := ⟨_, rfl⟩
      rw [← hA] at d1
      rw [← hC] at d2
      rw [← hU] at d3
      have HK := Lib.hid hk
      have HA := Lib.hid hA
      have HCC := Lib.hid hC
      have HU := Lib.hid hU
      clear c1 c2 c3 c4 ea hp hk hA hC hU
      have h0 : (0 : Int) ≤ m := by omega
      have h1 : (m : Int) < L := by omega
      have hbal : ∀ o, Below w.heap.size w (wr.alloc o) := fun o => HB.out.alloc hsz o
      have HBA := Lib.hid hbal
      clear hbal
      by_cases t1 : A ≤ E
      · have ho := ok_no1 (n := n) (e := E) (k := p.1) (by rw [← HA.out]; exact t1)
        rw [HE.out] at ho
        have HN := Lib.hid (right_no HK.out HR.out ho)
        clear ho
        go_wp2
        go_ret
        exact ⟨ret_bool HN.out.symm, HBA.out _⟩
      · by_cases t2 : A > n
        · have ho := ok_no2 (n := n) (e := E) (k := p.1) (by rw [← HA.out]; exact t2)
          rw [HE.out] at ho
          have HN := Lib.hid (right_no HK.out HR.out ho)
          clear ho
          go_wp2
          go_ret
          exact ⟨ret_bool HN.out.symm, HBA.out _⟩
        · by_cases t3 : C < 0
          · have ho := ok_no3 (n := n) (e := E) (k := p.1) (by rw [← HCC.out]; exact t3)
            rw [HE.out] at ho
            have HN := Lib.hid (right_no HK.out HR.out ho)
            clear ho
            go_wp2
            go_ret
            exact ⟨ret_bool HN.out.symm, HBA.out _⟩
          · by_cases t4 : C > n - A
            · have ho := ok_no4 (n := n) (e := E) (k := p.1) (by rw [← HCC.out, ← HA.out]; exact t4)
              rw [HE.out] at ho
              have HN := Lib.hid (right_no HK.out HR.out ho)
              clear ho
              go_wp2
              go_ret
              exact ⟨ret_bool HN.out.symm, HBA.out _⟩
            · by_cases t5 : C = 0
              · by_cases t6 : U = 0
                · have ho := ok_no5 (n := n) (e := E) (k := p.1) (by rw [← HCC.out]; exact t5) (by rw [← HU.out]; exact t6)
                  rw [HE.out] at ho
                  have HN := Lib.hid (right_no HK.out HR.out ho)
                  clear ho
                  subst t5 t6
                  go_wp2
                  go_ret
                  exact ⟨ret_bool HN.out.symm, HBA.out _⟩
                · have ho : okH n E p.1 = true := okH_iff.2 (by rw [← HA.out, ← HCC.out, ← HU.out]; omega)
                  rw [HE.out] at ho
                  have HN := Lib.hid (right_next HK.out HR.out ho)
                  have c6 : ((U : Int) == 0) = false := by rw [beq_eq_false_iff_ne]; omega
                  clear ho
                  subst t5
                  go_wp2
                  refine ⟨⟨m + 1, by omega, by go_num, ?_, HN.out.1, HBA.out _⟩, by simp [intOf]; omega⟩
                  rw [HN.out.2]
                  unfold hend
                  rw [← HA.out, ← HCC.out]
                  first | rfl | simp
              · have ho : okH n E p.1 = true := okH_iff.2 (by rw [← HA.out, ← HCC.out, ← HU.out]; omega)
                rw [HE.out] at ho
                have HN := Lib.hid (right_next HK.out HR.out ho)
                have c6 : (C == 0) = false := by rw [beq_eq_false_iff_ne]; omega
                clear ho
                go_wp2
                refine ⟨⟨m + 1, by omega, by go_num, ?_, HN.out.1, HBA.out _⟩, by simp [intOf]; omega⟩
                rw [HN.out.2]
                unfold hend
                rw [← HA.out, ← HCC.out]
    · go_wp2
      go_ret
      exact ⟨ret_bool (right_done (by rw [HHS.out, List.length_map, ← HL.out]; omega) HR.out).symm, HB.out⟩

set_option maxHeartbeats 400000 in
theorem eright_nil (a : Option Addr) (c n : Nat) (w : World) : Calls Tryd.prog 9 #[.slice a 0 c, .int .i64 n] w fun e w' => e = .returned (.bool true) ∧ w' = w := by
  go_enter Tryd.func9, Tryd.ntmps9
  go_wp2
  refine wp_loop_rounds 1 ?_
  rw [rounds_succ]
  go_wp2
  go_ret
  exact ⟨rfl, rfl⟩

theorem eright_any (hs : List Hk) (v : Value) (w : World) (n : Nat) (hr : HReads w v hs) (hn : n ≤ 1000000) :
    Calls Tryd.prog 9 #[v, .int .i64 n] w fun e w' => e = .returned (.bool (rightL hs n)) ∧ Below w.heap.size w w' := by
  obtain ⟨ps, rfl, ⟨rfl, a, c, rfl⟩ | ⟨hne, b, o, c, rfl, h1, h2, h3⟩⟩ := hr
  · exact (eright_nil a c n w).mono fun e w' ⟨h1, h2⟩ => ⟨h1, h2 ▸ Below.refl _ _⟩
  · exact eright_cells b o c ps.length ps w n rfl h3 hn (by omega)
end Go.Proofs.YteppgjdkoakpeaaDoor
