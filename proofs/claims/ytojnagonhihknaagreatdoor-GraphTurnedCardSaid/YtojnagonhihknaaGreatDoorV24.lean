/- The contracts of the checker's lines and op, of rising and of sound. The contracts of rising, of the checker's op and of sound. The contract of the checker's op. -/
import Derived.Lib.IndexLaws
import Derived.Laws.Cover1
import Derived.Sort.Walk0
import Derived.Test.YtojnagonhihknaaGreatDoorShelf
import Derived.Test.YtojnagonhihknaaGreatDoorV15
import Derived.Test.YtojnagonhihknaaGreatDoorV23
set_option linter.unusedVariables false
namespace Go.Proofs.YtojnagonhihknaaGreatDoor
open Go.ChangeShapes Go.WideShapes Go.ChangeAt Go.RowKit

theorem contains_ten (s : ByteArray) : decide (0 ≤ Lib.indexByte s.data.toList 10) = s.data.toList.contains 10 := by
  have h := Lib.indexByte_ge s.data.toList 10
  by_cases hc : 0 ≤ Lib.indexByte s.data.toList 10
  · rw [decide_eq_true hc]
    obtain ⟨o, ho⟩ : ∃ o : Nat, Lib.indexByte s.data.toList 10 = o := ⟨(Lib.indexByte s.data.toList 10).toNat, by omega⟩
    have := List.mem_of_getElem? (Lib.indexByte_some ho).1
    exact (List.contains_iff_mem.2 this).symm
  · rw [decide_eq_false hc]
    have h1 := Lib.indexByte_none (l := s.data.toList) (c := 10) (by omega)
    symm
    rw [Bool.eq_false_iff]
    intro hm
    obtain ⟨k, hk⟩ := List.mem_iff_getElem?.1 (List.contains_iff_mem.1 hm)
    exact h1 k hk

theorem all_step {α : Type} {f : α → Bool} {l : List α} {k : Nat} {x : α} (h : (l.take k).all f = true) (hx : l[k]? = some x) (hf : f x = true) : (l.take (k + 1)).all f = true := by
  rw [take_snoc hx, List.all_append, h]; simp [hf]
theorem all_end {α : Type} {f : α → Bool} {l : List α} {k : Nat} (h : (l.take k).all f = true) (hk : l.length ≤ k) : l.all f = true := by
  rwa [List.take_of_length_le hk] at h
theorem all_no {α : Type} {f : α → Bool} {l : List α} {k : Nat} {x : α} (hx : l[k]? = some x) (hf : f x = false) : l.all f = false := by
  rw [List.all_eq_false]
  exact ⟨x, List.mem_of_getElem? hx, by rw [hf]; simp⟩

set_option maxHeartbeats 2000000 in
set_option maxRecDepth 100000 in
theorem plines_any (deps made : Nat) (xs : Lb) (v : Value) (w : World) (hm : made ≤ 300) (hr : Reads w v xs) (hs : ∀ x ∈ xs, x.size ≤ 140737488355328) :
    Calls Tryz.prog 166 #[ckV deps made, v] w fun e w' => e = .returned (.bool (decide (xs.length ≠ 0) && decide (xs.length + made ≤ 300) && xs.all lineB)) ∧ Below w.heap.size w w' := by
  obtain ⟨a, c, rfl, hn⟩ := hr.form
  obtain ⟨n, hnn⟩ : ∃ n, n = xs.length := ⟨_, rfl⟩
  have hb0 : ∀ o, Below w.heap.size w (w.alloc o) := fun o => (Below.refl _ _).alloc (Nat.le_refl _) _
  rw [← hnn] at hr hn ⊢
  have HN := Lib.hid hnn
  have HR := Lib.hid hr
  have HS := Lib.hid hs
  have HB0 := Lib.hid hb0
  clear hnn hr hs hb0
  by_cases h0 : n = 0
  · subst h0
    go_enter Tryz.func166, Tryz.ntmps166
    go_wp2_with fail
    all_goals go_ret
    all_goals exact ⟨rfl, HB0.out _⟩
  · have e1 : ((n : Int) == 0) = false := by simp [h0]
    have e3 : IntKind.i64.wrap (300 - (made : Int)) = 300 - (made : Int) := IntWalk.i64_in _ (by omega)
    by_cases h3 : n + made ≤ 300
    · have e2 : ¬ (300 - (made : Int) < n) := by omega
      go_enter Tryz.func166, Tryz.ntmps166
      go_wp2_with fail
      go_loopw [20] (fun i wr => ∃ k : Nat, k ≤ n ∧ i = .int .i64 k ∧ Below (w.heap.size + 1) (w.alloc (.cells #[.int .i64 (deps : Nat), .int .i64 (made : Nat)] 222)) wr ∧ Hid ((xs.take k).all lineB = true)) (fun i _ => n - (intOf i).toNat)
      case atStart => exact ⟨0, Nat.zero_le _, rfl, Below.refl _ _, Lib.hid (by simp)⟩
      case round =>
        obtain ⟨k, hk, rfl, hb, HA⟩ := hrel
        have hbb : Below w.heap.size w wr := (HB0.out _).trans (hb.mono (Nat.le_succ _))
        have HB := Lib.hid hb
        have HBB := Lib.hid hbb
        clear hb hbb
        by_cases hlt : k < n
        · obtain ⟨x, hx⟩ : ∃ x, xs[k]? = some x := ⟨xs[k]'(by rw [← HN.out]; exact hlt), by simp⟩
          obtain ⟨b, o, rfl, hnl, hcl⟩ := HR.out.at hx
          clear hnl
          have hcell := ((hcl.below HBB.out).2 k x hx)
          have hsx := HS.out x (List.mem_of_getElem? hx)
          have HX := Lib.hid hx
          clear hx hcl
          by_cases g1 : 500 < x.size
          · have g1' : (500 : Int) < x.size := by omega
            go_wp2_with fail
            all_goals go_ret
            all_goals refine ⟨ret_bool ?_, HBB.out⟩
            all_goals (rw [all_no HX.out (by simp [lineB]; omega)]; simp)
          · have g1' : ¬ (500 : Int) < x.size := by omega
            have c1 := Tryz.strings_Contains_one x 10 wr
            rw [contains_ten] at c1
            have c2 := marker_any x wr (by omega)
            have hlb : lineB x = (!x.data.toList.contains 10 && !mk x.data.toList) := by unfold lineB; rw [decide_eq_true (by omega : x.size ≤ 500), Bool.true_and]
            obtain ⟨p, hp⟩ : ∃ p, p = x.data.toList.contains 10 := ⟨_, rfl⟩
            obtain ⟨q, hq⟩ : ∃ q, q = mk x.data.toList := ⟨_, rfl⟩
            rw [← hp] at c1 hlb
            rw [← hq] at c2 hlb
            have C1 := Lib.hid c1
            have C2 := Lib.hid c2
            have HLB := Lib.hid hlb
            clear c1 c2 hp hq hlb
            cases p with
            | true =>
              go_wp2_with (first | (go_at_call 182; refine C1.out.mono ?_; rintro e w2 ⟨rfl, rfl⟩) | (go_at_call 183; refine C2.out.mono ?_; rintro e w2 ⟨rfl, rfl⟩))
              all_goals go_ret
              all_goals refine ⟨ret_bool ?_, HBB.out⟩
              all_goals (rw [all_no HX.out (by rw [HLB.out]; rfl)]; simp)
            | false =>
              cases q with
              | true =>
                go_wp2_with (first | (go_at_call 182; refine C1.out.mono ?_; rintro e w2 ⟨rfl, rfl⟩) | (go_at_call 183; refine C2.out.mono ?_; rintro e w2 ⟨rfl, rfl⟩))
                all_goals go_ret
                all_goals refine ⟨ret_bool ?_, HBB.out⟩
                all_goals (rw [all_no HX.out (by rw [HLB.out]; rfl)]; simp)
              | false =>
                go_wp2_with (first | (go_at_call 182; refine C1.out.mono ?_; rintro e w2 ⟨rfl, rfl⟩) | (go_at_call 183; refine C2.out.mono ?_; rintro e w2 ⟨rfl, rfl⟩))
                exact ⟨⟨k + 1, by omega, by go_num, HB.out, Lib.hid (all_step HA.out HX.out (by rw [HLB.out]; rfl))⟩, by simp [intOf]; omega⟩
        · go_wp2
          go_ret
          refine ⟨ret_bool ?_, HBB.out⟩
          rw [all_end HA.out (by rw [← HN.out]; omega)]
          simp [h0, h3]
    · have e2 : (300 - (made : Int) < n) := by omega
      go_enter Tryz.func166, Tryz.ntmps166
      go_wp2_with fail
      all_goals go_ret
      all_goals exact ⟨ret_bool (by simp [h3]), HB0.out _⟩
end Go.Proofs.YtojnagonhihknaaGreatDoor
set_option linter.unusedVariables false
namespace Go.Proofs.YtojnagonhihknaaGreatDoor
open Go.ChangeShapes Go.WideShapes Go.ChangeAt Go.RowKit

theorem right_all (s : ByteArray) (w : World) :
    Calls Tryz.prog 165 #[.string s] w fun e w' => e = .returned (.bool (rightL s.data.toList)) ∧ Below w.heap.size w w' := by
  by_cases h64 : s.size = 64
  · exact right_any s w (by omega)
  · have t1 : ((s.size : Int) == 64) = false := by rw [beq_eq_false_iff_ne]; omega
    have hl : s.data.toList.length = s.size := Array.length_toList
    have e1 : rightL s.data.toList = false := by rw [rightL, hl]; simp [h64]
    rw [e1]
    clear hl e1
    go_enter Tryz.func165, Tryz.ntmps165
    go_wp2
    go_ret
    exact ⟨rfl, Below.refl _ _⟩

theorem le_iff (x y : ByteArray) : (Op.bytesLess x.toList y.toList || x.toList == y.toList) = true ↔ x.data.toList ≤ y.data.toList := by
  rw [Go.Proofs.bytesLess_eq, ByteArray.toList_eq, ByteArray.toList_eq]
  simp only [Bool.or_eq_true, decide_eq_true_eq, beq_iff_eq]
  constructor
  · rintro (h | h)
    · exact List.le_of_lt h
    · rw [h]; exact List.le_refl _
  · intro h
    by_cases e : x.data.toList < y.data.toList
    · exact .inl e
    · exact .inr (List.le_antisymm h (List.not_lt.1 e))

theorem ris_no {d : Lb} {k : Nat} {x : ByteArray} (hx : d[k]? = some x) (h : ¬ (rightL x.data.toList = true ∧ ∀ i y, k = i + 1 → d[i]? = some y → ¬ x.data.toList ≤ y.data.toList)) : risB d = false := by
  rw [Bool.eq_false_iff]
  intro hb
  exact h ((risB_iff.1 hb).2 k (List.getElem?_eq_some_iff.1 hx).1 x hx)
theorem ris_step {d : Lb} {k : Nat} {x : ByteArray} (h : Ris d k) (hx : d[k]? = some x) (h1 : rightL x.data.toList = true) (h2 : ∀ i y, k = i + 1 → d[i]? = some y → ¬ x.data.toList ≤ y.data.toList) : Ris d (k + 1) := by
  intro j hj z hz
  by_cases e : j = k
  · subst e
    rw [hx] at hz
    injection hz with hz
    subst hz
    exact ⟨h1, h2⟩
  · exact h j (by omega) z hz

set_option maxHeartbeats 2000000 in
set_option maxRecDepth 100000 in
theorem prising_any (d : Lb) (v : Value) (w : World) (hr : Reads w v d) :
    Calls Tryz.prog 133 #[v] w fun e w' => e = .returned (.bool (risB d)) ∧ Below w.heap.size w w' := by
  obtain ⟨a, c, rfl, hn⟩ := hr.form
  obtain ⟨n, hnn⟩ : ∃ n, n = d.length := ⟨_, rfl⟩
  rw [← hnn] at hr hn ⊢
  have HN := Lib.hid hnn
  have HR := Lib.hid hr
  clear hnn hr
  by_cases h64 : 64 < n
  · have e1 : (64 : Int) < n := by omega
    go_enter Tryz.func133, Tryz.ntmps133
    go_wp2_with fail
    go_ret
    refine ⟨ret_bool ?_, Below.refl _ _⟩
    symm
    rw [Bool.eq_false_iff]
    intro hb
    have := (risB_iff.1 hb).1
    have := HN.out
    omega
  · have e1 : ¬ (64 : Int) < n := by omega
    go_enter Tryz.func133, Tryz.ntmps133
    go_wp2_with fail
    go_loopw [10] (fun i wr => ∃ k : Nat, k ≤ n ∧ i = .int .i64 k ∧ Below w.heap.size w wr ∧ Hid (Ris d k)) (fun i _ => n - (intOf i).toNat)
    case atStart => exact ⟨0, Nat.zero_le _, rfl, Below.refl _ _, Lib.hid (fun j hj => absurd hj (Nat.not_lt_zero _))⟩
    case round =>
      obtain ⟨k, hk, rfl, hb, HA⟩ := hrel
      have HB := Lib.hid hb
      clear hb
      by_cases hlt : k < n
      · obtain ⟨x, hx⟩ : ∃ x, d[k]? = some x := ⟨d[k]'(by rw [← HN.out]; exact hlt), by simp⟩
        obtain ⟨b, o, rfl, hnl, hcl⟩ := HR.out.at hx
        clear hnl
        have hcell := (hcl.below HB.out).2 k x hx
        have hcr := right_all x wr
        obtain ⟨r, hrr⟩ : ∃ r, r = rightL x.data.toList := ⟨_, rfl⟩
        rw [← hrr] at hcr
        have HX := Lib.hid hx
        have HCL := Lib.hid hcl
        have HRR := Lib.hid hrr
        have HCR := Lib.hid hcr
        clear hx hcl hrr hcr
        cases r with
        | false =>
          go_wp2_with (go_at_call 165; refine HCR.out.mono ?_; rintro e w2 ⟨rfl, hb2⟩; have HB2 := Lib.hid (HB.out.trans (hb2.mono HB.out.size)); clear hb2)
          all_goals go_ret
          all_goals refine ⟨ret_bool ?_, HB2.out⟩
          all_goals (rw [ris_no HX.out (fun h => by rw [← HRR.out] at h; cases h.1)])
        | true =>
          by_cases hk0 : k = 0
          · have p1 : ¬ (0 : Int) < (k : Int) := by omega
            have HK0 := Lib.hid hk0
            clear hk0
            go_wp2_with (go_at_call 165; refine HCR.out.mono ?_; rintro e w2 ⟨rfl, hb2⟩; have HB2 := Lib.hid (HB.out.trans (hb2.mono HB.out.size)); clear hb2)
            exact ⟨⟨k + 1, by omega, by go_num, HB2.out, Lib.hid (ris_step HA.out HX.out HRR.out.symm (fun i y e => by have := HK0.out; omega))⟩, by simp [intOf]; omega⟩
          · obtain ⟨j, hj⟩ : ∃ j, k = j + 1 := ⟨k - 1, by omega⟩
            obtain ⟨y, hy⟩ : ∃ y, d[j]? = some y := ⟨d[j]'(by rw [← HN.out]; omega), by simp⟩
            have hcy := (HCL.out.below HB.out).2 j y hy
            obtain ⟨q, hq⟩ : ∃ q, (Op.bytesLess x.toList y.toList || x.toList == y.toList) = q := ⟨_, rfl⟩
            have p1 : (0 : Int) < (k : Int) := by omega
            have p2 : IntKind.i64.wrap ((k : Int) - 1) = (j : Int) := by rw [show (k : Int) - 1 = (j : Int) by omega]; exact IntWalk.i64_in _ (by omega)
            have p3 : (j : Int) < n := by omega
            have hle := le_iff x y
            rw [hq] at hle
            have HLE := Lib.hid hle
            have HY := Lib.hid hy
            have HJ := Lib.hid hj
            clear hy hj hk0 hle
            cases q with
            | true =>
              go_wp2_with (go_at_call 165; refine HCR.out.mono ?_; rintro e w2 ⟨rfl, hb2⟩; have hcy2 := (hb2.cell (p := ⟨b, o + j, none⟩) (cell_lt hcy)).trans hcy; have HB2 := Lib.hid (HB.out.trans (hb2.mono HB.out.size)); clear hb2)
              all_goals go_ret
              all_goals refine ⟨ret_bool ?_, HB2.out⟩
              all_goals (rw [ris_no HX.out (fun h => h.2 j y HJ.out HY.out (HLE.out.1 trivial))])
            | false =>
              go_wp2_with (go_at_call 165; refine HCR.out.mono ?_; rintro e w2 ⟨rfl, hb2⟩; have hcy2 := (hb2.cell (p := ⟨b, o + j, none⟩) (cell_lt hcy)).trans hcy; have HB2 := Lib.hid (HB.out.trans (hb2.mono HB.out.size)); clear hb2)
              refine ⟨⟨k + 1, by omega, by go_num, HB2.out, Lib.hid (ris_step HA.out HX.out HRR.out.symm (fun i z e hz hle => ?_))⟩, by simp [intOf]; omega⟩
              have e1 : i = j := by have := HJ.out; omega
              subst e1
              rw [HY.out] at hz
              injection hz with hz
              subst hz
              exact Bool.false_ne_true (HLE.out.2 hle)
      · have hke : n ≤ k := by omega
        have hrs : risB d = true := risB_iff.2 ⟨by rw [← HN.out]; omega, fun j hj x hx => HA.out j (by have := HN.out; omega) x hx⟩
        have HRS := Lib.hid hrs
        clear hrs hke
        go_wp2
        go_ret
        exact ⟨ret_bool HRS.out.symm, HB.out⟩
end Go.Proofs.YtojnagonhihknaaGreatDoor
set_option linter.unusedVariables false
namespace Go.Proofs.YtojnagonhihknaaGreatDoor
open Go.ChangeShapes Go.WideShapes Go.ChangeAt Go.RowKit

set_option maxHeartbeats 4000000 in
set_option maxRecDepth 100000 in
theorem pop_any (deps made : Nat) (o : Opp) (lv : Value) (w : World) (hm : made ≤ 300) (hr : Reads w lv o.lines) (hs : ∀ x ∈ o.lines, x.size ≤ 140737488355328) :
    Calls Tryz.prog 134 #[ckV deps made, opV o lv] w fun e w' => e = .returned (.bool (opB deps made o)) ∧ Below w.heap.size w w' := by
  obtain ⟨a, c, rfl, hn⟩ := hr.form
  obtain ⟨K, ⟨x, y⟩, ⟨u, v⟩, ls⟩ := o
  simp only at hr hs hn
  have hb2 : ∀ o1 o2, Below w.heap.size w ((w.alloc o1).alloc o2) := fun o1 o2 => ((Below.refl _ _).alloc (Nat.le_refl _) _).alloc (by simp) _
  have cl : ∀ wz, Below w.heap.size w wz → Calls Tryz.prog 166 #[ckV deps made, .slice a ls.length c] wz fun e w' => e = .returned (.bool (decide (ls.length ≠ 0) && decide (ls.length + made ≤ 300) && ls.all lineB)) ∧ Below wz.heap.size wz w' := fun wz hz => plines_any deps made ls _ wz hm (hr.below hz) hs
  have cb := fun wz => pbetween_any deps made ⟨x, y⟩ ⟨u, v⟩ wz
  have cr := fun wz => pref_any deps made ⟨x, y⟩ wz
  obtain ⟨lb, hlb⟩ : ∃ b, b = (decide (ls.length ≠ 0) && decide (ls.length + made ≤ 300) && ls.all lineB) := ⟨_, rfl⟩
  obtain ⟨bb, hbb⟩ : ∃ b, b = betwB deps made ⟨x, y⟩ ⟨u, v⟩ := ⟨_, rfl⟩
  obtain ⟨rb, hrb⟩ : ∃ b, b = refB deps made ⟨x, y⟩ := ⟨_, rfl⟩
  have o1 : K = 1 → opB deps made ⟨K, ⟨x, y⟩, ⟨u, v⟩, ls⟩ = (lb && bb) := fun e => by
    subst e
    rw [hlb, hbb]
    simp only [opB, opR, if_true]
    apply Bool.eq_iff_iff.2
    simp only [Bool.and_eq_true, decide_eq_true_eq, true_implies]
    constructor <;> (rintro h; simp_all)
  have o2 : K = 2 ∨ K = 3 → opB deps made ⟨K, ⟨x, y⟩, ⟨u, v⟩, ls⟩ = (decide (ls.length = 0) && bb) := fun e => by
    have e1 : ¬ K = 1 := by omega
    rw [hbb]
    simp only [opB, opR, if_pos e, e1, if_false, false_implies, decide_true, Bool.and_true]
  have o4 : K = 4 ∨ K = 5 → opB deps made ⟨K, ⟨x, y⟩, ⟨u, v⟩, ls⟩ = (decide (ls.length = 0) && decide (u = 0 ∧ v = 0) && decide (0 ≤ x) && rb) := fun e => by
    have e1 : ¬ K = 1 := by omega
    have e2 : ¬ (K = 2 ∨ K = 3) := by omega
    rw [hrb]
    simp only [opB, opR, if_neg e2, if_pos e, e1, if_false, false_implies, decide_true, Bool.and_true, Rf.mk.injEq]
  have o0 : ¬ K = 1 → ¬ (K = 2 ∨ K = 3) → ¬ (K = 4 ∨ K = 5) → opB deps made ⟨K, ⟨x, y⟩, ⟨u, v⟩, ls⟩ = false := fun e1 e2 e3 => by
    simp only [opB, opR, if_neg e1, if_neg e2, if_neg e3, Bool.false_and]
  obtain ⟨n, hnn⟩ : ∃ n, n = ls.length := ⟨_, rfl⟩
  rw [← hlb, ← hnn] at cl
  rw [← hbb] at cb
  rw [← hrb] at cr
  rw [← hnn] at hn o2 o4 ⊢
  have CL := Lib.hid cl
  have CB := Lib.hid cb
  have CR := Lib.hid cr
  have HB := Lib.hid hb2
  clear cl cb cr hb2 hlb hbb hrb hnn hr hs
  by_cases k1 : K = 1
  · rw [o1 k1]
    subst k1
    clear o1 o2 o4 o0
    go_enter Tryz.func134, Tryz.ntmps134
    go_wp2_with fail
    refine (CL.out _ (HB.out _ _)).mono ?_
    rintro e w1 ⟨rfl, hb1⟩
    obtain ⟨q1, q2, qb, qs⟩ := boxA2 hb1
    have q10 := q1 0
    have q11 := q1 1
    have q21 := q2 1
    have q22 := q2 2
    have q23 := q2 3
    have q24 := q2 4
    have QB := Lib.hid qb
    clear hb1 q1 q2 qb qs
    cases lb with
    | false =>
      go_wp2_with fail
      go_ret
      exact ⟨rfl, QB.out⟩
    | true =>
      go_wp2_with fail
      refine (CB.out _).mono ?_
      rintro e w2 ⟨rfl, hb2⟩
      have QB2 := Lib.hid (QB.out.trans (hb2.mono QB.out.size))
      clear hb2
      go_wp2_with fail
      go_ret
      exact ⟨rfl, QB2.out⟩
  · have j1 := neI k1
    by_cases k2 : K = 2 ∨ K = 3
    · rw [o2 k2]
      clear o1 o2 o4 o0
      have hk : (K = 2 ∧ True) ∨ K = 3 := by rcases k2 with h | h; exact .inl ⟨h, trivial⟩; exact .inr h
      clear k2 k1
      rcases hk with ⟨rfl, _⟩ | rfl
      all_goals
        by_cases h0 : n = 0
        · subst h0
          go_enter Tryz.func134, Tryz.ntmps134
          go_wp2_with fail
          refine (CB.out _).mono ?_
          rintro e w2 ⟨rfl, hb2⟩
          obtain ⟨_, _, qb, _⟩ := boxA2 hb2
          have QB := Lib.hid qb
          clear hb2 qb
          go_wp2_with fail
          go_ret
          exact ⟨ret_bool (by simp), QB.out⟩
        · have e1 : ((n : Int) == 0) = false := by simp [h0]
          go_enter Tryz.func134, Tryz.ntmps134
          go_wp2_with fail
          all_goals go_ret
          all_goals exact ⟨ret_bool (by simp [h0]), HB.out _ _⟩
    · by_cases k4 : K = 4 ∨ K = 5
      · rw [o4 k4]
        clear o1 o2 o4 o0
        have hk : (K = 4 ∧ True) ∨ K = 5 := by rcases k4 with h | h; exact .inl ⟨h, trivial⟩; exact .inr h
        clear k4 k1 k2
        rcases hk with ⟨rfl, _⟩ | rfl
        all_goals
          by_cases h0 : n = 0
          · subst h0
            by_cases hu : u = 0 ∧ v = 0
            · obtain ⟨rfl, rfl⟩ := hu
              by_cases hx : 0 ≤ x
              · go_enter Tryz.func134, Tryz.ntmps134
                go_wp2_with fail
                refine (CR.out _).mono ?_
                rintro e w2 ⟨rfl, hb2⟩
                obtain ⟨_, _, qb, _⟩ := boxA2 hb2
                have QB := Lib.hid qb
                clear hb2 qb
                go_wp2_with fail
                go_ret
                exact ⟨ret_bool (by simp [hx]), QB.out⟩
              · go_enter Tryz.func134, Tryz.ntmps134
                go_wp2_with fail
                all_goals go_ret
                all_goals exact ⟨ret_bool (by simp; intro h; omega), HB.out _ _⟩
            · have hu2 : decide (u = 0 ∧ v = 0) = false := decide_eq_false hu
              rw [hu2]
              have hu3 : (u == 0 && v == 0) = false := by rw [Bool.eq_false_iff]; intro h; simp at h; exact hu h
              go_enter Tryz.func134, Tryz.ntmps134
              go_wp2_with fail
              all_goals first | (exfalso; simp_all; done) | (go_ret; exact ⟨ret_bool (by simp), HB.out _ _⟩)
          · have e1 : ((n : Int) == 0) = false := by simp [h0]
            go_enter Tryz.func134, Tryz.ntmps134
            go_wp2_with fail
            all_goals go_ret
            all_goals exact ⟨ret_bool (by simp [h0]), HB.out _ _⟩
      · rw [o0 k1 k2 k4]
        clear o1 o2 o4 o0
        simp only [not_or] at k2 k4
        have j2 := neI k2.1
        have j3 := neI k2.2
        have j4 := neI k4.1
        have j5 := neI k4.2
        clear k1 k2 k4
        go_enter Tryz.func134, Tryz.ntmps134
        go_wp2_with fail
        go_ret
        exact ⟨rfl, HB.out _ _⟩
end Go.Proofs.YtojnagonhihknaaGreatDoor
