/- The document's right and Comes: from each thing to each. -/
import Derived.Test.YtfpepoebammeoaaGreatU10
import Derived.Test.YtfpepoebammeoaaGreatU2
import Derived.Test.YtfpepoebammeoaaGreatU4
import Derived.Test.YtfpepoebammeoaaGreatU6
import Derived.Test.YtfpepoebammeoaaGreatU9
set_option linter.unusedVariables false
set_option linter.unusedSimpArgs false
namespace Go.Proofs.YtfpepoebammeoaaGreat
open Go.ChangeShapes Go.WideShapes Go.ChangeAt Go.RowKit

theorem infoB : (Tryz.prog.info? 4).map (fun i => (i.zero, i.size, i.bytes)) = some (some (.bool false), 1, 1) := by kernel_rfl
theorem infoSB : (Tryz.prog.info? 55).map (fun i => (i.zero, i.size, i.bytes)) = some (some (.slice none 0 0), 1, 24) := by kernel_rfl
theorem oneSl {a : Option Addr} {n c : Nat} : ∀ u ∈ [Value.slice a n c], u.oneCell' = true := by
  intro u hu; obtain rfl := List.mem_singleton.1 hu; rfl

theorem right8_any (n e1 e2 : Int) (w : World) : Calls Tryz.prog 56 #[.int .i64 n, .agg #[.int .i64 e1, .int .i64 e2]] w fun e w' => e = .returned (.bool (rightP n (e1, e2))) ∧ Below w.heap.size w w' := by
  have HB := Lib.hid ((Below.refl w.heap.size w).alloc (Nat.le_refl _) (.cells #[.int .i64 e1, .int .i64 e2] 36))
  by_cases h1 : 0 ≤ e1
  · by_cases h2 : e1 < n
    · by_cases h3 : 0 ≤ e2
      · by_cases h4 : e2 < n
        · have hr : rightP n (e1, e2) = true := rightP_iff.2 ⟨h1, h3, h2, h4⟩
          rw [hr]
          clear hr
          go_enter Tryz.func56, Tryz.ntmps56
          go_wp2_with fail
          go_ret
          exact ⟨rfl, HB.out⟩
        · have hr : rightP n (e1, e2) = false := Bool.eq_false_iff.2 fun h => h4 (rightP_iff.1 h).2.2.2
          rw [hr]
          clear hr
          go_enter Tryz.func56, Tryz.ntmps56
          go_wp2_with fail
          go_ret
          exact ⟨rfl, HB.out⟩
      · have hr : rightP n (e1, e2) = false := Bool.eq_false_iff.2 fun h => h3 (rightP_iff.1 h).2.1
        rw [hr]
        clear hr
        go_enter Tryz.func56, Tryz.ntmps56
        go_wp2_with fail
        go_ret
        exact ⟨rfl, HB.out⟩
    · have hr : rightP n (e1, e2) = false := Bool.eq_false_iff.2 fun h => h2 (rightP_iff.1 h).2.2.1
      rw [hr]
      clear hr
      go_enter Tryz.func56, Tryz.ntmps56
      go_wp2_with fail
      go_ret
      exact ⟨rfl, HB.out⟩
  · have hr : rightP n (e1, e2) = false := Bool.eq_false_iff.2 fun h => h1 (rightP_iff.1 h).1
    rw [hr]
    clear hr
    go_enter Tryz.func56, Tryz.ntmps56
    go_wp2_with fail
    go_ret
    exact ⟨rfl, HB.out⟩

set_option maxHeartbeats 4000000 in
set_option maxRecDepth 100000 in
theorem comes_any (n : Int) (es : Ed) (v : Value) (w : World) (hr : RE w v es) (hl : es.length ≤ 400000) (hn1 : -9223372036854775808 ≤ n) (hn : n ≤ 2000) :
    Calls Tryz.prog 29 #[.int .i64 n, v] w fun e W' => ∃ ov rb, e = .returned ov ∧ Tab w.heap.size W' ov n.toNat n.toNat rb (viaB (edB (toN (amongL n es))) n.toNat) ∧ Below w.heap.size w W' := by
  obtain ⟨va, vc, rfl⟩ := hr.form
  obtain ⟨E, hE⟩ : ∃ E, E = es.length := ⟨_, rfl⟩
  rw [← hE] at hr hl ⊢
  have HE := Lib.hid hE
  have HR := Lib.hid hr
  have HRT := Lib.hid (fun (e1 e2 : Int) (W : World) => right8_any n e1 e2 W)
  clear hE hr
  by_cases h1 : n < 1
  · have hn0 : n.toNat = 0 := by omega
    have hnn : ¬ (0 : Int) < n := by omega
    rw [hn0]
    clear hn0
    go_enter Tryz.func29, Tryz.ntmps29
    go_wp2_with fail
    go_loopw [5, 6] (fun cv iv wr => cv = .slice none 0 0 ∧ iv = .int .i64 0 ∧ Hid (Below w.heap.size w wr)) (fun _ _ _ => 0)
    case atStart => exact ⟨rfl, rfl, Lib.hid (Below.refl _ _)⟩
    case round =>
      obtain ⟨rfl, rfl, HBa⟩ := hrel
      go_wp2_with fail
      go_loopw [7] (fun kv wr => ∃ k : Nat, kv = .int .i64 (k : Nat) ∧ k ≤ E ∧ Hid (Below w.heap.size w wr)) (fun kv _ => E - (intOf kv).toNat)
      case atStart => exact ⟨0, rfl, Nat.zero_le _, HBa⟩
      case round =>
        clear HBa
        obtain ⟨k, rfl, hkE, HB⟩ := hrel
        by_cases hlt : k < E
        · obtain ⟨e, he⟩ : ∃ e, es[k]? = some e := ⟨es[k]'(by rw [← HE.out]; exact hlt), by simp⟩
          have hrp : rightP n e = false := Bool.eq_false_iff.2 fun h => by have := rightP_iff.1 h; omega
          obtain ⟨e1, e2⟩ := e
          obtain ⟨vb, vo, rfl, hvb, hvc1, hvc2, d0, d1⟩ := (HR.out.below HB.out).at he
          simp only at d0 d1
          unfold maxLen at hvc2
          have HRP := Lib.hid hrp
          have hE0 : 0 < E := by omega
          clear he hrp
          go_wp2_with fail
          refine (HRT.out e1 e2 _).mono ?_
          rintro e w3 ⟨rfl, hb3⟩
          rw [HRP.out]
          have HB3 := Lib.hid (HB.out.trans (hb3.mono HB.out.size))
          clear hb3
          go_wp2_with fail
          exact ⟨⟨k + 1, by go_num, by omega, HB3⟩, by simp [intOf]; omega⟩
        · have hkk : E = k := by omega
          subst hkk
          go_wp2_with fail
          go_loopw [8] (fun kv wr => kv = .int .i64 0 ∧ Hid (Below w.heap.size w wr)) (fun _ _ => 0)
          case atStart => exact ⟨rfl, HB⟩
          case round =>
            clear HB
            obtain ⟨rfl, HB⟩ := hrel
            go_wp2_with fail
            go_ret
            exact ⟨_, fun _ => 0, rfl, Tab.nil _ _ _ _ _, HB.out⟩
  obtain ⟨N, rfl⟩ : ∃ N : Nat, n = (N : Int) := ⟨n.toNat, by omega⟩
  have hN1 : 1 ≤ N := by omega
  have hN9 : N ≤ 2000 := by omega
  rw [Int.toNat_natCast]
  obtain ⟨EB, hEB⟩ : ∃ EB, EB = edB (toN (amongL (N : Int) es)) := ⟨_, rfl⟩
  rw [← hEB]
  have HEB := Lib.hid hEB
  clear h1 hn1 hn hEB
  have mk1 := run_make_row' (P := Tryz.prog) 55 4 (.bool false) 1 Tryz.underlying55 infoB rfl .i64 .i64 N (by omega) (by omega)
  go_enter Tryz.func29, Tryz.ntmps29
  go_wp2_with fail
  go_loopw [5, 6] (fun cv iv wr => ∃ (i : Nat) (rb : Nat → Nat), iv = .int .i64 (i : Nat) ∧ i ≤ N ∧ Hid (Tab w.heap.size wr cv i N rb (fun _ _ => false)) ∧ Hid (Below w.heap.size w wr)) (fun _ iv _ => N - (intOf iv).toNat)
  case atStart => exact ⟨0, fun _ => 0, rfl, Nat.zero_le _, Lib.hid (Tab.nil _ _ _ _ _), Lib.hid (Below.refl _ _)⟩
  case round =>
    obtain ⟨i, rb, rfl, hiN, HT, HB⟩ := hrel
    obtain ⟨ca, cc, rfl⟩ := HT.out.r.form
    by_cases hlt : i < N
    · obtain ⟨w1, hw1⟩ : ∃ w1, w1 = wr.alloc (.cells (madeCells #[.bool false] N) 4) := ⟨_, rfl⟩
      have hb1 : Below wr.heap.size wr w1 := by rw [hw1]; exact (Below.refl _ _).alloc (Nat.le_refl _) _
      have hs1 : w1.heap.size = wr.heap.size + 1 := by rw [hw1]; simp
      have hrow : Row 1 w.heap.size (wr.alloc (.cells (madeCells #[.bool false] N) 4)) (.slice (some ⟨wr.heap.size, 0, none⟩) N N) N (tbv (fun _ => false) N) := made_boolk (by omega) HB.out.size _
      have hsrc : Src Tryz.prog 1 49 (.slice (some ⟨w1.heap.size, 0, none⟩) 1 1) 1 [.slice (some ⟨wr.heap.size, 0, none⟩) N N] (w1.alloc (.cells #[.slice (some ⟨wr.heap.size, 0, none⟩) N N] 55)) := src_new Tryz.underlying49 [.slice (some ⟨wr.heap.size, 0, none⟩) N N] 1 55 1 rfl oneSl
      rw [hs1] at hsrc
      have HSRC := Lib.hid hsrc
      have HRA := Lib.hid ((HT.out.r.below hb1).alloc (.cells #[.slice (some ⟨wr.heap.size, 0, none⟩) N N] 55))
      have hszw : w.heap.size ≤ (w1.alloc (.cells #[.slice (some ⟨wr.heap.size, 0, none⟩) N N] 55)).heap.size := by have := HB.out.size; simp; omega
      have HP := Lib.hid (fun (v1 : Value) (w2 : World) h1 h2 h3 => Tab.push (v1 := v1) (w1 := w2) HT.out hrow h1 h2 h3)
      have HB1 := Lib.hid ((HB.out.trans (hb1.mono HB.out.size)).alloc (by have := HB.out.size; omega) (.cells #[.slice (some ⟨wr.heap.size, 0, none⟩) N N] 55))
      have HO1 : Hid (Off (fun x => (Value.slice ca i cc).ownBlock = some x) (wr.alloc (.cells (madeCells #[.bool false] N) 4)) (w1.alloc (.cells #[.slice (some ⟨wr.heap.size, 0, none⟩) N N] 55))) := Lib.hid (by rw [hw1]; exact (Off.refl _ _).alloc _)
      have HW1 := Lib.hid hw1
      have HS1 := Lib.hid hs1
      clear hw1 hb1 hs1 hrow hsrc
      go_wp2_with (at_builtin; first | (refine wpList_append_row rfl (.tmp 16) (.tmp 19) 49 49 rfl 1 55 (.slice none 0 0) 24 Tryz.underlying49 infoSB rfl w.heap.size (.slice ca i cc) i (slv rb N i) (by simp [Act.eval]) (by rw [← HW1.out]; exact HRA.out) (.slice (some ⟨wr.heap.size + 1, 0, none⟩) 1 1) (by simp [Act.eval]) 1 [.slice (some ⟨wr.heap.size, 0, none⟩) N N] (by rw [← HW1.out]; exact HSRC.out) (by rw [← HW1.out]; exact hszw) (by omega) (by decide) ?_; rw [← HW1.out]; intro v6 w6 hr6 ho6 hw6; obtain ⟨a6, c6, hv6⟩ := hr6.form; subst hv6; have HR6 := Lib.hid hr6; have HO6 := Lib.hid ho6; have HW6 := Lib.hid hw6; clear hr6 ho6 hw6))
      have hT6 := HP.out _ w6 HR6.out (HO1.out.trans' HO6.out (fun _ _ h => h)) (by
        rcases HW6.out with h | h
        · exact .inl h
        · exact .inr ⟨_, h, by have := HS1.out; simp; omega⟩)
      exact ⟨⟨i + 1, _, by go_num, by omega, Lib.hid (hT6.congr fun a b _ _ => by simp), Lib.hid (HB1.out.trans (HO6.out.below (B := w.heap.size) (fun b hb => (HRA.out.lt b hb).1) hszw))⟩, by simp [intOf]; omega⟩
    · have hii : N = i := by omega
      subst hii
      obtain ⟨cb, cc', hcv, hcc1, hcc2⟩ := HT.out.form (by omega)
      injection hcv with hc1 _ hc3
      subst hc1; subst hc3
      obtain ⟨w2, hw2⟩ : ∃ w2, w2 = wr := ⟨_, rfl⟩
      rw [← hw2] at HT HB ⊢
      clear hw2
      unfold maxLen at hcc2
      go_wp2_with fail
      go_loopw [7] (fun kv wr => ∃ k : Nat, kv = .int .i64 (k : Nat) ∧ k ≤ E ∧ Hid (Tab w.heap.size wr (.slice (some ⟨cb, 0, none⟩) N cc) N N rb (edB (toN (amongL (N : Int) (es.take k))))) ∧ Hid (Below w.heap.size w wr)) (fun kv _ => E - (intOf kv).toNat)
      case atStart => exact ⟨0, rfl, Nat.zero_le _, Lib.hid (HT.out.congr fun a b _ _ => rfl), HB⟩
      case round =>
        clear HT HB
        obtain ⟨k, rfl, hkE, HT, HB⟩ := hrel
        by_cases hlt : k < E
        · obtain ⟨e, he⟩ : ∃ e, es[k]? = some e := ⟨es[k]'(by rw [← HE.out]; exact hlt), by simp⟩
          have HTK := Lib.hid (amongL_take (n := (N : Int)) he)
          obtain ⟨e1, e2⟩ := e
          obtain ⟨vb, vo, rfl, hvb, hvc1, hvc2, d0, d1⟩ := (HR.out.below HB.out).at he
          simp only at d0 d1
          unfold maxLen at hvc2
          have hE0 : 0 < E := by omega
          have HD : Hid (∀ w3, Below wr.heap.size wr w3 → w3.cell? ⟨vb, vo + k * 2, none⟩ = some (.int .i64 e1) ∧ w3.cell? ⟨vb, vo + k * 2 + 1, none⟩ = some (.int .i64 e2)) := Lib.hid (fun w3 hb => ⟨(hb.cell (p := ⟨vb, vo + k * 2, none⟩) hvb).trans d0, (hb.cell (p := ⟨vb, vo + k * 2 + 1, none⟩) hvb).trans d1⟩)
          clear he
          go_wp2_with fail
          refine (HRT.out e1 e2 _).mono ?_
          rintro e w3 ⟨rfl, hb3⟩
          obtain ⟨d0, d1⟩ := HD.out w3 hb3
          have HT3 := Lib.hid (HT.out.below hb3)
          have HB3 := Lib.hid (HB.out.trans (hb3.mono HB.out.size))
          clear hb3 HT HB HD
          cases hrp : rightP (N : Int) (e1, e2)
          · have HT4 : Hid (Tab w.heap.size w3 (.slice (some ⟨cb, 0, none⟩) N cc) N N rb (edB (toN (amongL (N : Int) (es.take (k + 1)))))) := Lib.hid (by rw [HTK.out, hrp]; simpa using HT3.out)
            go_wp2_with fail
            exact ⟨⟨k + 1, by go_num, by omega, HT4, HB3⟩, by simp [intOf]; omega⟩
          · obtain ⟨g1, g2, g3, g4⟩ := rightP_iff.1 hrp
            simp only at g1 g2 g3 g4
            obtain ⟨a, rfl⟩ : ∃ a : Nat, e1 = (a : Int) := ⟨e1.toNat, by omega⟩
            obtain ⟨b, rfl⟩ : ∃ b : Nat, e2 = (b : Int) := ⟨e2.toNat, by omega⟩
            have ha : a < N := by omega
            have hb : b < N := by omega
            have trow := HT3.out.row ha
            obtain ⟨tcell, tfro⟩ := HT3.out.cell ha hb
            have HT4 : Hid (Tab w.heap.size (w3.setCell ⟨rb a, b, none⟩ (.bool true)) (.slice (some ⟨cb, 0, none⟩) N cc) N N rb (edB (toN (amongL (N : Int) (es.take (k + 1)))))) := Lib.hid (HT3.out.set ha hb true (fun x y _ _ => by
              rw [HTK.out, hrp]
              have : toN (amongL (N : Int) (es.take k) ++ if true = true then [((a : Int), (b : Int))] else []) = toN (amongL (N : Int) (es.take k)) ++ [(a, b)] := by simp [toN]
              rw [this]
              exact ed_snoc _ a b x y))
            have HB4 := Lib.hid (HT3.out.stored (j := b) ha HB3.out (.bool true))
            clear hrp HTK g1 g2 g3 g4
            go_wp2_with fail
            refine wp_region_til (S := (fun W => W.cell? ⟨vb, vo + k * 2, none⟩ = some (.int .i64 (a : Int)) ∧ W.cell? ⟨vb, vo + k * 2 + 1, none⟩ = some (.int .i64 (b : Int)) ∧ W.cell? ⟨cb, a, none⟩ = some (.slice (some ⟨rb a, 0, none⟩) N N) ∧ W.cell? ⟨rb a, b, none⟩ = some (.bool (edB (toN (amongL (N : Int) (es.take k))) a b)) ∧ W.frozen? ⟨rb a, b, none⟩ = false)) 14 (by kernel_rfl) ?_ (fun hHeld => ?_)
            · exact ⟨d0, d1, trow, tcell, tfro⟩
            refine tkT 0 ⟨some 33, .move (.tmp 5), 49, "ref.go:15", #[], none⟩ ?_
            try simp only [Act.put, List.setIfInBounds_toArray, List.set_cons_zero, List.set_cons_succ]
            refine tkT 1 ⟨some 34, .move (.tmp 1), 22, "ref.go:15", #[], none⟩ ?_
            try simp only [Act.put, List.setIfInBounds_toArray, List.set_cons_zero, List.set_cons_succ]
            refine tkT 2 ⟨some 35, .move (.tmp 7), 3, "ref.go:15", #[], none⟩ ?_
            try simp only [Act.put, List.setIfInBounds_toArray, List.set_cons_zero, List.set_cons_succ]
            refine tkT 3 ⟨some 36, .indexAddr 22 (.tmp 34) (.tmp 35), 0, "ref.go:15", #[⟨1, .data⟩, ⟨2, .data⟩], none⟩ ?_
            try simp only [Act.put, List.setIfInBounds_toArray, List.set_cons_zero, List.set_cons_succ]
            refine tkT 4 ⟨some 37, .indexAddr 36 (.tmp 36) (.const (Value.int IntKind.i64 0)), 0, "ref.go:15", #[⟨3, .data⟩], none⟩ ?_
            try simp only [Act.put, List.setIfInBounds_toArray, List.set_cons_zero, List.set_cons_succ]
            refine tkT 5 ⟨some 38, .load 3 (.tmp 37), 3, "ref.go:15", #[⟨4, .data⟩], none⟩ ?_
            try simp only [Act.put, List.setIfInBounds_toArray, List.set_cons_zero, List.set_cons_succ]
            refine tkT 6 ⟨some 39, .indexAddr 49 (.tmp 33) (.tmp 38), 0, "ref.go:15", #[⟨0, .data⟩, ⟨5, .data⟩], none⟩ ?_
            try simp only [Act.put, List.setIfInBounds_toArray, List.set_cons_zero, List.set_cons_succ]
            refine tkT 7 ⟨some 40, .load 55 (.tmp 39), 55, "ref.go:15", #[⟨6, .data⟩], none⟩ ?_
            try simp only [Act.put, List.setIfInBounds_toArray, List.set_cons_zero, List.set_cons_succ]
            refine tkT 8 ⟨some 41, .move (.tmp 1), 22, "ref.go:15", #[], none⟩ ?_
            try simp only [Act.put, List.setIfInBounds_toArray, List.set_cons_zero, List.set_cons_succ]
            refine tkT 9 ⟨some 42, .move (.tmp 7), 3, "ref.go:15", #[], none⟩ ?_
            try simp only [Act.put, List.setIfInBounds_toArray, List.set_cons_zero, List.set_cons_succ]
            refine tkT 10 ⟨some 43, .indexAddr 22 (.tmp 41) (.tmp 42), 0, "ref.go:15", #[⟨8, .data⟩, ⟨9, .data⟩], none⟩ ?_
            try simp only [Act.put, List.setIfInBounds_toArray, List.set_cons_zero, List.set_cons_succ]
            refine tkT 11 ⟨some 44, .indexAddr 36 (.tmp 43) (.const (Value.int IntKind.i64 1)), 0, "ref.go:15", #[⟨10, .data⟩], none⟩ ?_
            try simp only [Act.put, List.setIfInBounds_toArray, List.set_cons_zero, List.set_cons_succ]
            refine tkT 12 ⟨some 45, .load 3 (.tmp 44), 3, "ref.go:15", #[⟨11, .data⟩], none⟩ ?_
            try simp only [Act.put, List.setIfInBounds_toArray, List.set_cons_zero, List.set_cons_succ]
            refine tkT 13 ⟨some 46, .indexAddr 55 (.tmp 40) (.tmp 45), 0, "ref.go:15", #[⟨7, .data⟩, ⟨12, .data⟩, ⟨0, .phase⟩, ⟨1, .phase⟩, ⟨2, .phase⟩, ⟨3, .phase⟩, ⟨4, .phase⟩, ⟨5, .phase⟩, ⟨6, .phase⟩, ⟨7, .phase⟩, ⟨8, .phase⟩, ⟨9, .phase⟩, ⟨10, .phase⟩, ⟨11, .phase⟩, ⟨12, .phase⟩], none⟩ ?_
            try simp only [Act.put, List.setIfInBounds_toArray, List.set_cons_zero, List.set_cons_succ]
            refine til_last (o := ⟨none, .store 4 (.tmp 46) (.const (Value.bool true)), 0, "ref.go:15", #[⟨13, .data⟩, ⟨0, .phase⟩, ⟨1, .phase⟩, ⟨2, .phase⟩, ⟨3, .phase⟩, ⟨4, .phase⟩, ⟨5, .phase⟩, ⟨6, .phase⟩, ⟨7, .phase⟩, ⟨8, .phase⟩, ⟨9, .phase⟩, ⟨10, .phase⟩, ⟨11, .phase⟩, ⟨12, .phase⟩], none⟩) (by kernel_rfl) rfl (by kernel_rfl) (fun KK hK => ?_)
            go_simp
            obtain ⟨_, _, _, q4, q5⟩ := hHeld
            go_simp
            refine hK.out _ _ ?_
            clear hK KK
            try simp only [Act.put, List.setIfInBounds_toArray, List.set_cons_zero, List.set_cons_succ]
            go_wp2_with fail
            exact ⟨⟨k + 1, by go_num, by omega, Lib.hid HT4.out.drew, Lib.hid HB4.out.drew⟩, by simp [intOf]; omega⟩
        · have hkk : E = k := by omega
          have HT5 : Hid (Tab w.heap.size wr (.slice (some ⟨cb, 0, none⟩) N cc) N N rb (viaB EB 0)) := Lib.hid (by
            have h := HT.out
            rw [HEB.out]
            rw [← hkk, HE.out, List.take_length] at h
            exact h.congr fun a b _ _ => rfl)
          obtain ⟨w5, hw5⟩ : ∃ w5, w5 = wr := ⟨_, rfl⟩
          rw [← hw5] at HT5 HB ⊢
          subst hkk
          clear hw5 HT
          go_wp2_with fail
          go_loopw [8] (fun kv wr => ∃ k : Nat, kv = .int .i64 (k : Nat) ∧ k ≤ N ∧ Hid (Tab w.heap.size wr (.slice (some ⟨cb, 0, none⟩) N cc) N N rb (viaB EB k)) ∧ Hid (Below w.heap.size w wr)) (fun kv _ => N - (intOf kv).toNat)
          case atStart => exact ⟨0, rfl, Nat.zero_le _, HT5, HB⟩
          case round =>
            clear HT5 HB
            obtain ⟨k, rfl, hkN, HT, HB⟩ := hrel
            by_cases hlt : k < N
            · obtain ⟨w6, hw6⟩ : ∃ w6, w6 = wr := ⟨_, rfl⟩
              rw [← hw6] at HT HB ⊢
              clear hw6
              go_wp2_with fail
              go_loopw [9] (fun iv wr => ∃ i : Nat, iv = .int .i64 (i : Nat) ∧ i ≤ N ∧ Hid (Tab w.heap.size wr (.slice (some ⟨cb, 0, none⟩) N cc) N N rb (Tm EB k i 0)) ∧ Hid (Below w.heap.size w wr)) (fun iv _ => N - (intOf iv).toNat)
              case atStart => exact ⟨0, rfl, Nat.zero_le _, Lib.hid (HT.out.congr fun a b _ _ => tm_first EB k a b), HB⟩
              case round =>
                clear HT HB
                obtain ⟨i, rfl, hiN, HT, HB⟩ := hrel
                by_cases hli : i < N
                · have ri := HT.out.row hli
                  obtain ⟨cik, _⟩ := HT.out.cell hli hlt
                  rw [tm_i] at cik
                  cases hik : viaB EB k i k
                  · rw [hik] at cik
                    have HT6 := Lib.hid (HT.out.congr fun a b _ _ => tm_skip hik a b)
                    clear hik
                    go_wp2_with fail
                    exact ⟨⟨i + 1, by go_num, by omega, HT6, HB⟩, by simp [intOf]; omega⟩
                  · rw [hik] at cik
                    have HIK := Lib.hid hik
                    obtain ⟨w7, hw7⟩ : ∃ w7, w7 = wr := ⟨_, rfl⟩
                    rw [← hw7] at HT HB ri cik ⊢
                    clear hw7 hik
                    go_wp2_with fail
                    clear ri cik
                    go_loopw [10] (fun jv wr => ∃ j : Nat, jv = .int .i64 (j : Nat) ∧ j ≤ N ∧ Hid (Tab w.heap.size wr (.slice (some ⟨cb, 0, none⟩) N cc) N N rb (Tm EB k i j)) ∧ Hid (Below w.heap.size w wr)) (fun jv _ => N - (intOf jv).toNat)
                    case atStart => exact ⟨0, rfl, Nat.zero_le _, HT, HB⟩
                    case round =>
                      clear HT HB
                      obtain ⟨j, rfl, hjN, HT, HB⟩ := hrel
                      by_cases hlj : j < N
                      · have ri := HT.out.row hli
                        have rk := HT.out.row hlt
                        obtain ⟨cij, fij⟩ := HT.out.cell hli hlj
                        obtain ⟨ckj, _⟩ := HT.out.cell hlt hlj
                        rw [tm_at] at cij
                        rw [tm_k] at ckj
                        obtain ⟨xv, hxv⟩ : ∃ xv, xv = viaB EB k i j := ⟨_, rfl⟩
                        obtain ⟨yv, hyv⟩ : ∃ yv, yv = viaB EB k k j := ⟨_, rfl⟩
                        have HT7 := Lib.hid (HT.out.set hli hlj (xv || yv) (fun a b _ _ => tm_step HIK.out (by rw [hxv, hyv]) a b))
                        have HB7 := Lib.hid (HT.out.stored (j := j) hli HB.out (.bool (xv || yv)))
                        rw [← hxv] at cij
                        rw [← hyv] at ckj
                        clear hxv hyv HT HB
                        cases xv
                        · rw [Bool.false_or] at HT7 HB7
                          go_wp2_with fail
                          refine wp_region_til (S := (fun W => W.cell? ⟨cb, i, none⟩ = some (.slice (some ⟨rb i, 0, none⟩) N N) ∧ W.cell? ⟨cb, k, none⟩ = some (.slice (some ⟨rb k, 0, none⟩) N N) ∧ W.cell? ⟨rb i, j, none⟩ = some (.bool false) ∧ W.cell? ⟨rb k, j, none⟩ = some (.bool yv) ∧ W.frozen? ⟨rb i, j, none⟩ = false)) 22 (by kernel_rfl) ?_ (fun hHeld => ?_)
                          · exact ⟨ri, rk, cij, ckj, fij⟩
                          refine tkT 0 ⟨some 70, .move (.tmp 5), 49, "ref.go:24", #[], none⟩ ?_
                          try simp only [Act.put, List.setIfInBounds_toArray, List.set_cons_zero, List.set_cons_succ]
                          refine tkT 1 ⟨some 71, .move (.tmp 9), 3, "ref.go:24", #[], none⟩ ?_
                          try simp only [Act.put, List.setIfInBounds_toArray, List.set_cons_zero, List.set_cons_succ]
                          refine tkT 2 ⟨some 72, .indexAddr 49 (.tmp 70) (.tmp 71), 0, "ref.go:24", #[⟨0, .data⟩, ⟨1, .data⟩], none⟩ ?_
                          try simp only [Act.put, List.setIfInBounds_toArray, List.set_cons_zero, List.set_cons_succ]
                          refine tkT 3 ⟨some 73, .load 55 (.tmp 72), 55, "ref.go:24", #[⟨2, .data⟩], none⟩ ?_
                          try simp only [Act.put, List.setIfInBounds_toArray, List.set_cons_zero, List.set_cons_succ]
                          refine tkT 4 ⟨some 74, .move (.tmp 10), 3, "ref.go:24", #[], none⟩ ?_
                          try simp only [Act.put, List.setIfInBounds_toArray, List.set_cons_zero, List.set_cons_succ]
                          refine tkT 5 ⟨some 75, .move (.tmp 5), 49, "ref.go:24", #[], none⟩ ?_
                          try simp only [Act.put, List.setIfInBounds_toArray, List.set_cons_zero, List.set_cons_succ]
                          refine tkT 6 ⟨some 76, .move (.tmp 9), 3, "ref.go:24", #[], none⟩ ?_
                          try simp only [Act.put, List.setIfInBounds_toArray, List.set_cons_zero, List.set_cons_succ]
                          refine tkT 7 ⟨some 77, .indexAddr 49 (.tmp 75) (.tmp 76), 0, "ref.go:24", #[⟨5, .data⟩, ⟨6, .data⟩], none⟩ ?_
                          try simp only [Act.put, List.setIfInBounds_toArray, List.set_cons_zero, List.set_cons_succ]
                          refine tkT 8 ⟨some 78, .load 55 (.tmp 77), 55, "ref.go:24", #[⟨7, .data⟩], none⟩ ?_
                          try simp only [Act.put, List.setIfInBounds_toArray, List.set_cons_zero, List.set_cons_succ]
                          refine tkT 9 ⟨some 79, .move (.tmp 10), 3, "ref.go:24", #[], none⟩ ?_
                          try simp only [Act.put, List.setIfInBounds_toArray, List.set_cons_zero, List.set_cons_succ]
                          refine tkT 10 ⟨some 80, .indexAddr 55 (.tmp 78) (.tmp 79), 0, "ref.go:24", #[⟨8, .data⟩, ⟨9, .data⟩], none⟩ ?_
                          try simp only [Act.put, List.setIfInBounds_toArray, List.set_cons_zero, List.set_cons_succ]
                          refine tkT 11 ⟨some 81, .load 4 (.tmp 80), 4, "ref.go:24", #[⟨10, .data⟩], none⟩ ?_
                          try simp only [Act.put, List.setIfInBounds_toArray, List.set_cons_zero, List.set_cons_succ]
                          refine til_t 12 ⟨some 82, .move (.tmp 81), 4, "ref.go:24", #[⟨11, .data⟩], none⟩ (v := .bool false) rfl (by kernel_rfl) (by kernel_rfl) (fun _ _ _ h => h) (by assumption) ?_ ?_
                          · (intro w hSw; (try dsimp only at hSw); go_simp; try with_reducible rfl)
                          try simp only [Act.put, List.setIfInBounds_toArray, List.set_cons_zero, List.set_cons_succ]
                          refine tkT 13 ⟨some 83, .move (.tmp 5), 49, "ref.go:24", #[⟨12, .guard⟩], some (12, false)⟩ ?_
                          try simp only [Act.put, List.setIfInBounds_toArray, List.set_cons_zero, List.set_cons_succ]
                          refine tkT 14 ⟨some 84, .move (.tmp 8), 3, "ref.go:24", #[⟨12, .guard⟩], some (12, false)⟩ ?_
                          try simp only [Act.put, List.setIfInBounds_toArray, List.set_cons_zero, List.set_cons_succ]
                          refine tkT 15 ⟨some 85, .indexAddr 49 (.tmp 83) (.tmp 84), 0, "ref.go:24", #[⟨13, .data⟩, ⟨14, .data⟩, ⟨12, .guard⟩], some (12, false)⟩ ?_
                          try simp only [Act.put, List.setIfInBounds_toArray, List.set_cons_zero, List.set_cons_succ]
                          refine tkT 16 ⟨some 86, .load 55 (.tmp 85), 55, "ref.go:24", #[⟨15, .data⟩, ⟨12, .guard⟩], some (12, false)⟩ ?_
                          try simp only [Act.put, List.setIfInBounds_toArray, List.set_cons_zero, List.set_cons_succ]
                          refine tkT 17 ⟨some 87, .move (.tmp 10), 3, "ref.go:24", #[⟨12, .guard⟩], some (12, false)⟩ ?_
                          try simp only [Act.put, List.setIfInBounds_toArray, List.set_cons_zero, List.set_cons_succ]
                          refine tkT 18 ⟨some 88, .indexAddr 55 (.tmp 86) (.tmp 87), 0, "ref.go:24", #[⟨16, .data⟩, ⟨17, .data⟩, ⟨12, .guard⟩], some (12, false)⟩ ?_
                          try simp only [Act.put, List.setIfInBounds_toArray, List.set_cons_zero, List.set_cons_succ]
                          refine tkT 19 ⟨some 89, .load 4 (.tmp 88), 4, "ref.go:24", #[⟨18, .data⟩, ⟨12, .guard⟩], some (12, false)⟩ ?_
                          try simp only [Act.put, List.setIfInBounds_toArray, List.set_cons_zero, List.set_cons_succ]
                          refine tkT 20 ⟨some 90, .pick (.tmp 82) (.const (Value.bool true)) (.tmp 89), 4, "ref.go:24", #[⟨12, .data⟩, ⟨19, .data⟩], none⟩ ?_
                          try simp only [Act.put, List.setIfInBounds_toArray, List.set_cons_zero, List.set_cons_succ]
                          refine tkT 21 ⟨some 91, .indexAddr 55 (.tmp 73) (.tmp 74), 0, "ref.go:24", #[⟨3, .data⟩, ⟨4, .data⟩, ⟨0, .phase⟩, ⟨1, .phase⟩, ⟨2, .phase⟩, ⟨3, .phase⟩, ⟨4, .phase⟩, ⟨5, .phase⟩, ⟨6, .phase⟩, ⟨7, .phase⟩, ⟨8, .phase⟩, ⟨9, .phase⟩, ⟨10, .phase⟩, ⟨11, .phase⟩, ⟨12, .phase⟩, ⟨13, .phase⟩, ⟨14, .phase⟩, ⟨15, .phase⟩, ⟨16, .phase⟩, ⟨17, .phase⟩, ⟨18, .phase⟩, ⟨19, .phase⟩, ⟨20, .phase⟩], none⟩ ?_
                          try simp only [Act.put, List.setIfInBounds_toArray, List.set_cons_zero, List.set_cons_succ]
                          refine til_last (o := ⟨none, .store 4 (.tmp 91) (.tmp 90), 0, "ref.go:24", #[⟨21, .data⟩, ⟨20, .data⟩, ⟨12, .chain⟩, ⟨0, .phase⟩, ⟨1, .phase⟩, ⟨2, .phase⟩, ⟨3, .phase⟩, ⟨4, .phase⟩, ⟨5, .phase⟩, ⟨6, .phase⟩, ⟨7, .phase⟩, ⟨8, .phase⟩, ⟨9, .phase⟩, ⟨10, .phase⟩, ⟨11, .phase⟩, ⟨12, .phase⟩, ⟨13, .phase⟩, ⟨14, .phase⟩, ⟨15, .phase⟩, ⟨16, .phase⟩, ⟨17, .phase⟩, ⟨18, .phase⟩, ⟨19, .phase⟩, ⟨20, .phase⟩], none⟩) (by kernel_rfl) rfl (by kernel_rfl) (fun KK hK => ?_)
                          go_simp
                          obtain ⟨_, _, q3, _, q5⟩ := hHeld
                          go_simp
                          refine hK.out _ _ ?_
                          clear hK KK
                          try simp only [Act.put, List.setIfInBounds_toArray, List.set_cons_zero, List.set_cons_succ]
                          go_wp2_with fail
                          exact ⟨⟨j + 1, by go_num, by omega, Lib.hid HT7.out.drew, Lib.hid HB7.out.drew⟩, by simp [intOf]; omega⟩
                        · rw [Bool.true_or] at HT7 HB7
                          go_wp2_with fail
                          refine wp_region_til (S := (fun W => W.cell? ⟨cb, i, none⟩ = some (.slice (some ⟨rb i, 0, none⟩) N N) ∧ W.cell? ⟨cb, k, none⟩ = some (.slice (some ⟨rb k, 0, none⟩) N N) ∧ W.cell? ⟨rb i, j, none⟩ = some (.bool true) ∧ W.cell? ⟨rb k, j, none⟩ = some (.bool yv) ∧ W.frozen? ⟨rb i, j, none⟩ = false)) 22 (by kernel_rfl) ?_ (fun hHeld => ?_)
                          · exact ⟨ri, rk, cij, ckj, fij⟩
                          refine tkT 0 ⟨some 70, .move (.tmp 5), 49, "ref.go:24", #[], none⟩ ?_
                          try simp only [Act.put, List.setIfInBounds_toArray, List.set_cons_zero, List.set_cons_succ]
                          refine tkT 1 ⟨some 71, .move (.tmp 9), 3, "ref.go:24", #[], none⟩ ?_
                          try simp only [Act.put, List.setIfInBounds_toArray, List.set_cons_zero, List.set_cons_succ]
                          refine tkT 2 ⟨some 72, .indexAddr 49 (.tmp 70) (.tmp 71), 0, "ref.go:24", #[⟨0, .data⟩, ⟨1, .data⟩], none⟩ ?_
                          try simp only [Act.put, List.setIfInBounds_toArray, List.set_cons_zero, List.set_cons_succ]
                          refine tkT 3 ⟨some 73, .load 55 (.tmp 72), 55, "ref.go:24", #[⟨2, .data⟩], none⟩ ?_
                          try simp only [Act.put, List.setIfInBounds_toArray, List.set_cons_zero, List.set_cons_succ]
                          refine tkT 4 ⟨some 74, .move (.tmp 10), 3, "ref.go:24", #[], none⟩ ?_
                          try simp only [Act.put, List.setIfInBounds_toArray, List.set_cons_zero, List.set_cons_succ]
                          refine tkT 5 ⟨some 75, .move (.tmp 5), 49, "ref.go:24", #[], none⟩ ?_
                          try simp only [Act.put, List.setIfInBounds_toArray, List.set_cons_zero, List.set_cons_succ]
                          refine tkT 6 ⟨some 76, .move (.tmp 9), 3, "ref.go:24", #[], none⟩ ?_
                          try simp only [Act.put, List.setIfInBounds_toArray, List.set_cons_zero, List.set_cons_succ]
                          refine tkT 7 ⟨some 77, .indexAddr 49 (.tmp 75) (.tmp 76), 0, "ref.go:24", #[⟨5, .data⟩, ⟨6, .data⟩], none⟩ ?_
                          try simp only [Act.put, List.setIfInBounds_toArray, List.set_cons_zero, List.set_cons_succ]
                          refine tkT 8 ⟨some 78, .load 55 (.tmp 77), 55, "ref.go:24", #[⟨7, .data⟩], none⟩ ?_
                          try simp only [Act.put, List.setIfInBounds_toArray, List.set_cons_zero, List.set_cons_succ]
                          refine tkT 9 ⟨some 79, .move (.tmp 10), 3, "ref.go:24", #[], none⟩ ?_
                          try simp only [Act.put, List.setIfInBounds_toArray, List.set_cons_zero, List.set_cons_succ]
                          refine tkT 10 ⟨some 80, .indexAddr 55 (.tmp 78) (.tmp 79), 0, "ref.go:24", #[⟨8, .data⟩, ⟨9, .data⟩], none⟩ ?_
                          try simp only [Act.put, List.setIfInBounds_toArray, List.set_cons_zero, List.set_cons_succ]
                          refine tkT 11 ⟨some 81, .load 4 (.tmp 80), 4, "ref.go:24", #[⟨10, .data⟩], none⟩ ?_
                          try simp only [Act.put, List.setIfInBounds_toArray, List.set_cons_zero, List.set_cons_succ]
                          refine til_t 12 ⟨some 82, .move (.tmp 81), 4, "ref.go:24", #[⟨11, .data⟩], none⟩ (v := .bool true) rfl (by kernel_rfl) (by kernel_rfl) (fun _ _ _ h => h) (by assumption) ?_ ?_
                          · (intro w hSw; (try dsimp only at hSw); go_simp; try with_reducible rfl)
                          try simp only [Act.put, List.setIfInBounds_toArray, List.set_cons_zero, List.set_cons_succ]
                          refine til_s 13 ⟨some 83, .move (.tmp 5), 49, "ref.go:24", #[⟨12, .guard⟩], some (12, false)⟩ rfl (by kernel_rfl) (by kernel_rfl) (fun _ _ _ h => h) (by assumption) ?_
                          try simp only [Act.put, List.setIfInBounds_toArray, List.set_cons_zero, List.set_cons_succ]
                          refine til_s 14 ⟨some 84, .move (.tmp 8), 3, "ref.go:24", #[⟨12, .guard⟩], some (12, false)⟩ rfl (by kernel_rfl) (by kernel_rfl) (fun _ _ _ h => h) (by assumption) ?_
                          try simp only [Act.put, List.setIfInBounds_toArray, List.set_cons_zero, List.set_cons_succ]
                          refine til_s 15 ⟨some 85, .indexAddr 49 (.tmp 83) (.tmp 84), 0, "ref.go:24", #[⟨13, .data⟩, ⟨14, .data⟩, ⟨12, .guard⟩], some (12, false)⟩ rfl (by kernel_rfl) (by kernel_rfl) (fun _ _ _ h => h) (by assumption) ?_
                          try simp only [Act.put, List.setIfInBounds_toArray, List.set_cons_zero, List.set_cons_succ]
                          refine til_s 16 ⟨some 86, .load 55 (.tmp 85), 55, "ref.go:24", #[⟨15, .data⟩, ⟨12, .guard⟩], some (12, false)⟩ rfl (by kernel_rfl) (by kernel_rfl) (fun _ _ _ h => h) (by assumption) ?_
                          try simp only [Act.put, List.setIfInBounds_toArray, List.set_cons_zero, List.set_cons_succ]
                          refine til_s 17 ⟨some 87, .move (.tmp 10), 3, "ref.go:24", #[⟨12, .guard⟩], some (12, false)⟩ rfl (by kernel_rfl) (by kernel_rfl) (fun _ _ _ h => h) (by assumption) ?_
                          try simp only [Act.put, List.setIfInBounds_toArray, List.set_cons_zero, List.set_cons_succ]
                          refine til_s 18 ⟨some 88, .indexAddr 55 (.tmp 86) (.tmp 87), 0, "ref.go:24", #[⟨16, .data⟩, ⟨17, .data⟩, ⟨12, .guard⟩], some (12, false)⟩ rfl (by kernel_rfl) (by kernel_rfl) (fun _ _ _ h => h) (by assumption) ?_
                          try simp only [Act.put, List.setIfInBounds_toArray, List.set_cons_zero, List.set_cons_succ]
                          refine til_s 19 ⟨some 89, .load 4 (.tmp 88), 4, "ref.go:24", #[⟨18, .data⟩, ⟨12, .guard⟩], some (12, false)⟩ rfl (by kernel_rfl) (by kernel_rfl) (fun _ _ _ h => h) (by assumption) ?_
                          try simp only [Act.put, List.setIfInBounds_toArray, List.set_cons_zero, List.set_cons_succ]
                          refine tkT 20 ⟨some 90, .pick (.tmp 82) (.const (Value.bool true)) (.tmp 89), 4, "ref.go:24", #[⟨12, .data⟩, ⟨19, .data⟩], none⟩ ?_
                          try simp only [Act.put, List.setIfInBounds_toArray, List.set_cons_zero, List.set_cons_succ]
                          refine tkT 21 ⟨some 91, .indexAddr 55 (.tmp 73) (.tmp 74), 0, "ref.go:24", #[⟨3, .data⟩, ⟨4, .data⟩, ⟨0, .phase⟩, ⟨1, .phase⟩, ⟨2, .phase⟩, ⟨3, .phase⟩, ⟨4, .phase⟩, ⟨5, .phase⟩, ⟨6, .phase⟩, ⟨7, .phase⟩, ⟨8, .phase⟩, ⟨9, .phase⟩, ⟨10, .phase⟩, ⟨11, .phase⟩, ⟨12, .phase⟩, ⟨13, .phase⟩, ⟨14, .phase⟩, ⟨15, .phase⟩, ⟨16, .phase⟩, ⟨17, .phase⟩, ⟨18, .phase⟩, ⟨19, .phase⟩, ⟨20, .phase⟩], none⟩ ?_
                          try simp only [Act.put, List.setIfInBounds_toArray, List.set_cons_zero, List.set_cons_succ]
                          refine til_last (o := ⟨none, .store 4 (.tmp 91) (.tmp 90), 0, "ref.go:24", #[⟨21, .data⟩, ⟨20, .data⟩, ⟨12, .chain⟩, ⟨0, .phase⟩, ⟨1, .phase⟩, ⟨2, .phase⟩, ⟨3, .phase⟩, ⟨4, .phase⟩, ⟨5, .phase⟩, ⟨6, .phase⟩, ⟨7, .phase⟩, ⟨8, .phase⟩, ⟨9, .phase⟩, ⟨10, .phase⟩, ⟨11, .phase⟩, ⟨12, .phase⟩, ⟨13, .phase⟩, ⟨14, .phase⟩, ⟨15, .phase⟩, ⟨16, .phase⟩, ⟨17, .phase⟩, ⟨18, .phase⟩, ⟨19, .phase⟩, ⟨20, .phase⟩], none⟩) (by kernel_rfl) rfl (by kernel_rfl) (fun KK hK => ?_)
                          go_simp
                          obtain ⟨_, _, q3, _, q5⟩ := hHeld
                          go_simp
                          refine hK.out _ _ ?_
                          clear hK KK
                          try simp only [Act.put, List.setIfInBounds_toArray, List.set_cons_zero, List.set_cons_succ]
                          go_wp2_with fail
                          exact ⟨⟨j + 1, by go_num, by omega, Lib.hid HT7.out.drew, Lib.hid HB7.out.drew⟩, by simp [intOf]; omega⟩
                      · have hjj : N = j := by omega
                        have HT7 : Hid (Tab w.heap.size wr (.slice (some ⟨cb, 0, none⟩) N cc) N N rb (Tm EB k (i + 1) 0)) := Lib.hid (by
                          have h := HT.out
                          rw [← hjj] at h
                          exact h.congr fun a b _ hb => tm_row hb)
                        clear HT
                        go_wp2_with fail
                        exact ⟨⟨i + 1, by go_num, by omega, HT7, HB⟩, by simp [intOf]; omega⟩
                · have hii : N = i := by omega
                  have HT7 : Hid (Tab w.heap.size wr (.slice (some ⟨cb, 0, none⟩) N cc) N N rb (viaB EB (k + 1))) := Lib.hid (by
                    have h := HT.out
                    rw [← hii] at h
                    exact h.congr fun a b ha _ => tm_end ha)
                  clear HT
                  go_wp2_with fail
                  exact ⟨⟨k + 1, by go_num, by omega, HT7, HB⟩, by simp [intOf]; omega⟩
            · have hkk : N = k := by omega
              subst hkk
              go_wp2_with fail
              go_ret
              exact ⟨_, rb, rfl, HT.out, HB.out⟩
end Go.Proofs.YtfpepoebammeoaaGreat
