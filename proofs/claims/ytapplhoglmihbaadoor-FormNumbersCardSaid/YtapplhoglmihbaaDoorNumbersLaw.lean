/- The law FormNumbers answers true. -/
import Derived.Test.YtapplhoglmihbaaDoorNumber
import Derived.Test.YtapplhoglmihbaaDoorRNum2
import Derived.Test.YtapplhoglmihbaaDoorAwakeF
import Derived.Test.YtapplhoglmihbaaDoorReadsLaw
import Derived.Deep.RegionHeld3
set_option linter.unusedVariables false
namespace Go.Proofs.YtapplhoglmihbaaDoor
open Go.ChangeShapes Go.WideShapes Go.ChangeAt Go.RowKit
open Go.Lib (itoa)

theorem rnumf_any (n : Int) (w : World) (h0 : -9223372036854775808 ≤ n) (h1 : n ≤ 9223372036854775807) :
    Calls Tryd.prog 22 #[.int .i64 n] w fun e w' => e = .returned (fv false (tx (itoa n)) (.slice none 0 0)) ∧ Below w.heap.size w w' := by
  have hc := digits_any n (w.alloc (.cells #[.bool false, .string ⟨#[]⟩, .slice none 0 0] 24)) h0 h1
  have HC := Lib.hid hc
  clear hc
  go_enter Tryd.func22, Tryd.ntmps22
  go_wp2_with fail
  refine HC.out.mono ?_
  rintro e w1 ⟨rfl, hb1⟩
  go_wp2_with fail
  refine (rtext_any _ _).mono ?_
  rintro e w2 ⟨rfl, hb2⟩
  have ho : Off (fun _ => False) (w.alloc (.cells #[.bool false, .string ⟨#[]⟩, .slice none 0 0] 24)) w2 := (Off.of_below hb1).trans (Off.of_below hb2)
  obtain ⟨⟨z1, z2, z3⟩, zf, zl⟩ := cells3_off ho (fun h => h)
  have zf0 := zf 0
  have zf1 := zf 1
  have zf2 := zf 2
  have hb : Below w.heap.size w w2 := ((Below.refl _ _).alloc (Nat.le_refl _) _).trans (ho.below (fun i hi => hi.elim) (by simp))
  have HB := Lib.hid hb
  clear hb1 hb2 ho zf hb
  go_wp2_with fail
  refine bodyPost_ret (v := fv false (tx (itoa n)) (.slice none 0 0)) (by simp [results, Tryd.results22, go_sem, z1, z2, z3]) rfl ⟨rfl, ?_⟩
  exact ((HB.out.setCell (p := ⟨w.heap.size, 0, none⟩) (Nat.le_refl _) _).setCell (p := ⟨w.heap.size, 1, none⟩) (Nat.le_refl _) _).setCell (p := ⟨w.heap.size, 2, none⟩) (Nat.le_refl _) _

/-- What Code answers of what Number left beside a number. -/
theorem code_num (x : Value) (k : Int) (h : x = .nilIface ∧ k = 0 ∨ x = .iface 56 (.int .i64 5) ∧ k = 5) (w : World) (hg : HasErr w) :
    Calls Tryd.prog 12 #[x] w fun e w' => e = .returned (.int .i64 k) ∧ Below w.heap.size w w' := by
  rcases h with ⟨rfl, rfl⟩ | ⟨rfl, rfl⟩
  · exact (code_nil w).mono fun e w' ⟨he, hw⟩ => ⟨he, by rw [hw]; exact Below.refl _ _⟩
  · exact code_errno 5 w hg

theorem law_start {w W : World} {x1 x2 x3 : Value} {ty : TypeId} (h : Below (w.heap.size + 1) (w.alloc (.cells #[x1, x2, x3] ty)) W) :
    W.drew.cell? ⟨w.heap.size, 0, none⟩ = some x1 ∧ W.drew.cell? ⟨w.heap.size, 1, none⟩ = some x2 ∧ W.drew.cell? ⟨w.heap.size, 2, none⟩ = some x3 ∧ Below (w.heap.size + 1) (w.alloc (.cells #[x1, x2, x3] ty)) W.drew := by
  obtain ⟨k1, k2, k3, _⟩ := box3 h
  exact ⟨k1, k2, k3, h.drew⟩
theorem law_keep {w W W2 : World} {x1 x2 x3 : Value} {ty : TypeId} (h : Below (w.heap.size + 1) (w.alloc (.cells #[x1, x2, x3] ty)) W) (hb : Below W.heap.size W W2) :
    W2.cell? ⟨w.heap.size, 0, none⟩ = some x1 ∧ W2.cell? ⟨w.heap.size, 1, none⟩ = some x2 ∧ W2.cell? ⟨w.heap.size, 2, none⟩ = some x3 ∧ Below (w.heap.size + 1) (w.alloc (.cells #[x1, x2, x3] ty)) W2 := by
  have h2 := box_step h hb
  obtain ⟨k1, k2, k3, _⟩ := box3 h2
  exact ⟨k1, k2, k3, h2⟩

set_option maxHeartbeats 4000000 in
set_option maxRecDepth 100000 in
theorem numberslaw (n lo hi : Int) (s : ByteArray) (w : World) (hg : HasErr w) (ht : HasTab w) (hv : HasSents w) (hs : s.size ≤ 140737488355328)
    (n0 : -9223372036854775808 ≤ n) (n1 : n ≤ 9223372036854775807) (l0 : -9223372036854775808 ≤ lo) (l1 : lo ≤ 9223372036854775807) (l2 : -9223372036854775808 ≤ hi) (l3 : hi ≤ 9223372036854775807) :
    Calls Tryd.prog 5 #[.int .i64 n, .string s, .agg #[.int .i64 lo, .int .i64 hi]] w fun e w' => e = .returned (.bool true) ∧ Below w.heap.size w w' := by
  have haw : Calls Tryd.prog 8 #[] (w.alloc (.cells #[.int .i64 lo, .int .i64 hi] 40)) fun e w' => e = .returned (.bool true) ∧ Below (w.alloc (.cells #[.int .i64 lo, .int .i64 hi] 40)).heap.size (w.alloc (.cells #[.int .i64 lo, .int .i64 hi] 40)) w' := awake_any _ (ht.below ((Below.refl _ _).alloc (Nat.le_refl _) _))
  obtain ⟨X, hX⟩ : ∃ X, X = tx (itoa n) := ⟨_, rfl⟩
  have hXn : isNum X n n n := ⟨n0, n1, hX, Int.le_refl _, Int.le_refl _⟩
  have hXs : X.size ≤ 20 := by rw [hX, tx_len]; exact itoa_len n n0 n1
  have hnum : ∀ wz, Below w.heap.size w wz → Calls Tryd.prog 16 #[.int .i64 n] wz fun e w' => e = .returned (fv false X (.slice none 0 0)) ∧ Below wz.heap.size wz w' := fun wz hz => by
    rw [hX]; exact num_any n wz n0 n1 (ht.below hz)
  have hrnum : ∀ wz, Calls Tryd.prog 22 #[.int .i64 n] wz fun e w' => e = .returned (fv false X (.slice none 0 0)) ∧ Below wz.heap.size wz w' := fun wz => by
    rw [hX]; exact rnumf_any n wz n0 n1
  have hN1 : ∀ wz, Below w.heap.size w wz → Calls Tryd.prog 17 #[fv false X (.slice none 0 0), .int .i64 n, .int .i64 n] wz fun e w' => e = .returned (.tuple #[.int .i64 n, .nilIface]) ∧ Below wz.heap.size wz w' := fun wz hz => by
    refine (number_any X n n wz (by omega) (hv.below hz) (ht.below hz) n0 n1 n0 n1).mono fun e w' ⟨m, x, he, hb, hc⟩ => ⟨?_, hb⟩
    rcases hc with ⟨h1, h2⟩ | ⟨_, _, h⟩
    · rw [he, h2, hXn.one h1]
    · exact absurd hXn (h n)
  have hN2 : ∀ wz, Below w.heap.size w wz → Calls Tryd.prog 17 #[fv false s (.slice none 0 0), .int .i64 lo, .int .i64 hi] wz (NumG s lo hi wz) := fun wz hz => number_any s lo hi wz hs (hv.below hz) (ht.below hz) l0 l1 l2 l3
  have hN3 : ∀ v wz, Below w.heap.size w wz → Calls Tryd.prog 17 #[fv true noText v, .int .i64 n, .int .i64 n] wz fun e w' => e = .returned (.tuple #[.int .i64 0, .iface 56 (.int .i64 5)]) ∧ Below wz.heap.size wz w' := fun v wz hz =>
    number_bad true noText v n n wz (Nat.zero_le _) (hv.below hz) fun v h => by cases h
  have hR := fun wz => rnum_any s lo hi wz l0 l1 l2 l3
  have hcode := fun x k h wz (hz : Below w.heap.size w wz) => code_num x k h wz (hg.below hz)
  have hsame : ∀ wz, Calls Tryd.prog 14 #[fv false X (.slice none 0 0), fv false X (.slice none 0 0)] wz fun e w' => e = .returned (.bool true) ∧ Below wz.heap.size wz w' := fun wz =>
    same_of (T := .mk false X []) (T' := .mk false X []) (Z := fun _ => True) (Z' := fun _ => True) rfl rfl rfl rfl (.nil none 0 (Nat.zero_le _)) (.nil none 0 (Nat.zero_le _)) true (by simp)
  have HAW := Lib.hid haw
  have HNUM := Lib.hid hnum
  have HRNUM := Lib.hid hrnum
  have HN1 := Lib.hid hN1
  have HN2 := Lib.hid hN2
  have HN3 := Lib.hid hN3
  have HR := Lib.hid hR
  have HCO := Lib.hid hcode
  have HSA := Lib.hid hsame
  have HXS := Lib.hid hXs
  clear haw hnum hrnum hN1 hN2 hN3 hR hcode hsame hX hXn hXs hg ht hv
  go_enter Tryd.func5, Tryd.ntmps5
  by_cases h100 : 100 < s.size
  · have i1 : (100 : Int) < s.size := by omega
    go_wp2_with fail
    refine HAW.out.mono ?_
    rintro e w1 ⟨rfl, hb1⟩
    have HB1 := Lib.hid (((Below.refl w.heap.size w).alloc (Nat.le_refl _) _).trans (hb1.mono (by simp)))
    clear hb1
    go_wp2_with fail
    go_ret
    exact ⟨rfl, HB1.out⟩
  · have i1 : ¬ (100 : Int) < s.size := by omega
    go_wp2_with fail
    refine HAW.out.mono ?_
    rintro e w1 ⟨rfl, hb1⟩
    have e0 : w1.cell? ⟨w.heap.size, 0, none⟩ = some (.int .i64 lo) := (hb1.cell (p := ⟨w.heap.size, 0, none⟩) (by simp)).trans (World.cell?_alloc_at _ _ _ _ rfl)
    have e1 : w1.cell? ⟨w.heap.size, 1, none⟩ = some (.int .i64 hi) := (hb1.cell (p := ⟨w.heap.size, 1, none⟩) (by simp)).trans (World.cell?_alloc_at _ _ _ _ rfl)
    have HB1 := Lib.hid (((Below.refl w.heap.size w).alloc (Nat.le_refl _) _).trans (hb1.mono (by simp)))
    clear hb1
    go_wp2_with fail
    go_quiet (fail)
    go_wp2_with fail
    have hbz : Below w.heap.size w (w1.drewN nq) := Below.drewN HB1.out
    generalize w1.drewN nq = wz at *
    have HBZ := Lib.hid hbz
    clear e0 e1 HB1 hbz
    refine (HNUM.out _ HBZ.out).mono ?_
    rintro e w2 ⟨rfl, hb2⟩
    have HB2 := Lib.hid (HBZ.out.trans (hb2.mono HBZ.out.size))
    clear hb2
    go_wp2_with fail
    have hw2 : ∀ wz, Below (w2.heap.size + 1) (w2.alloc (.cells #[.bool false, .string X, .slice none 0 0] 24)) wz → Below w.heap.size w wz := fun wz hz =>
      (HB2.out.alloc HB2.out.size _).trans (hz.mono (by have := HB2.out.size; omega))
    have HW2 := Lib.hid hw2
    clear hw2
    refine (HN1.out _ (HW2.out _ (Below.refl _ _))).mono ?_
    rintro e w3 ⟨rfl, hb3⟩
    have HX3 := Lib.hid (box_first hb3)
    clear hb3
    go_wp2_with fail
    refine (text_any _ _).mono ?_
    rintro e w4 ⟨rfl, hb4⟩
    have HX4 := Lib.hid (box_step HX3.out hb4)
    clear hb4
    go_wp2_with fail
    refine (HN2.out _ (HW2.out _ HX4.out)).mono ?_
    rintro e w5 ⟨x, gx, rfl, hb5, hx5⟩
    have HX5 := Lib.hid (box_step HX4.out hb5)
    clear hb5
    go_wp2_with fail
    refine (rtext_any _ _).mono ?_
    rintro e w6 ⟨rfl, hb6⟩
    have HX6 := Lib.hid (box_step HX5.out hb6)
    clear hb6
    go_wp2_with fail
    refine (HR.out _).mono ?_
    rintro e w7 ⟨y, gy, rfl, hb7, hx7⟩
    have HX7 := Lib.hid (box_step HX6.out hb7)
    have hxy : x = y ∧ (gx = .nilIface ∧ gy = 0 ∨ gx = .iface 56 (.int .i64 5) ∧ gy = 5) := by
      rcases hx5 with ⟨h1, h2⟩ | ⟨h1, h2, h3⟩
      · rcases hx7 with ⟨g1, g2⟩ | ⟨_, _, g3⟩
        · exact ⟨h1.one g1, .inl ⟨h2, g2⟩⟩
        · exact absurd h1 (g3 _)
      · rcases hx7 with ⟨g1, g2⟩ | ⟨g1, g2, _⟩
        · exact absurd g1 (h3 _)
        · exact ⟨by rw [h1, g1], .inr ⟨h2, g2⟩⟩
    obtain ⟨rfl, hgx⟩ := hxy
    have HGX := Lib.hid hgx
    obtain ⟨k1, k2, k3, k4⟩ := box3 HX7.out
    have hls : Calls Tryd.prog 21 #[.slice (some ⟨w7.heap.size, 0, none⟩) 1 1] (w7.alloc (.cells #[.bool false, .string X, .slice none 0 0] 24)) (ListP [.mk false X []] (w7.alloc (.cells #[.bool false, .string X, .slice none 0 0] 24))) := by
      refine list_flat (.slice (some ⟨w7.heap.size, 0, none⟩) 1 1) 1 0 [(false, X, [], .slice none 0 0)] _ ?_ rfl ?_ ?_ (by omega)
      · exact row_new (fr := (0, 0)) (Nat.zero_le _) rfl (Nat.le_refl _) (by decide) (Nat.le_refl _) (.inl rfl) (fun j u hu => by simpa [fcells] using hu)
      · intro p hp
        simp only [List.mem_cons, List.not_mem_nil, or_false] at hp
        subst hp
        exact ⟨rfl, none, 0, rfl, Nat.zero_le _⟩
      · intro p hp
        simp only [List.mem_cons, List.not_mem_nil, or_false] at hp
        subst hp
        have := HXS.out
        show X.size ≤ _
        omega
    have HLS := Lib.hid hls
    clear hb7 hx5 hx7 hgx k4 hls
    go_wp2_with fail
    refine HLS.out.mono ?_
    rintro e w8 ⟨a8, n8, c8, rfl, hn8, hb8, hs8⟩
    have hx8 : Below (w2.heap.size + 1) (w2.alloc (.cells #[.bool false, .string X, .slice none 0 0] 24)) w8 := by
      have h := HX7.out
      exact (h.alloc (by have := h.size; simp at this; omega) _).trans (hb8.mono (by have := h.size; simp at this; simp; omega))
    have HX8 := Lib.hid hx8
    clear hn8 hb8 hs8 hx8 k1 k2 k3
    go_wp2_with fail
    refine (HN3.out _ _ (HW2.out _ HX8.out)).mono ?_
    rintro e w9 ⟨rfl, hb9⟩
    have HX9 := Lib.hid (box_step HX8.out hb9)
    clear hb9
    go_wp2_with fail
    have q1 : ((gy : Int) == gy) = true := beq_self_eq_true _
    have q2 : ((x : Int) == x) = true := beq_self_eq_true _
    have hc1 := fun wz hz => HCO.out gx gy HGX.out wz (HW2.out wz hz)
    have hc2 := fun wz hz => HCO.out (.iface 56 (.int .i64 5)) 5 (.inr ⟨rfl, rfl⟩) wz (HW2.out wz hz)
    have HC1 := Lib.hid hc1
    have HC2 := Lib.hid hc2
    clear hc1 hc2 HCO HN1 HN2 HN3 HR HNUM HAW HGX
    go_region_held3 (fun W => W.cell? ⟨w2.heap.size, 0, none⟩ = some (.bool false) ∧ W.cell? ⟨w2.heap.size, 1, none⟩ = some (.string X) ∧ W.cell? ⟨w2.heap.size, 2, none⟩ = some (.slice none 0 0) ∧ Below (w2.heap.size + 1) (w2.alloc (.cells #[.bool false, .string X, .slice none 0 0] 24)) W) (first | exact law_start HX9.out | exact law_keep (And.right (And.right (And.right (by assumption)))) hbk) (first | (go_at_call 22; (with_reducible refine (HRNUM.out _).mono ?_); rintro e wk ⟨rfl, hbk⟩) | (go_at_call 14; (with_reducible refine (HSA.out _).mono ?_); rintro e wk ⟨rfl, hbk⟩) | (go_at_call 12; (with_reducible refine (HC1.out _ (And.right (And.right (And.right (by assumption))))).mono ?_); rintro e wk ⟨rfl, hbk⟩) | (go_at_call 12; (with_reducible refine (HC2.out _ (And.right (And.right (And.right (by assumption))))).mono ?_); rintro e wk ⟨rfl, hbk⟩))
    rename_i hHeld
    have HF := Lib.hid (HW2.out _ (And.right (And.right (And.right hHeld))))
    clear hHeld
    go_wp2_with fail
    go_ret
    exact ⟨rfl, HF.out⟩
end Go.Proofs.YtapplhoglmihbaaDoor
