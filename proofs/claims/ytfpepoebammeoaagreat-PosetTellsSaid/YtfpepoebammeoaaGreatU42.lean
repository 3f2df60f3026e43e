/- Awake of the laws of package poset: its mathematics, and its walk. -/
import Derived.Test.YtfpepoebammeoaaGreatU37
import Derived.Test.YtfpepoebammeoaaGreatU41
set_option linter.unusedVariables false
set_option linter.unusedSimpArgs false
namespace Go.Proofs.YtfpepoebammeoaaGreat
open Go.ChangeShapes Go.WideShapes Go.ChangeAt Go.RowKit

def E4 : EdN := [(0, 1), (0, 2), (1, 3), (2, 3)]
def W5 : EdN := [(0, 1), (0, 2), (0, 3), (1, 3), (2, 3)]
theorem aw_walk {a b : Nat} : Walk (EdR E4) a b ↔ (a, b) ∈ W5 := by
  constructor
  · intro h
    induction h with
    | one h =>
      have h : _ ∈ E4 := h
      simp [E4, W5] at h ⊢
      omega
    | more h _ ih =>
      have h : _ ∈ E4 := h
      simp [E4, W5] at h ih ⊢
      omega
  · intro h
    have one : ∀ {a b : Nat}, (a, b) ∈ E4 → Walk (EdR E4) a b := fun h => .one h
    simp [W5] at h
    rcases h with ⟨rfl, rfl⟩ | ⟨rfl, rfl⟩ | ⟨rfl, rfl⟩ | ⟨rfl, rfl⟩ | ⟨rfl, rfl⟩
    · exact one (by decide)
    · exact one (by decide)
    · exact (one (a := 0) (b := 1) (by decide)).trans (one (by decide))
    · exact one (by decide)
    · exact one (by decide)
theorem aw_ahead {a b : Nat} : AheadK (EdR E4) a b ↔ (a, b) ∈ W5 := by
  unfold AheadK
  rw [aw_walk, aw_walk]
  simp [W5]
  omega
theorem aw_knot {a b : Nat} : Knot (EdR E4) a b ↔ a = b := by
  constructor
  · rintro ⟨h1 | h1, h2 | h2⟩
    · exact h1
    · exact h1
    · exact h2.symm
    · have h3 := aw_walk.1 h1
      have h4 := aw_walk.1 h2
      simp [W5] at h3 h4
      omega
  · rintro rfl
    exact Knot.refl _
theorem ascN_unique : ∀ {l m : List Nat}, l.Pairwise (· < ·) → m.Pairwise (· < ·) → (∀ x, x ∈ l ↔ x ∈ m) → l = m
  | [], [], _, _, _ => rfl
  | [], b :: m, _, _, h => absurd ((h b).2 (List.mem_cons_self ..)) (by simp)
  | a :: l, [], _, _, h => absurd ((h a).1 (List.mem_cons_self ..)) (by simp)
  | a :: l, b :: m, hl, hm, h => by
    rw [List.pairwise_cons] at hl hm
    have hab : a = b := by
      rcases List.mem_cons.1 ((h a).1 (List.mem_cons_self ..)) with e | e
      · exact e
      · rcases List.mem_cons.1 ((h b).2 (List.mem_cons_self ..)) with e' | e'
        · exact e'.symm
        · have h1 := hm.1 a e
          have h2 := hl.1 b e'
          omega
    subst hab
    congr 1
    refine ascN_unique hl.2 hm.2 fun x => ⟨fun hx => ?_, fun hx => ?_⟩
    · rcases List.mem_cons.1 ((h x).1 (List.mem_cons_of_mem _ hx)) with e | e
      · have := hl.1 x hx; omega
      · exact e
    · rcases List.mem_cons.1 ((h x).2 (List.mem_cons_of_mem _ hx)) with e | e
      · have := hm.1 x hx; omega
      · exact e
theorem aw_asked {P : Int → Int} {A : List Nat} (hP : ∀ x y : Nat, P (x : Int) = P (y : Int) ↔ Knot (EdR E4) x y) (h : AskS 4 P [3, 2, 1, 0] A) : A = [0, 1, 2, 3] := by
  refine ascN_unique h.asc (by decide) fun x => ⟨fun hx => ?_, fun hx => ?_⟩
  · have := h.mem x hx
    simp at this ⊢
    omega
  · have hx4 : x < 4 := by simp at hx; omega
    obtain ⟨y, hy, e⟩ := h.all (x : Int) (by simp at hx ⊢; omega) (hasB_iff.2 ⟨by omega, by omega⟩)
    rw [hP, aw_knot] at e
    rw [← e]; exact hy
theorem aw_line {L : List Int} {s : Nat → Bool} (h : RunsK 4 E4 [0, 1, 2, 3] L s) : L = [0, 1, 2, 3] ∧ s 0 = true ∧ s 1 = false ∧ s 2 = false ∧ s 3 = true := by
  have hg : ∀ i : Nat, i < 4 → ([0, 1, 2, 3] : List Nat).getD i 0 = i := by decide
  have hL : L = [0, 1, 2, 3] := by
    have h1 : ReachK (needE W5) 4 L := reach_same (fun e => by
      obtain ⟨i, j⟩ := e
      rw [mem_pairA]
      show i < 4 ∧ j < 4 ∧ _ ↔ _
      constructor
      · rintro ⟨a, b, c⟩
        rw [hg i a, hg j b] at c
        exact aw_ahead.1 c
      · intro hm
        have hm2 := hm
        simp [W5] at hm2
        have a : i < 4 := by omega
        have b : j < 4 := by omega
        refine ⟨a, b, ?_⟩
        rw [hg i a, hg j b]
        exact aw_ahead.2 hm) h.line
    have r0 : ReachK (needE W5) 4 [] := .nil
    have r1 : ReachK (needE W5) 4 [0] := ReachK.step (u := 0) r0 (by decide +kernel)
    have r2 : ReachK (needE W5) 4 [0, 1] := ReachK.step (u := 1) r1 (by decide +kernel)
    have r3 : ReachK (needE W5) 4 [0, 1, 2] := ReachK.step (u := 2) r2 (by decide +kernel)
    have r4 : ReachK (needE W5) 4 [0, 1, 2, 3] := ReachK.step (u := 3) r3 (by decide +kernel)
    exact reach_end h1 r4 (reach_full h1 h.len) (reach_full r4 rfl)
  subst hL
  have hs := h.single
  have hq : ∀ q j : Nat, ([0, 1, 2, 3] : List Int)[q]? = some (j : Int) ↔ q < 4 ∧ j = q := by
    intro q j
    rcases q with _ | _ | _ | _ | q <;> simp <;> omega
  refine ⟨rfl, ?_, ?_, ?_, ?_⟩
  · refine (hs 0 0 rfl).2 fun q j h => ?_
    obtain ⟨h1, rfl⟩ := (hq q j).1 h
    rw [hg 0 (by omega), hg j h1, aw_ahead, aw_ahead]
    simp [W5]; omega
  · refine Bool.eq_false_iff.2 fun h => ?_
    have := (hs 1 1 rfl).1 h 2 2 rfl
    simp [aw_ahead, W5] at this
  · refine Bool.eq_false_iff.2 fun h => ?_
    have := (hs 2 2 rfl).1 h 1 1 rfl
    simp [aw_ahead, W5] at this
  · refine (hs 3 3 rfl).2 fun q j h => ?_
    obtain ⟨h1, rfl⟩ := (hq q j).1 h
    rw [hg 3 (by omega), hg j h1, aw_ahead, aw_ahead]
    simp [W5]; omega
theorem aw_runs {L : List Int} {s : Nat → Bool} (h : RunsK 4 E4 [0, 1, 2, 3] L s) : runL s (xOf [0, 1, 2, 3] L) 4 = [[0], [1, 2], [3]] := by
  obtain ⟨rfl, h0, h1, h2, h3⟩ := aw_line h
  have n0 : newR s 0 = true := by simp [newR]
  have n1 : newR s 1 = true := by simp [newR, h0]
  have n2 : newR s 2 = false := by simp [newR, h1, h2]
  have n3 : newR s 3 = true := by simp [newR, h3]
  simp only [runL, n0, n1, n2, n3]
  rfl
theorem aw_a03 : ahB 4 E4 0 3 = true := ahB_iff.2 ⟨by omega, by omega, by omega, by omega, aw_ahead.2 (by decide)⟩
theorem aw_c12 : cpB 4 E4 1 2 = false := by
  refine Bool.eq_false_iff.2 fun h => ?_
  have := cpB_iff.1 h
  simp [aw_knot, aw_ahead, W5] at this
theorem aw_lit (w : World) (t1 t2 t3 t4 : TypeId) : RG ((((w.alloc (.cells #[.int .i64 0] t1)).alloc (.cells #[.int .i64 1, .int .i64 2] t2)).alloc (.cells #[.int .i64 3] t3)).alloc (.cells #[.slice (some ⟨w.heap.size, 0, none⟩) 1 1, .slice (some ⟨w.heap.size + 1, 0, none⟩) 2 2, .slice (some ⟨w.heap.size + 2, 0, none⟩) 1 1] t4)) (.slice (some ⟨w.heap.size + 3, 0, none⟩) 3 3) [[0], [1, 2], [3]] := by
  obtain ⟨w1, h1⟩ : ∃ w1, w1 = w.alloc (.cells #[.int .i64 0] t1) := ⟨_, rfl⟩
  have e1 : w1.heap.size = w.heap.size + 1 := by rw [h1]; simp
  obtain ⟨w2, h2⟩ : ∃ w2, w2 = w1.alloc (.cells #[.int .i64 1, .int .i64 2] t2) := ⟨_, rfl⟩
  have e2 : w2.heap.size = w.heap.size + 2 := by rw [h2]; simp [e1]
  obtain ⟨w3, h3⟩ : ∃ w3, w3 = w2.alloc (.cells #[.int .i64 3] t3) := ⟨_, rfl⟩
  have e3 : w3.heap.size = w.heap.size + 3 := by rw [h3]; simp [e2]
  rw [← h1, ← h2, ← h3]
  have r1 : RI w1 (.slice (some ⟨w.heap.size, 0, none⟩) 1 1) [0] := by rw [h1]; exact ri_lit [0] 1 rfl (by simp) (by decide)
  have r2 : RI w2 (.slice (some ⟨w1.heap.size, 0, none⟩) 2 2) [1, 2] := by rw [h2]; exact ri_lit [1, 2] 2 rfl (by simp) (by decide)
  have r3 : RI w3 (.slice (some ⟨w2.heap.size, 0, none⟩) 1 1) [3] := by rw [h3]; exact ri_lit [3] 1 rfl (by simp) (by decide)
  have b2 : Below w1.heap.size w1 w2 := by rw [h2]; exact (Below.refl _ _).alloc (Nat.le_refl _) _
  have b3 : Below w2.heap.size w2 w3 := by rw [h3]; exact (Below.refl _ _).alloc (Nat.le_refl _) _
  rw [e1] at r2
  rw [e2] at r3
  obtain ⟨w4, h4⟩ : ∃ w4, w4 = w3.alloc (.cells #[.slice (some ⟨w.heap.size, 0, none⟩) 1 1, .slice (some ⟨w.heap.size + 1, 0, none⟩) 2 2, .slice (some ⟨w.heap.size + 2, 0, none⟩) 1 1] t4) := ⟨_, rfl⟩
  have b4 : Below w3.heap.size w3 w4 := by rw [h4]; exact (Below.refl _ _).alloc (Nat.le_refl _) _
  rw [← h4]
  have e4 : w4.heap.size = w.heap.size + 4 := by rw [h4]; simp [e3]
  refine .inr ⟨by simp, w.heap.size + 3, 0, 3, rfl, by decide, by decide, by omega, fun j g hg => ?_⟩
  rcases j with _ | _ | _ | j
  · injection hg with hg
    subst hg
    exact ⟨_, by rw [h4]; exact World.cell?_alloc_at _ _ _ _ (by simp [e3]), ((r1.below b2).below b3).below b4⟩
  · injection hg with hg
    subst hg
    exact ⟨_, by rw [h4]; exact World.cell?_alloc_at _ _ _ _ (by simp [e3]), (r2.below b3).below b4⟩
  · injection hg with hg
    subst hg
    exact ⟨_, by rw [h4]; exact World.cell?_alloc_at _ _ _ _ (by simp [e3]), r3.below b4⟩
  · simp at hg
set_option maxHeartbeats 4000000 in
set_option maxRecDepth 100000 in
theorem paw_any (w : World) : Calls Tryz.prog 7 #[] w fun e w' => e = .returned (.bool true) ∧ Below w.heap.size w w' := by
  obtain ⟨w1, hw1⟩ : ∃ w1, w1 = w.alloc (.cells #[.int .i64 0, .int .i64 1, .int .i64 0, .int .i64 2, .int .i64 1, .int .i64 3, .int .i64 2, .int .i64 3] 36) := ⟨_, rfl⟩
  have hb1 : Below w.heap.size w w1 := by rw [hw1]; exact (Below.refl _ _).alloc (Nat.le_refl _) _
  have S1 := newX_any 4 [((0 : Int), (1 : Int)), (0, 2), (1, 3), (2, 3)] (.slice (some ⟨w.heap.size, 0, none⟩) 4 4) w1 (by rw [hw1]; exact re_lit [((0 : Int), (1 : Int)), (0, 2), (1, 3), (2, 3)] 4 rfl (by simp) (by decide)) (by simp) (by omega) (by omega)
  have e1 : edN 4 [((0 : Int), (1 : Int)), (0, 2), (1, 3), (2, 3)] = E4 := by decide +kernel
  rw [e1] at S1
  have HS1 := Lib.hid S1
  have HB1 := Lib.hid hb1
  have HW1 := Lib.hid hw1
  clear S1 hb1 hw1 e1
  go_enter Tryz.func7, Tryz.ntmps7
  go_wp2_with fail
  rw [← HW1.out]
  refine HS1.out.mono ?_
  rintro e w2 ⟨p, T, pl, W, rfl, hO, hb2⟩
  have HB2 := Lib.hid (HB1.out.trans (hb2.mono HB1.out.size))
  obtain ⟨w3, hw3⟩ : ∃ w3, w3 = w2.alloc (.cells #[.int .i64 3, .int .i64 2, .int .i64 1, .int .i64 0] 3) := ⟨_, rfl⟩
  have hb3 : Below w2.heap.size w2 w3 := by rw [hw3]; exact (Below.refl _ _).alloc (Nat.le_refl _) _
  have hO3 := hO.below hb3
  have R1 := runsO_any [3, 2, 1, 0] (.slice (some ⟨w2.heap.size, 0, none⟩) 4 4) w3 hO3 (by rw [hw3]; exact ri_lit [3, 2, 1, 0] 4 rfl (by simp) (by decide)) (by simp)
  have hA := aw_asked (fun x y => plI_same hO.ok) (askN_is 4 (plI T pl) [3, 2, 1, 0])
  rw [hA] at R1
  have HR1 := Lib.hid R1
  have HO3 := Lib.hid hO3
  have HB3 := Lib.hid (HB2.out.trans (hb3.mono HB2.out.size))
  have HW3 := Lib.hid hw3
  clear hO hb2 hb3 hw3 hO3 R1 hA
  go_wp2_with fail
  rw [← HW3.out]
  refine HR1.out.mono ?_
  rintro e w4 ⟨ov, L, s, rfl, hK, hG, hb4⟩
  have hG2 : RG w4 ov [[0], [1, 2], [3]] := by
    have h := hG
    rw [show ([0, 1, 2, 3] : List Nat).length = 4 from rfl, aw_runs hK] at h
    exact h
  have HO4 := Lib.hid (HO3.out.below hb4)
  have HB4 := Lib.hid (HB3.out.trans (hb4.mono HB3.out.size))
  have HG := Lib.hid hG2
  obtain ⟨w8, hw8⟩ : ∃ w8, w8 = ((((w4.alloc (.cells #[.int .i64 0] 3)).alloc (.cells #[.int .i64 1, .int .i64 2] 3)).alloc (.cells #[.int .i64 3] 3)).alloc (.cells #[.slice (some ⟨w4.heap.size, 0, none⟩) 1 1, .slice (some ⟨w4.heap.size + 1, 0, none⟩) 2 2, .slice (some ⟨w4.heap.size + 1 + 1, 0, none⟩) 1 1] 23)) := ⟨_, rfl⟩
  have hb8 : Below w4.heap.size w4 w8 := by
    rw [hw8]
    exact ((((Below.refl _ _).alloc (Nat.le_refl _) _).alloc (by simp) _).alloc (by simp; omega) _).alloc (by simp; omega) _
  have HG8 : Hid (RG w8 (.slice (some ⟨w4.heap.size + 1 + 1 + 1, 0, none⟩) 3 3) [[0], [1, 2], [3]]) := Lib.hid (by rw [hw8]; exact aw_lit w4 _ _ _ _)
  have HO8 := Lib.hid (HO4.out.below hb8)
  have HB8 := Lib.hid (HB4.out.trans (hb8.mono HB4.out.size))
  have hsh : ∀ g ∈ ([[0], [1, 2], [3]] : List (List Int)), g.length ≤ 1000000 := by decide
  have HSM := Lib.hid (sameG_any [[0], [1, 2], [3]] [[0], [1, 2], [3]] ov _ w8 (hG2.below hb8) HG8.out (by decide) (by decide) hsh hsh)
  have HW8 := Lib.hid hw8
  clear hK hG hb4 hG2 hw8 hb8 hsh
  go_wp2_with fail
  rw [← HW8.out]
  refine HSM.out.mono ?_
  rintro e w9 ⟨rfl, hb9⟩
  have HO9 := HO8.out.below hb9
  have HAH := Lib.hid (ahead_any 0 3 w9 HO9)
  have HOH := Lib.hid HO9
  have HB9 := Lib.hid (HB8.out.trans (hb9.mono HB8.out.size))
  clear HO9 hb9
  rw [decide_true]
  go_wp2_with fail
  refine HAH.out.mono ?_
  rintro e w10 ⟨rfl, hb10⟩
  rw [aw_a03]
  have HCP := Lib.hid (comp_any 1 2 w10 (HOH.out.below hb10))
  have HB10 := Lib.hid (HB9.out.trans (hb10.mono HB9.out.size))
  clear hb10
  go_wp2_with fail
  refine HCP.out.mono ?_
  rintro e w11 ⟨rfl, hb11⟩
  rw [aw_c12]
  go_wp2_with fail
  go_ret
  exact ⟨rfl, HB10.out.trans (hb11.mono HB10.out.size)⟩
end Go.Proofs.YtfpepoebammeoaaGreat
