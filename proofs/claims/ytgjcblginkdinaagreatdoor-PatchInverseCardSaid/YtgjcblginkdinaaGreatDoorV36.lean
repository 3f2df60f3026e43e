/- The contract of the document's Right. -/
import Derived.Test.YtgjcblginkdinaaGreatDoorV27
import Derived.Test.YtgjcblginkdinaaGreatDoorV33
import Derived.Test.YtgjcblginkdinaaGreatDoorV35
import Derived.Test.YtgjcblginkdinaaGreatDoorV7
set_option linter.unusedVariables false
namespace Go.Proofs.YtgjcblginkdinaaGreatDoor
open Go.ChangeShapes Go.WideShapes Go.ChangeAt Go.RowKit
open Go.Lib (itoa)

theorem textss_all {α : Type} (f : α → Tm) (g : α → Nat) : ∀ (l : List α), (∀ x ∈ l, (f x).texts ≤ g x) → Tm.textss (l.map f) ≤ (l.map g).sum
  | [], _ => by simp [Tm.textss]
  | x :: r, h => by
    have ih := textss_all f g r (fun y hy => h y (by simp [hy]))
    have := h x (by simp)
    simp only [List.map_cons, Tm.textss, List.sum_cons]
    omega
theorem txT_texts (t : ByteArray) : (txT t).texts = t.size := by simp [txT, Tm.texts, Tm.textss]
theorem liT_texts (xs : List Tm) : (liT xs).texts = Tm.textss xs := by
  unfold liT
  rw [Tm.texts]
  have : noText.size = 0 := rfl
  omega
theorem nuT_texts {n : Int} (h : wfI n) : (nuT n).texts ≤ 21 := by
  unfold nuT
  rw [txT_texts]
  have h3 := Lib.itoa_length_le n h.1 h.2
  show (itoa n).toArray.size ≤ 21
  rw [List.size_toArray]
  exact h3
theorem rfT_texts {r : Rf} (h : r.wf) : (rfT r).texts ≤ 42 := by
  have h1 := nuT_texts h.1
  have h2 := nuT_texts h.2
  unfold rfT
  rw [liT_texts]
  simp only [Tm.textss]
  omega
theorem sum_const {α : Type} (l : List α) (c : Nat) : (l.map fun _ => c).sum = c * l.length := by
  induction l with
  | nil => simp
  | cons x r ih => rw [List.map_cons, List.sum_cons, ih, List.length_cons, Nat.mul_add]; omega
theorem tsT_texts (l : Lb) (c : Nat) (h : ∀ x ∈ l, x.size ≤ c) : (tsT l).texts ≤ c * l.length := by
  unfold tsT
  rw [liT_texts]
  refine Nat.le_trans (textss_all txT (fun _ => c) l (fun x hx => by rw [txT_texts]; exact h x hx)) ?_
  rw [sum_const]; exact Nat.le_refl _
theorem opT_texts {o : Opp} (h : o.wf) (hl : ∀ x ∈ o.lines, x.size ≤ 500) : (opT o).texts ≤ 105 + 500 * o.lines.length := by
  have h1 := nuT_texts h.1
  have h2 := rfT_texts h.2.1
  have h3 := rfT_texts h.2.2
  have h4 := tsT_texts o.lines 500 hl
  unfold opT
  rw [liT_texts]
  simp only [Tm.textss]
  omega
theorem ops_texts : ∀ (l : List Opp), (∀ o ∈ l, o.wf) → (∀ o ∈ l, ∀ x ∈ o.lines, x.size ≤ 500) → Tm.textss (l.map opT) ≤ 105 * l.length + 500 * linesN l
  | [], _, _ => by simp [Tm.textss]
  | o :: r, h, k => by
    have ih := ops_texts r (fun y hy => h y (by simp [hy])) (fun y hy => k y (by simp [hy]))
    have h1 := opT_texts (h o (by simp)) (k o (by simp))
    simp only [List.map_cons, Tm.textss, linesN, List.length_cons]
    omega
theorem ptT_texts {p : Pt} (hw : p.wf) (hn : p.note.size ≤ 100) (hd : ∀ x ∈ p.deps, x.size ≤ 64) (hl : ∀ o ∈ p.ops, ∀ x ∈ o.lines, x.size ≤ 500) : (ptT p).texts ≤ 107 + 64 * p.deps.length + 105 * p.ops.length + 500 * linesN p.ops := by
  have h1 := tsT_texts p.deps 64 hd
  have h2 := ops_texts p.ops hw hl
  unfold ptT
  rw [liT_texts]
  simp only [Tm.textss, txT_texts, liT_texts]
  have : headB.size = 7 := rfl
  omega
theorem rightL_size {x : ByteArray} (h : rightL x.data.toList = true) : x.size ≤ 64 := by
  unfold rightL at h
  simp only [Bool.and_eq_true, decide_eq_true_eq] at h
  have : x.data.toList.length = x.size := Array.length_toList
  omega
theorem opR_sizes {n m : Nat} {o : Opp} (h : opR n m o = true) : ∀ x ∈ o.lines, x.size ≤ 500 := by
  unfold opR at h
  intro x hx
  split at h
  · simp only [Bool.and_eq_true, List.all_eq_true] at h
    have := h.1.2 x hx
    unfold lineB at this
    simp only [Bool.and_eq_true, decide_eq_true_eq] at this
    exact this.1.1
  · split at h
    · simp only [Bool.and_eq_true, decide_eq_true_eq] at h
      rw [List.length_eq_zero_iff.1 h.1] at hx; cases hx
    · split at h
      · simp only [Bool.and_eq_true, decide_eq_true_eq] at h
        rw [List.length_eq_zero_iff.1 h.1.1.1] at hx; cases hx
      · cases h
theorem opsR_mem {n : Nat} : ∀ (l : List Opp) (m : Nat), opsR n m l = true → ∀ o ∈ l, ∃ m', opR n m' o = true
  | [], _, _, o, h => by cases h
  | x :: r, m, h, o, ho => by
    simp only [opsR, Bool.and_eq_true] at h
    rcases List.mem_cons.1 ho with rfl | ho
    · exact ⟨m, h.1⟩
    · exact opsR_mem r _ h.2 o ho
theorem madeN_lines {n : Nat} : ∀ (l : List Opp) (m : Nat), opsR n m l = true → madeN l = linesN l
  | [], _, _ => rfl
  | o :: r, m, h => by
    simp only [opsR, Bool.and_eq_true] at h
    have e := opR_lines h.1
    have ih := madeN_lines r _ h.2
    simp only [madeN, linesN, e, ih]
theorem rightP_of {p : Pt} (h1 : p.note.size ≤ 100) (h2 : p.ops.length ≤ 400) (h3 : risB p.deps = true) (h4 : opsR p.deps.length 0 p.ops = true) (h5 : madeN p.ops ≤ 300) : rightP p = decide ((ptT p).bytes.length ≤ 65536) := by
  have hs : soundB p = true := sound_yes h1 h2 h3 ((opsB_iff _ _ 0 (by omega)).2 ⟨h4, by omega⟩)
  unfold rightP
  rw [hs, Bool.true_and]
theorem rightP_no {p : Pt} (h : ¬ (p.note.size ≤ 100 ∧ p.ops.length ≤ 400 ∧ risB p.deps = true ∧ opsR p.deps.length 0 p.ops = true ∧ madeN p.ops ≤ 300)) : rightP p = false := by
  have hs : soundB p = false := sound_no (fun k => h ⟨k.1, k.2.1, k.2.2.1, by
    have := (opsB_iff _ _ 0 (by omega)).1 k.2.2.2
    exact ⟨this.1, by omega⟩⟩)
  exact right_false (.inl hs)
theorem opsR_step {deps k : Nat} {l : List Opp} {x : Opp} (h : opsR deps 0 (l.take k) = true) (hx : l[k]? = some x) (hf : opR deps (madeN (l.take k)) x = true) : opsR deps 0 (l.take (k + 1)) = true := by
  rw [take_snoc hx, opsR_app, h]; simp [opsR, hf]
theorem opsR_no {deps k : Nat} {l : List Opp} {x : Opp} (hx : l[k]? = some x) (hf : opR deps (madeN (l.take k)) x = false) : opsR deps 0 l = false := by
  have e : l = l.take k ++ x :: l.drop (k + 1) := by
    obtain ⟨h1, h2⟩ := List.getElem?_eq_some_iff.1 hx
    subst h2
    rw [← List.drop_eq_getElem_cons h1, List.take_append_drop]
  rw [e, opsR_app, Nat.zero_add]
  simp [opsR, hf]

abbrev RtS (w : World) (t : ByteArray) (dv ov : Value) (W : World) : Prop := (W.cell? ⟨w.heap.size, 0, none⟩ = some (.string t) ∧ W.cell? ⟨w.heap.size, 1, none⟩ = some dv ∧ W.cell? ⟨w.heap.size, 2, none⟩ = some ov) ∧ Below w.heap.size w W
theorem rt_call {w W W2 : World} {t : ByteArray} {dv ov : Value} (hb : Below W.heap.size W W2) (h : RtS w t dv ov W) : RtS w t dv ov W2 := by
  obtain ⟨⟨a0, a1, a2⟩, hB⟩ := h
  have c : ∀ q j u, W.cell? ⟨q, j, none⟩ = some u → W2.cell? ⟨q, j, none⟩ = some u := fun q j u hu => (hb.cell (p := ⟨q, j, none⟩) (cell_lt hu)).trans hu
  exact ⟨⟨c _ _ _ a0, c _ _ _ a1, c _ _ _ a2⟩, hB.trans (hb.mono hB.size)⟩
theorem rt_new (w : World) (t : ByteArray) (dv ov : Value) (ty : TypeId) : RtS w t dv ov (w.alloc (.cells #[.string t, dv, ov] ty)) :=
  ⟨⟨World.cell?_alloc_at _ _ _ _ rfl, World.cell?_alloc_at _ _ _ _ rfl, World.cell?_alloc_at _ _ _ _ rfl⟩, (Below.refl _ _).alloc (Nat.le_refl _) _⟩

theorem rt_drew {w W : World} {t : ByteArray} {dv ov : Value} (h : RtS w t dv ov W) : RtS w t dv ov W.drew := ⟨h.1, h.2.drew⟩
abbrev RtX (w : World) (t : ByteArray) (dv ov : Value) (b a1 a2 : Nat) (x y : ByteArray) (W : World) : Prop := RtS w t dv ov W ∧ W.cell? ⟨b, a1, none⟩ = some (.string x) ∧ W.cell? ⟨b, a2, none⟩ = some (.string y)
theorem rtx_call {w W W2 : World} {t : ByteArray} {dv ov : Value} {b a1 a2 : Nat} {x y : ByteArray} (hb : Below W.heap.size W W2) (h : RtX w t dv ov b a1 a2 x y W) : RtX w t dv ov b a1 a2 x y W2 :=
  ⟨rt_call hb h.1, (hb.cell (p := ⟨b, a1, none⟩) (cell_lt h.2.1)).trans h.2.1, (hb.cell (p := ⟨b, a2, none⟩) (cell_lt h.2.2)).trans h.2.2⟩

set_option maxHeartbeats 4000000 in
set_option maxRecDepth 100000 in
theorem rright_any5 (p : Pt) (dv ov : Value) (w : World) (hp : PReads w p.note dv ov p) (hf : p.fine) (hln : linesN p.ops ≤ 4611686018427387904) :
    Calls Tryz.prog 32 #[ptV p.note dv ov] w fun e w' => e = .returned (.bool (rightP p)) ∧ Below w.heap.size w w' := by
  obtain ⟨hnt, hd, ho⟩ := hp
  have hpr : PReads w p.note dv ov p := ⟨hnt, hd, ho⟩
  obtain ⟨da, dc, rfl, hdn⟩ := hd.form
  obtain ⟨oa, oc, rfl, hon⟩ := ho.form
  obtain ⟨t, ht⟩ : ∃ t, t = p.note := ⟨_, rfl⟩
  obtain ⟨n, hnn⟩ : ∃ n, n = p.ops.length := ⟨_, rfl⟩
  obtain ⟨m, hmm⟩ : ∃ m, m = p.deps.length := ⟨_, rfl⟩
  have hb1 : ∀ o1, Below w.heap.size w (w.alloc o1) := fun o1 => (Below.refl _ _).alloc (Nat.le_refl _) _
  rw [← hnn, ← hmm] at hpr
  rw [← hnn] at ho hon ⊢
  rw [← hmm] at hd hdn ⊢
  rw [← ht] at hpr ⊢
  have HO := Lib.hid ho
  have HD := Lib.hid hd
  have HN := Lib.hid hnn
  have HM := Lib.hid hmm
  have HT := Lib.hid ht
  have HB1 := Lib.hid hb1
  have HF := Lib.hid hf
  have HLN := Lib.hid hln
  have HPR := Lib.hid hpr
  have hts : t.size ≤ 140737488355328 := by rw [ht]; exact hf.note
  have hgood : ¬ (t.size ≤ 100 ∧ m ≤ 64 ∧ n ≤ 400) → rightP p = false := fun h => rightP_no (fun k => h ⟨by rw [ht]; exact k.1, by rw [hmm]; exact (risB_iff.1 k.2.2.1).1, by rw [hnn]; exact k.2.1⟩)
  clear ho hnn hmm ht hb1 hd hf hln hpr hnt
  by_cases hg : t.size ≤ 100 ∧ m ≤ 64 ∧ n ≤ 400
  · obtain ⟨g1, g2, g3⟩ := hg
    have e1 : ¬ (100 : Int) < t.size := by omega
    have e2 : ¬ (64 : Int) < m := by omega
    have e3 : ¬ (400 : Int) < n := by omega
    have HST := Lib.hid (rt_new w t (.slice da m dc) (.slice oa n oc) 25)
    clear hgood
    go_enter Tryz.func32, Tryz.ntmps32
    go_wp2_with fail
    go_loopw [3] (fun i wr => ∃ k : Nat, k ≤ m ∧ i = .int .i64 (k : Nat) ∧ Hid (RtS w t (.slice da m dc) (.slice oa n oc) wr) ∧ Hid (Ris p.deps k)) (fun i _ => m - (intOf i).toNat)
    case atStart => exact ⟨0, Nat.zero_le _, rfl, HST, Lib.hid (fun j hj => absurd hj (Nat.not_lt_zero _))⟩
    case round =>
      obtain ⟨k, hk, rfl, HRT, HA⟩ := hrel
      obtain ⟨⟨c0, c1, c2⟩, hbw⟩ := HRT.out
      have HB := Lib.hid hbw
      clear hbw
      by_cases hlt : k < m
      · obtain ⟨x, hx⟩ : ∃ x, p.deps[k]? = some x := ⟨p.deps[k]'(by rw [← HM.out]; exact hlt), by simp⟩
        obtain ⟨b, o, rfl, hnl, hcl⟩ := HD.out.at hx
        clear hnl
        have hcell := (hcl.below HB.out).2 k x hx
        have hcr : ∀ wz, Calls Tryz.prog 66 #[.string x] wz fun e w' => e = .returned (.bool (rightL x.data.toList)) ∧ Below wz.heap.size wz w' := fun wz => rrightD_any x wz (HF.out.deps x (List.mem_of_getElem? hx))
        obtain ⟨r, hrr⟩ : ∃ r, r = rightL x.data.toList := ⟨_, rfl⟩
        rw [← hrr] at hcr
        have HX := Lib.hid hx
        have HCL := Lib.hid hcl
        have HRR := Lib.hid hrr
        have HCR := Lib.hid hcr
        clear hx hcl hrr hcr
        cases r with
        | false =>
          have hrs : rightP p = false := rightP_no (fun h => by have := ris_no HX.out (fun h => by rw [← HRR.out] at h; cases h.1); rw [this] at h; cases h.2.2.1)
          have HRS := Lib.hid hrs
          clear hrs
          have HSX := Lib.hid (show RtX w t (.slice (some ⟨b, o, none⟩) m dc) (.slice oa n oc) b (o + k) (o + k) x x wr.drew from ⟨rt_drew HRT.out, hcell, hcell⟩)
          go_wp2_with fail
          refine wp_region_held_drew (S := (fun W => RtX w t (.slice (some ⟨b, o, none⟩) m dc) (.slice oa n oc) b (o + k) (o + k) x x W)) (by kernel_rfl) ?_ (fun hHeld => ?_)
          · exact HSX.out
          refine tkH 0 ⟨some 31, .fieldAddr 25 (.tmp 1) 1, 0, "ref.go:95", #[], none⟩ ?_
          try simp only [Act.put, List.setIfInBounds_toArray, List.set_cons_zero, List.set_cons_succ]
          refine tkH 1 ⟨some 32, .load 22 (.tmp 31), 22, "ref.go:95", #[⟨0, .data⟩], none⟩ ?_
          try simp only [Act.put, List.setIfInBounds_toArray, List.set_cons_zero, List.set_cons_succ]
          refine tkH 2 ⟨some 33, .move (.tmp 3), 3, "ref.go:95", #[], none⟩ ?_
          try simp only [Act.put, List.setIfInBounds_toArray, List.set_cons_zero, List.set_cons_succ]
          refine tkH 3 ⟨some 34, .indexAddr 22 (.tmp 32) (.tmp 33), 0, "ref.go:95", #[⟨1, .data⟩, ⟨2, .data⟩], none⟩ ?_
          try simp only [Act.put, List.setIfInBounds_toArray, List.set_cons_zero, List.set_cons_succ]
          refine tkH 4 ⟨some 35, .load 9 (.tmp 34), 9, "ref.go:95", #[⟨3, .data⟩], none⟩ ?_
          try simp only [Act.put, List.setIfInBounds_toArray, List.set_cons_zero, List.set_cons_succ]
          refine wpAnyH_ready (rs := [5]) (by kernel_rfl) (by simp) ?_
          refine AllReadyH.cons rfl (fun K hK => ?_) AllReadyH.nil
          go_simp
          go_at_call 66; (with_reducible refine (HCR.out _).mono ?_); rintro e w2 ⟨rfl, hb2⟩; have HRT2 := Lib.hid (rt_call hb2 (rt_drew HRT.out))
          refine hK.out _ _ ?_ (fun hHeld => ?_)
          · exact rtx_call hb2 (by assumption)
          clear hK K
          try simp only [Act.put, List.setIfInBounds_toArray, List.set_cons_zero, List.set_cons_succ]
          refine tkH 6 ⟨some 37, .unOp UnOp.not 4 (.tmp 36), 4, "ref.go:95", #[⟨5, .data⟩], none⟩ ?_
          try simp only [Act.put, List.setIfInBounds_toArray, List.set_cons_zero, List.set_cons_succ]
          refine tkH 7 ⟨some 38, .move (.tmp 37), 4, "ref.go:95", #[⟨6, .data⟩, ⟨5, .chain⟩], none⟩ ?_
          try simp only [Act.put, List.setIfInBounds_toArray, List.set_cons_zero, List.set_cons_succ]
          refine tkS 8 ⟨some 39, .move (.tmp 3), 3, "ref.go:95", #[⟨7, .guard⟩], some (7, false)⟩ ?_
          try simp only [Act.put, List.setIfInBounds_toArray, List.set_cons_zero, List.set_cons_succ]
          refine tkS 9 ⟨some 40, .binOp BinOp.gtr 3 (.tmp 39) (.const (Value.int IntKind.i64 0)) 3, 4, "ref.go:95", #[⟨8, .data⟩, ⟨7, .guard⟩], some (7, false)⟩ ?_
          try simp only [Act.put, List.setIfInBounds_toArray, List.set_cons_zero, List.set_cons_succ]
          refine tkS 10 ⟨some 41, .move (.tmp 40), 4, "ref.go:95", #[⟨9, .data⟩, ⟨7, .chain⟩, ⟨7, .guard⟩], some (7, false)⟩ ?_
          try simp only [Act.put, List.setIfInBounds_toArray, List.set_cons_zero, List.set_cons_succ]
          refine tkS 11 ⟨some 42, .fieldAddr 25 (.tmp 1) 1, 0, "ref.go:95", #[⟨10, .guard⟩], some (10, true)⟩ ?_
          try simp only [Act.put, List.setIfInBounds_toArray, List.set_cons_zero, List.set_cons_succ]
          refine tkS 12 ⟨some 43, .load 22 (.tmp 42), 22, "ref.go:95", #[⟨11, .data⟩, ⟨10, .guard⟩], some (10, true)⟩ ?_
          try simp only [Act.put, List.setIfInBounds_toArray, List.set_cons_zero, List.set_cons_succ]
          refine tkS 13 ⟨some 44, .move (.tmp 3), 3, "ref.go:95", #[⟨10, .guard⟩], some (10, true)⟩ ?_
          try simp only [Act.put, List.setIfInBounds_toArray, List.set_cons_zero, List.set_cons_succ]
          refine tkS 14 ⟨some 45, .indexAddr 22 (.tmp 43) (.tmp 44), 0, "ref.go:95", #[⟨12, .data⟩, ⟨13, .data⟩, ⟨10, .guard⟩], some (10, true)⟩ ?_
          try simp only [Act.put, List.setIfInBounds_toArray, List.set_cons_zero, List.set_cons_succ]
          refine tkS 15 ⟨some 46, .load 9 (.tmp 45), 9, "ref.go:95", #[⟨14, .data⟩, ⟨10, .guard⟩], some (10, true)⟩ ?_
          try simp only [Act.put, List.setIfInBounds_toArray, List.set_cons_zero, List.set_cons_succ]
          refine tkS 16 ⟨some 47, .fieldAddr 25 (.tmp 1) 1, 0, "ref.go:95", #[⟨10, .guard⟩], some (10, true)⟩ ?_
          try simp only [Act.put, List.setIfInBounds_toArray, List.set_cons_zero, List.set_cons_succ]
          refine tkS 17 ⟨some 48, .load 22 (.tmp 47), 22, "ref.go:95", #[⟨16, .data⟩, ⟨10, .guard⟩], some (10, true)⟩ ?_
          try simp only [Act.put, List.setIfInBounds_toArray, List.set_cons_zero, List.set_cons_succ]
          refine tkS 18 ⟨some 49, .move (.tmp 3), 3, "ref.go:95", #[⟨10, .guard⟩], some (10, true)⟩ ?_
          try simp only [Act.put, List.setIfInBounds_toArray, List.set_cons_zero, List.set_cons_succ]
          refine tkS 19 ⟨some 50, .binOp BinOp.sub 3 (.tmp 49) (.const (Value.int IntKind.i64 1)) 3, 3, "ref.go:95", #[⟨18, .data⟩, ⟨10, .guard⟩], some (10, true)⟩ ?_
          try simp only [Act.put, List.setIfInBounds_toArray, List.set_cons_zero, List.set_cons_succ]
          refine tkS 20 ⟨some 51, .indexAddr 22 (.tmp 48) (.tmp 50), 0, "ref.go:95", #[⟨17, .data⟩, ⟨19, .data⟩, ⟨10, .guard⟩], some (10, true)⟩ ?_
          try simp only [Act.put, List.setIfInBounds_toArray, List.set_cons_zero, List.set_cons_succ]
          refine tkS 21 ⟨some 52, .load 9 (.tmp 51), 9, "ref.go:95", #[⟨20, .data⟩, ⟨10, .guard⟩], some (10, true)⟩ ?_
          try simp only [Act.put, List.setIfInBounds_toArray, List.set_cons_zero, List.set_cons_succ]
          refine tkS 22 ⟨some 53, .binOp BinOp.leq 9 (.tmp 46) (.tmp 52) 9, 4, "ref.go:95", #[⟨15, .data⟩, ⟨21, .data⟩, ⟨10, .guard⟩], some (10, true)⟩ ?_
          try simp only [Act.put, List.setIfInBounds_toArray, List.set_cons_zero, List.set_cons_succ]
          refine tkS 23 ⟨some 54, .pick (.tmp 41) (.tmp 53) (.const (Value.bool false)), 4, "ref.go:95", #[⟨10, .data⟩, ⟨22, .data⟩, ⟨7, .guard⟩], some (7, false)⟩ ?_
          try simp only [Act.put, List.setIfInBounds_toArray, List.set_cons_zero, List.set_cons_succ]
          refine tkH 24 ⟨some 55, .pick (.tmp 38) (.const (Value.bool true)) (.tmp 54), 4, "ref.go:95", #[⟨7, .data⟩, ⟨23, .data⟩], none⟩ ?_
          try simp only [Act.put, List.setIfInBounds_toArray, List.set_cons_zero, List.set_cons_succ]
          refine wpAnyH_done (by kernel_rfl) ?_ _
          go_wp2_with fail
          all_goals go_ret
          all_goals exact ⟨ret_bool HRS.out.symm, HRT2.out.2⟩
        | true =>
          by_cases hk0 : k = 0
          · have p1 : ¬ (0 : Int) < (k : Int) := by omega
            have HK0 := Lib.hid hk0
            clear hk0
            have HSX := Lib.hid (show RtX w t (.slice (some ⟨b, o, none⟩) m dc) (.slice oa n oc) b (o + k) (o + k) x x wr.drew from ⟨rt_drew HRT.out, hcell, hcell⟩)
            go_wp2_with fail
            refine wp_region_held_drew (S := (fun W => RtX w t (.slice (some ⟨b, o, none⟩) m dc) (.slice oa n oc) b (o + k) (o + k) x x W)) (by kernel_rfl) ?_ (fun hHeld => ?_)
            · exact HSX.out
            refine tkH 0 ⟨some 31, .fieldAddr 25 (.tmp 1) 1, 0, "ref.go:95", #[], none⟩ ?_
            try simp only [Act.put, List.setIfInBounds_toArray, List.set_cons_zero, List.set_cons_succ]
            refine tkH 1 ⟨some 32, .load 22 (.tmp 31), 22, "ref.go:95", #[⟨0, .data⟩], none⟩ ?_
            try simp only [Act.put, List.setIfInBounds_toArray, List.set_cons_zero, List.set_cons_succ]
            refine tkH 2 ⟨some 33, .move (.tmp 3), 3, "ref.go:95", #[], none⟩ ?_
            try simp only [Act.put, List.setIfInBounds_toArray, List.set_cons_zero, List.set_cons_succ]
            refine tkH 3 ⟨some 34, .indexAddr 22 (.tmp 32) (.tmp 33), 0, "ref.go:95", #[⟨1, .data⟩, ⟨2, .data⟩], none⟩ ?_
            try simp only [Act.put, List.setIfInBounds_toArray, List.set_cons_zero, List.set_cons_succ]
            refine tkH 4 ⟨some 35, .load 9 (.tmp 34), 9, "ref.go:95", #[⟨3, .data⟩], none⟩ ?_
            try simp only [Act.put, List.setIfInBounds_toArray, List.set_cons_zero, List.set_cons_succ]
            refine wpAnyH_ready (rs := [5]) (by kernel_rfl) (by simp) ?_
            refine AllReadyH.cons rfl (fun K hK => ?_) AllReadyH.nil
            go_simp
            go_at_call 66; (with_reducible refine (HCR.out _).mono ?_); rintro e w2 ⟨rfl, hb2⟩; have HRT2 := Lib.hid (rt_call hb2 (rt_drew HRT.out))
            refine hK.out _ _ ?_ (fun hHeld => ?_)
            · exact rtx_call hb2 (by assumption)
            clear hK K
            try simp only [Act.put, List.setIfInBounds_toArray, List.set_cons_zero, List.set_cons_succ]
            refine tkH 6 ⟨some 37, .unOp UnOp.not 4 (.tmp 36), 4, "ref.go:95", #[⟨5, .data⟩], none⟩ ?_
            try simp only [Act.put, List.setIfInBounds_toArray, List.set_cons_zero, List.set_cons_succ]
            refine tkH 7 ⟨some 38, .move (.tmp 37), 4, "ref.go:95", #[⟨6, .data⟩, ⟨5, .chain⟩], none⟩ ?_
            try simp only [Act.put, List.setIfInBounds_toArray, List.set_cons_zero, List.set_cons_succ]
            refine tkH 8 ⟨some 39, .move (.tmp 3), 3, "ref.go:95", #[⟨7, .guard⟩], some (7, false)⟩ ?_
            try simp only [Act.put, List.setIfInBounds_toArray, List.set_cons_zero, List.set_cons_succ]
            refine wpAnyH_take (i := 9) (oi := ⟨some 40, .binOp BinOp.gtr 3 (.tmp 39) (.const (Value.int IntKind.i64 0)) 3, 4, "ref.go:95", #[⟨8, .data⟩, ⟨7, .guard⟩], some (7, false)⟩) (v := .bool false) rfl (by kernel_rfl) (by kernel_rfl) (by kernel_rfl) (fun _ _ _ h => h) (Or.inl ⟨by kernel_rfl, ?_⟩) (by assumption) ?_
            · (intro w hSw; (try dsimp only at hSw); go_simp; first | done | with_reducible rfl | omega | assumption)
            try simp only [Act.put, List.setIfInBounds_toArray, List.set_cons_zero, List.set_cons_succ]
            refine tkH 10 ⟨some 41, .move (.tmp 40), 4, "ref.go:95", #[⟨9, .data⟩, ⟨7, .chain⟩, ⟨7, .guard⟩], some (7, false)⟩ ?_
            try simp only [Act.put, List.setIfInBounds_toArray, List.set_cons_zero, List.set_cons_succ]
            refine tkS 11 ⟨some 42, .fieldAddr 25 (.tmp 1) 1, 0, "ref.go:95", #[⟨10, .guard⟩], some (10, true)⟩ ?_
            try simp only [Act.put, List.setIfInBounds_toArray, List.set_cons_zero, List.set_cons_succ]
            refine tkS 12 ⟨some 43, .load 22 (.tmp 42), 22, "ref.go:95", #[⟨11, .data⟩, ⟨10, .guard⟩], some (10, true)⟩ ?_
            try simp only [Act.put, List.setIfInBounds_toArray, List.set_cons_zero, List.set_cons_succ]
            refine tkS 13 ⟨some 44, .move (.tmp 3), 3, "ref.go:95", #[⟨10, .guard⟩], some (10, true)⟩ ?_
            try simp only [Act.put, List.setIfInBounds_toArray, List.set_cons_zero, List.set_cons_succ]
            refine tkS 14 ⟨some 45, .indexAddr 22 (.tmp 43) (.tmp 44), 0, "ref.go:95", #[⟨12, .data⟩, ⟨13, .data⟩, ⟨10, .guard⟩], some (10, true)⟩ ?_
            try simp only [Act.put, List.setIfInBounds_toArray, List.set_cons_zero, List.set_cons_succ]
            refine tkS 15 ⟨some 46, .load 9 (.tmp 45), 9, "ref.go:95", #[⟨14, .data⟩, ⟨10, .guard⟩], some (10, true)⟩ ?_
            try simp only [Act.put, List.setIfInBounds_toArray, List.set_cons_zero, List.set_cons_succ]
            refine tkS 16 ⟨some 47, .fieldAddr 25 (.tmp 1) 1, 0, "ref.go:95", #[⟨10, .guard⟩], some (10, true)⟩ ?_
            try simp only [Act.put, List.setIfInBounds_toArray, List.set_cons_zero, List.set_cons_succ]
            refine tkS 17 ⟨some 48, .load 22 (.tmp 47), 22, "ref.go:95", #[⟨16, .data⟩, ⟨10, .guard⟩], some (10, true)⟩ ?_
            try simp only [Act.put, List.setIfInBounds_toArray, List.set_cons_zero, List.set_cons_succ]
            refine tkS 18 ⟨some 49, .move (.tmp 3), 3, "ref.go:95", #[⟨10, .guard⟩], some (10, true)⟩ ?_
            try simp only [Act.put, List.setIfInBounds_toArray, List.set_cons_zero, List.set_cons_succ]
            refine tkS 19 ⟨some 50, .binOp BinOp.sub 3 (.tmp 49) (.const (Value.int IntKind.i64 1)) 3, 3, "ref.go:95", #[⟨18, .data⟩, ⟨10, .guard⟩], some (10, true)⟩ ?_
            try simp only [Act.put, List.setIfInBounds_toArray, List.set_cons_zero, List.set_cons_succ]
            refine tkS 20 ⟨some 51, .indexAddr 22 (.tmp 48) (.tmp 50), 0, "ref.go:95", #[⟨17, .data⟩, ⟨19, .data⟩, ⟨10, .guard⟩], some (10, true)⟩ ?_
            try simp only [Act.put, List.setIfInBounds_toArray, List.set_cons_zero, List.set_cons_succ]
            refine tkS 21 ⟨some 52, .load 9 (.tmp 51), 9, "ref.go:95", #[⟨20, .data⟩, ⟨10, .guard⟩], some (10, true)⟩ ?_
            try simp only [Act.put, List.setIfInBounds_toArray, List.set_cons_zero, List.set_cons_succ]
            refine tkS 22 ⟨some 53, .binOp BinOp.leq 9 (.tmp 46) (.tmp 52) 9, 4, "ref.go:95", #[⟨15, .data⟩, ⟨21, .data⟩, ⟨10, .guard⟩], some (10, true)⟩ ?_
            try simp only [Act.put, List.setIfInBounds_toArray, List.set_cons_zero, List.set_cons_succ]
            refine tkH 23 ⟨some 54, .pick (.tmp 41) (.tmp 53) (.const (Value.bool false)), 4, "ref.go:95", #[⟨10, .data⟩, ⟨22, .data⟩, ⟨7, .guard⟩], some (7, false)⟩ ?_
            try simp only [Act.put, List.setIfInBounds_toArray, List.set_cons_zero, List.set_cons_succ]
            refine tkH 24 ⟨some 55, .pick (.tmp 38) (.const (Value.bool true)) (.tmp 54), 4, "ref.go:95", #[⟨7, .data⟩, ⟨23, .data⟩], none⟩ ?_
            try simp only [Act.put, List.setIfInBounds_toArray, List.set_cons_zero, List.set_cons_succ]
            refine wpAnyH_done (by kernel_rfl) ?_ _
            go_wp2_with fail
            exact ⟨⟨k + 1, by omega, by go_num, HRT2, Lib.hid (ris_step HA.out HX.out HRR.out.symm (fun i y e => by have := HK0.out; omega))⟩, by simp [intOf]; omega⟩
          · obtain ⟨j, hj⟩ : ∃ j, k = j + 1 := ⟨k - 1, by omega⟩
            obtain ⟨y, hy⟩ : ∃ y, p.deps[j]? = some y := ⟨p.deps[j]'(by rw [← HM.out]; omega), by simp⟩
            have hcy := (HCL.out.below HB.out).2 j y hy
            obtain ⟨q, hq⟩ : ∃ q, (Op.bytesLess x.toList y.toList || x.toList == y.toList) = q := ⟨_, rfl⟩
            have p1 : (0 : Int) < (k : Int) := by omega
            have p2 : IntKind.i64.wrap ((k : Int) - 1) = (j : Int) := by rw [show (k : Int) - 1 = (j : Int) by omega]; exact IntWalk.i64_in _ (by omega)
            have p3 : (j : Int) < m := by omega
            have hle := le_iff x y
            rw [hq] at hle
            have HLE := Lib.hid hle
            have HY := Lib.hid hy
            have HJ := Lib.hid hj
            clear hy hj hk0 hle
            cases q with
            | true =>
              have hrs : rightP p = false := rightP_no (fun h => by have := ris_no HX.out (fun h => h.2 j y HJ.out HY.out (HLE.out.1 rfl)); rw [this] at h; cases h.2.2.1)
              have HRS := Lib.hid hrs
              clear hrs
              have HSX := Lib.hid (show RtX w t (.slice (some ⟨b, o, none⟩) m dc) (.slice oa n oc) b (o + k) (o + j) x y wr.drew from ⟨rt_drew HRT.out, hcell, hcy⟩)
              go_wp2_with fail
              refine wp_region_held_drew (S := (fun W => RtX w t (.slice (some ⟨b, o, none⟩) m dc) (.slice oa n oc) b (o + k) (o + j) x y W)) (by kernel_rfl) ?_ (fun hHeld => ?_)
              · exact HSX.out
              refine tkH 0 ⟨some 31, .fieldAddr 25 (.tmp 1) 1, 0, "ref.go:95", #[], none⟩ ?_
              try simp only [Act.put, List.setIfInBounds_toArray, List.set_cons_zero, List.set_cons_succ]
              refine tkH 1 ⟨some 32, .load 22 (.tmp 31), 22, "ref.go:95", #[⟨0, .data⟩], none⟩ ?_
              try simp only [Act.put, List.setIfInBounds_toArray, List.set_cons_zero, List.set_cons_succ]
              refine tkH 2 ⟨some 33, .move (.tmp 3), 3, "ref.go:95", #[], none⟩ ?_
              try simp only [Act.put, List.setIfInBounds_toArray, List.set_cons_zero, List.set_cons_succ]
              refine tkH 3 ⟨some 34, .indexAddr 22 (.tmp 32) (.tmp 33), 0, "ref.go:95", #[⟨1, .data⟩, ⟨2, .data⟩], none⟩ ?_
              try simp only [Act.put, List.setIfInBounds_toArray, List.set_cons_zero, List.set_cons_succ]
              refine tkH 4 ⟨some 35, .load 9 (.tmp 34), 9, "ref.go:95", #[⟨3, .data⟩], none⟩ ?_
              try simp only [Act.put, List.setIfInBounds_toArray, List.set_cons_zero, List.set_cons_succ]
              refine wpAnyH_ready (rs := [5]) (by kernel_rfl) (by simp) ?_
              refine AllReadyH.cons rfl (fun K hK => ?_) AllReadyH.nil
              go_simp
              go_at_call 66; (with_reducible refine (HCR.out _).mono ?_); rintro e w2 ⟨rfl, hb2⟩; have HRT2 := Lib.hid (rt_call hb2 (rt_drew HRT.out))
              refine hK.out _ _ ?_ (fun hHeld => ?_)
              · exact rtx_call hb2 (by assumption)
              clear hK K
              try simp only [Act.put, List.setIfInBounds_toArray, List.set_cons_zero, List.set_cons_succ]
              refine tkH 6 ⟨some 37, .unOp UnOp.not 4 (.tmp 36), 4, "ref.go:95", #[⟨5, .data⟩], none⟩ ?_
              try simp only [Act.put, List.setIfInBounds_toArray, List.set_cons_zero, List.set_cons_succ]
              refine tkH 7 ⟨some 38, .move (.tmp 37), 4, "ref.go:95", #[⟨6, .data⟩, ⟨5, .chain⟩], none⟩ ?_
              try simp only [Act.put, List.setIfInBounds_toArray, List.set_cons_zero, List.set_cons_succ]
              refine tkH 8 ⟨some 39, .move (.tmp 3), 3, "ref.go:95", #[⟨7, .guard⟩], some (7, false)⟩ ?_
              try simp only [Act.put, List.setIfInBounds_toArray, List.set_cons_zero, List.set_cons_succ]
              refine wpAnyH_take (i := 9) (oi := ⟨some 40, .binOp BinOp.gtr 3 (.tmp 39) (.const (Value.int IntKind.i64 0)) 3, 4, "ref.go:95", #[⟨8, .data⟩, ⟨7, .guard⟩], some (7, false)⟩) (v := .bool true) rfl (by kernel_rfl) (by kernel_rfl) (by kernel_rfl) (fun _ _ _ h => h) (Or.inl ⟨by kernel_rfl, ?_⟩) (by assumption) ?_
              · (intro w hSw; (try dsimp only at hSw); go_simp; first | done | with_reducible rfl | omega | assumption)
              try simp only [Act.put, List.setIfInBounds_toArray, List.set_cons_zero, List.set_cons_succ]
              refine tkH 10 ⟨some 41, .move (.tmp 40), 4, "ref.go:95", #[⟨9, .data⟩, ⟨7, .chain⟩, ⟨7, .guard⟩], some (7, false)⟩ ?_
              try simp only [Act.put, List.setIfInBounds_toArray, List.set_cons_zero, List.set_cons_succ]
              refine tkH 11 ⟨some 42, .fieldAddr 25 (.tmp 1) 1, 0, "ref.go:95", #[⟨10, .guard⟩], some (10, true)⟩ ?_
              try simp only [Act.put, List.setIfInBounds_toArray, List.set_cons_zero, List.set_cons_succ]
              refine tkH 12 ⟨some 43, .load 22 (.tmp 42), 22, "ref.go:95", #[⟨11, .data⟩, ⟨10, .guard⟩], some (10, true)⟩ ?_
              try simp only [Act.put, List.setIfInBounds_toArray, List.set_cons_zero, List.set_cons_succ]
              refine tkH 13 ⟨some 44, .move (.tmp 3), 3, "ref.go:95", #[⟨10, .guard⟩], some (10, true)⟩ ?_
              try simp only [Act.put, List.setIfInBounds_toArray, List.set_cons_zero, List.set_cons_succ]
              refine tkH 14 ⟨some 45, .indexAddr 22 (.tmp 43) (.tmp 44), 0, "ref.go:95", #[⟨12, .data⟩, ⟨13, .data⟩, ⟨10, .guard⟩], some (10, true)⟩ ?_
              try simp only [Act.put, List.setIfInBounds_toArray, List.set_cons_zero, List.set_cons_succ]
              refine tkH 15 ⟨some 46, .load 9 (.tmp 45), 9, "ref.go:95", #[⟨14, .data⟩, ⟨10, .guard⟩], some (10, true)⟩ ?_
              try simp only [Act.put, List.setIfInBounds_toArray, List.set_cons_zero, List.set_cons_succ]
              refine tkH 16 ⟨some 47, .fieldAddr 25 (.tmp 1) 1, 0, "ref.go:95", #[⟨10, .guard⟩], some (10, true)⟩ ?_
              try simp only [Act.put, List.setIfInBounds_toArray, List.set_cons_zero, List.set_cons_succ]
              refine tkH 17 ⟨some 48, .load 22 (.tmp 47), 22, "ref.go:95", #[⟨16, .data⟩, ⟨10, .guard⟩], some (10, true)⟩ ?_
              try simp only [Act.put, List.setIfInBounds_toArray, List.set_cons_zero, List.set_cons_succ]
              refine tkH 18 ⟨some 49, .move (.tmp 3), 3, "ref.go:95", #[⟨10, .guard⟩], some (10, true)⟩ ?_
              try simp only [Act.put, List.setIfInBounds_toArray, List.set_cons_zero, List.set_cons_succ]
              refine tkH 19 ⟨some 50, .binOp BinOp.sub 3 (.tmp 49) (.const (Value.int IntKind.i64 1)) 3, 3, "ref.go:95", #[⟨18, .data⟩, ⟨10, .guard⟩], some (10, true)⟩ ?_
              try simp only [Act.put, List.setIfInBounds_toArray, List.set_cons_zero, List.set_cons_succ]
              refine tkH 20 ⟨some 51, .indexAddr 22 (.tmp 48) (.tmp 50), 0, "ref.go:95", #[⟨17, .data⟩, ⟨19, .data⟩, ⟨10, .guard⟩], some (10, true)⟩ ?_
              try simp only [Act.put, List.setIfInBounds_toArray, List.set_cons_zero, List.set_cons_succ]
              refine tkH 21 ⟨some 52, .load 9 (.tmp 51), 9, "ref.go:95", #[⟨20, .data⟩, ⟨10, .guard⟩], some (10, true)⟩ ?_
              try simp only [Act.put, List.setIfInBounds_toArray, List.set_cons_zero, List.set_cons_succ]
              refine wpAnyH_take (i := 22) (oi := ⟨some 53, .binOp BinOp.leq 9 (.tmp 46) (.tmp 52) 9, 4, "ref.go:95", #[⟨15, .data⟩, ⟨21, .data⟩, ⟨10, .guard⟩], some (10, true)⟩) (v := .bool true) rfl (by kernel_rfl) (by kernel_rfl) (by kernel_rfl) (fun _ _ _ h => h) (Or.inl ⟨by kernel_rfl, ?_⟩) (by assumption) ?_
              · (intro w hSw; (try dsimp only at hSw); go_simp; first | done | with_reducible rfl | omega | assumption)
              try simp only [Act.put, List.setIfInBounds_toArray, List.set_cons_zero, List.set_cons_succ]
              refine tkH 23 ⟨some 54, .pick (.tmp 41) (.tmp 53) (.const (Value.bool false)), 4, "ref.go:95", #[⟨10, .data⟩, ⟨22, .data⟩, ⟨7, .guard⟩], some (7, false)⟩ ?_
              try simp only [Act.put, List.setIfInBounds_toArray, List.set_cons_zero, List.set_cons_succ]
              refine tkH 24 ⟨some 55, .pick (.tmp 38) (.const (Value.bool true)) (.tmp 54), 4, "ref.go:95", #[⟨7, .data⟩, ⟨23, .data⟩], none⟩ ?_
              try simp only [Act.put, List.setIfInBounds_toArray, List.set_cons_zero, List.set_cons_succ]
              refine wpAnyH_done (by kernel_rfl) ?_ _
              go_wp2_with fail
              all_goals go_ret
              all_goals exact ⟨ret_bool HRS.out.symm, HRT2.out.2⟩
            | false =>
              have HSX := Lib.hid (show RtX w t (.slice (some ⟨b, o, none⟩) m dc) (.slice oa n oc) b (o + k) (o + j) x y wr.drew from ⟨rt_drew HRT.out, hcell, hcy⟩)
              go_wp2_with fail
              refine wp_region_held_drew (S := (fun W => RtX w t (.slice (some ⟨b, o, none⟩) m dc) (.slice oa n oc) b (o + k) (o + j) x y W)) (by kernel_rfl) ?_ (fun hHeld => ?_)
              · exact HSX.out
              refine tkH 0 ⟨some 31, .fieldAddr 25 (.tmp 1) 1, 0, "ref.go:95", #[], none⟩ ?_
              try simp only [Act.put, List.setIfInBounds_toArray, List.set_cons_zero, List.set_cons_succ]
              refine tkH 1 ⟨some 32, .load 22 (.tmp 31), 22, "ref.go:95", #[⟨0, .data⟩], none⟩ ?_
              try simp only [Act.put, List.setIfInBounds_toArray, List.set_cons_zero, List.set_cons_succ]
              refine tkH 2 ⟨some 33, .move (.tmp 3), 3, "ref.go:95", #[], none⟩ ?_
              try simp only [Act.put, List.setIfInBounds_toArray, List.set_cons_zero, List.set_cons_succ]
              refine tkH 3 ⟨some 34, .indexAddr 22 (.tmp 32) (.tmp 33), 0, "ref.go:95", #[⟨1, .data⟩, ⟨2, .data⟩], none⟩ ?_
              try simp only [Act.put, List.setIfInBounds_toArray, List.set_cons_zero, List.set_cons_succ]
              refine tkH 4 ⟨some 35, .load 9 (.tmp 34), 9, "ref.go:95", #[⟨3, .data⟩], none⟩ ?_
              try simp only [Act.put, List.setIfInBounds_toArray, List.set_cons_zero, List.set_cons_succ]
              refine wpAnyH_ready (rs := [5]) (by kernel_rfl) (by simp) ?_
              refine AllReadyH.cons rfl (fun K hK => ?_) AllReadyH.nil
              go_simp
              go_at_call 66; (with_reducible refine (HCR.out _).mono ?_); rintro e w2 ⟨rfl, hb2⟩; have HRT2 := Lib.hid (rt_call hb2 (rt_drew HRT.out))
              refine hK.out _ _ ?_ (fun hHeld => ?_)
              · exact rtx_call hb2 (by assumption)
              clear hK K
              try simp only [Act.put, List.setIfInBounds_toArray, List.set_cons_zero, List.set_cons_succ]
              refine tkH 6 ⟨some 37, .unOp UnOp.not 4 (.tmp 36), 4, "ref.go:95", #[⟨5, .data⟩], none⟩ ?_
              try simp only [Act.put, List.setIfInBounds_toArray, List.set_cons_zero, List.set_cons_succ]
              refine tkH 7 ⟨some 38, .move (.tmp 37), 4, "ref.go:95", #[⟨6, .data⟩, ⟨5, .chain⟩], none⟩ ?_
              try simp only [Act.put, List.setIfInBounds_toArray, List.set_cons_zero, List.set_cons_succ]
              refine tkH 8 ⟨some 39, .move (.tmp 3), 3, "ref.go:95", #[⟨7, .guard⟩], some (7, false)⟩ ?_
              try simp only [Act.put, List.setIfInBounds_toArray, List.set_cons_zero, List.set_cons_succ]
              refine wpAnyH_take (i := 9) (oi := ⟨some 40, .binOp BinOp.gtr 3 (.tmp 39) (.const (Value.int IntKind.i64 0)) 3, 4, "ref.go:95", #[⟨8, .data⟩, ⟨7, .guard⟩], some (7, false)⟩) (v := .bool true) rfl (by kernel_rfl) (by kernel_rfl) (by kernel_rfl) (fun _ _ _ h => h) (Or.inl ⟨by kernel_rfl, ?_⟩) (by assumption) ?_
              · (intro w hSw; (try dsimp only at hSw); go_simp; first | done | with_reducible rfl | omega | assumption)
              try simp only [Act.put, List.setIfInBounds_toArray, List.set_cons_zero, List.set_cons_succ]
              refine tkH 10 ⟨some 41, .move (.tmp 40), 4, "ref.go:95", #[⟨9, .data⟩, ⟨7, .chain⟩, ⟨7, .guard⟩], some (7, false)⟩ ?_
              try simp only [Act.put, List.setIfInBounds_toArray, List.set_cons_zero, List.set_cons_succ]
              refine tkH 11 ⟨some 42, .fieldAddr 25 (.tmp 1) 1, 0, "ref.go:95", #[⟨10, .guard⟩], some (10, true)⟩ ?_
              try simp only [Act.put, List.setIfInBounds_toArray, List.set_cons_zero, List.set_cons_succ]
              refine tkH 12 ⟨some 43, .load 22 (.tmp 42), 22, "ref.go:95", #[⟨11, .data⟩, ⟨10, .guard⟩], some (10, true)⟩ ?_
              try simp only [Act.put, List.setIfInBounds_toArray, List.set_cons_zero, List.set_cons_succ]
              refine tkH 13 ⟨some 44, .move (.tmp 3), 3, "ref.go:95", #[⟨10, .guard⟩], some (10, true)⟩ ?_
              try simp only [Act.put, List.setIfInBounds_toArray, List.set_cons_zero, List.set_cons_succ]
              refine tkH 14 ⟨some 45, .indexAddr 22 (.tmp 43) (.tmp 44), 0, "ref.go:95", #[⟨12, .data⟩, ⟨13, .data⟩, ⟨10, .guard⟩], some (10, true)⟩ ?_
              try simp only [Act.put, List.setIfInBounds_toArray, List.set_cons_zero, List.set_cons_succ]
              refine tkH 15 ⟨some 46, .load 9 (.tmp 45), 9, "ref.go:95", #[⟨14, .data⟩, ⟨10, .guard⟩], some (10, true)⟩ ?_
              try simp only [Act.put, List.setIfInBounds_toArray, List.set_cons_zero, List.set_cons_succ]
              refine tkH 16 ⟨some 47, .fieldAddr 25 (.tmp 1) 1, 0, "ref.go:95", #[⟨10, .guard⟩], some (10, true)⟩ ?_
              try simp only [Act.put, List.setIfInBounds_toArray, List.set_cons_zero, List.set_cons_succ]
              refine tkH 17 ⟨some 48, .load 22 (.tmp 47), 22, "ref.go:95", #[⟨16, .data⟩, ⟨10, .guard⟩], some (10, true)⟩ ?_
              try simp only [Act.put, List.setIfInBounds_toArray, List.set_cons_zero, List.set_cons_succ]
              refine tkH 18 ⟨some 49, .move (.tmp 3), 3, "ref.go:95", #[⟨10, .guard⟩], some (10, true)⟩ ?_
              try simp only [Act.put, List.setIfInBounds_toArray, List.set_cons_zero, List.set_cons_succ]
              refine tkH 19 ⟨some 50, .binOp BinOp.sub 3 (.tmp 49) (.const (Value.int IntKind.i64 1)) 3, 3, "ref.go:95", #[⟨18, .data⟩, ⟨10, .guard⟩], some (10, true)⟩ ?_
              try simp only [Act.put, List.setIfInBounds_toArray, List.set_cons_zero, List.set_cons_succ]
              refine tkH 20 ⟨some 51, .indexAddr 22 (.tmp 48) (.tmp 50), 0, "ref.go:95", #[⟨17, .data⟩, ⟨19, .data⟩, ⟨10, .guard⟩], some (10, true)⟩ ?_
              try simp only [Act.put, List.setIfInBounds_toArray, List.set_cons_zero, List.set_cons_succ]
              refine tkH 21 ⟨some 52, .load 9 (.tmp 51), 9, "ref.go:95", #[⟨20, .data⟩, ⟨10, .guard⟩], some (10, true)⟩ ?_
              try simp only [Act.put, List.setIfInBounds_toArray, List.set_cons_zero, List.set_cons_succ]
              refine wpAnyH_take (i := 22) (oi := ⟨some 53, .binOp BinOp.leq 9 (.tmp 46) (.tmp 52) 9, 4, "ref.go:95", #[⟨15, .data⟩, ⟨21, .data⟩, ⟨10, .guard⟩], some (10, true)⟩) (v := .bool false) rfl (by kernel_rfl) (by kernel_rfl) (by kernel_rfl) (fun _ _ _ h => h) (Or.inl ⟨by kernel_rfl, ?_⟩) (by assumption) ?_
              · (intro w hSw; (try dsimp only at hSw); go_simp; first | done | with_reducible rfl | omega | assumption)
              try simp only [Act.put, List.setIfInBounds_toArray, List.set_cons_zero, List.set_cons_succ]
              refine tkH 23 ⟨some 54, .pick (.tmp 41) (.tmp 53) (.const (Value.bool false)), 4, "ref.go:95", #[⟨10, .data⟩, ⟨22, .data⟩, ⟨7, .guard⟩], some (7, false)⟩ ?_
              try simp only [Act.put, List.setIfInBounds_toArray, List.set_cons_zero, List.set_cons_succ]
              refine tkH 24 ⟨some 55, .pick (.tmp 38) (.const (Value.bool true)) (.tmp 54), 4, "ref.go:95", #[⟨7, .data⟩, ⟨23, .data⟩], none⟩ ?_
              try simp only [Act.put, List.setIfInBounds_toArray, List.set_cons_zero, List.set_cons_succ]
              refine wpAnyH_done (by kernel_rfl) ?_ _
              go_wp2_with fail
              refine ⟨⟨k + 1, by omega, by go_num, HRT2, Lib.hid (ris_step HA.out HX.out HRR.out.symm (fun i z e hz hle => ?_))⟩, by simp [intOf]; omega⟩
              have e1 : i = j := by have := HJ.out; omega
              subst e1
              rw [HY.out] at hz
              injection hz with hz
              subst hz
              exact Bool.false_ne_true (HLE.out.2 hle)
      · have hke : m ≤ k := by omega
        have hrs : risB p.deps = true := risB_iff.2 ⟨by rw [← HM.out]; omega, fun j hj x hx => HA.out j (by have := HM.out; omega) x hx⟩
        have HRS := Lib.hid hrs
        clear hrs hke HA
        go_wp2_with fail
        clear c0 c1 c2
        go_loopw [4, 5] (fun ow i wr => ∃ (k N : Nat), k ≤ n ∧ i = .int .i64 (k : Nat) ∧ ow = .int .i64 (N : Nat) ∧ N ≤ 4611686018427387904 ∧ Hid (N = madeN (p.ops.take k)) ∧ Hid (RtS w t (.slice da m dc) (.slice oa n oc) wr) ∧ Hid (opsR m 0 (p.ops.take k) = true)) (fun _ i _ => n - (intOf i).toNat)
        case atStart => exact ⟨0, 0, Nat.zero_le _, rfl, rfl, by omega, Lib.hid (by simp [madeN]), HRT, Lib.hid (by simp [opsR])⟩
        case round =>
          obtain ⟨k2, N, hk2, rfl, rfl, hN, HNN, HRT, HA⟩ := hrel
          obtain ⟨⟨c0, c1, c2⟩, hbw⟩ := HRT.out
          have HB := Lib.hid hbw
          clear hbw
          by_cases hlt2 : k2 < n
          · obtain ⟨x, hx⟩ : ∃ x, p.ops[k2]? = some x := ⟨p.ops[k2]'(by rw [← HN.out]; exact hlt2), by simp⟩
            obtain ⟨b, o, rfl, hnl, hcl⟩ := HO.out.at hx
            clear hnl
            obtain ⟨lv, d0, d1, d2, d3, d4, d5, d6⟩ := (hcl.below HB.out).2 k2 x hx
            obtain ⟨la, lc, hlv, _⟩ := d6.form
            obtain ⟨L, hL⟩ : ∃ L, L = x.lines.length := ⟨_, rfl⟩
            rw [← hL] at hlv
            subst hlv
            have hcr : ∀ wz, Below wr.heap.size wr wz → Calls Tryz.prog 67 #[opV x (.slice la L lc), .int .i64 (N : Nat), .int .i64 (m : Nat)] wz fun e w' => e = .returned (.bool (opR m N x)) ∧ Below wz.heap.size wz w' := fun wz hz => by
              have := rop_any m N x (.slice la L lc) wz (d6.below hz) (HF.out.ops x (List.mem_of_getElem? hx)) hN (by omega)
              exact this
            have hms : madeN (p.ops.take (k2 + 1)) = N + (if x.kind = 1 then L else 0) := by rw [madeN_snoc hx, ← HNN.out, hL]
            have hml : madeN (p.ops.take (k2 + 1)) ≤ 4611686018427387904 := Nat.le_trans (madeN_take _ _) (Nat.le_trans (madeN_le _) HLN.out)
            rw [hms] at hml
            have hyes : opR m N x = true → opsR m 0 (p.ops.take (k2 + 1)) = true := fun h => opsR_step HA.out hx (by rw [← HNN.out]; exact h)
            have hno : opR m N x = false → rightP p = false := fun h => rightP_no (fun g => by
              have := opsR_no (deps := m) hx (by rw [← HNN.out]; exact h)
              rw [HM.out] at this; rw [this] at g; cases g.2.2.2.1)
            obtain ⟨r, hrr⟩ : ∃ r, r = opR m N x := ⟨_, rfl⟩
            rw [← hrr] at hcr hyes hno
            have HCR := Lib.hid hcr
            have HYES := Lib.hid hyes
            have HNO := Lib.hid hno
            have HMS := Lib.hid hms
            obtain ⟨K, ⟨x1, y1⟩, ⟨x2, y2⟩, ls⟩ := x
            simp only at d0 d1 d2 d3 d4 hml
            have hltb := cell_lt d0
            clear hx hcl d6 hcr hyes hno hrr hms hL
            go_wp2_with fail
            go_region_with (go_at_call 67; refine (HCR.out _ ?_).mono ?_; exact (Below.refl _ wr).drew; rintro e w2 ⟨rfl, hb2⟩; have HRT2 := Lib.hid (rt_call hb2 (rt_drew HRT.out)); have c2' := (hb2.cell (p := ⟨w.heap.size, 2, none⟩) (cell_lt c2)).trans c2; have d0' := (hb2.cell (p := ⟨b, o + k2 * 6, none⟩) hltb).trans d0; have d5' := (hb2.cell (p := ⟨b, o + k2 * 6 + 5, none⟩) hltb).trans d5; clear hb2)
            all_goals cases r
            all_goals first
              | (have HRF := Lib.hid (HNO.out rfl)
                 go_wp2_with fail
                 go_ret
                 exact ⟨ret_bool HRF.out.symm, HRT2.out.2⟩)
              | (have HY := Lib.hid (HYES.out rfl)
                 by_cases k1 : K = 1
                 · subst k1
                   have hmsum : N + L ≤ 4611686018427387904 := by simpa using hml
                   have HMS1 := Lib.hid (show N + L = madeN (p.ops.take (k2 + 1)) by rw [HMS.out]; rfl)
                   go_wp2_with fail
                   exact ⟨⟨k2 + 1, N + L, by omega, by go_num, by go_num, hmsum, HMS1, HRT2, HY⟩, by simp [intOf]; omega⟩
                 · have q1 := neI k1
                   have HMS1 := Lib.hid (show N = madeN (p.ops.take (k2 + 1)) by rw [HMS.out]; simp [k1])
                   go_wp2_with fail
                   exact ⟨⟨k2 + 1, N, by omega, by go_num, rfl, hN, HMS1, HRT2, HY⟩, by simp [intOf]; omega⟩)
          · obtain rfl : k2 = n := by omega
            have hall : opsR p.deps.length 0 p.ops = true := by
              have := HA.out
              rwa [List.take_of_length_le (by rw [← HN.out]; exact Nat.le_refl _), HM.out] at this
            have hmd : N = madeN p.ops := by rw [HNN.out, List.take_of_length_le (by rw [← HN.out]; exact Nat.le_refl _)]
            by_cases h300 : N ≤ 300
            · have e4 : ¬ (300 : Int) < N := by omega
              have hlines : linesN p.ops ≤ 300 := by rw [← madeN_lines _ _ hall, ← hmd]; exact h300
              have hr := rightP_of (p := p) (by rw [← HT.out]; exact g1) (by rw [← HN.out]; exact g3) HRS.out hall (by rw [← hmd]; exact h300)
              have htx := ptT_texts (p := p) HF.out.wf (by rw [← HT.out]; exact g1) (fun x hx => by
                obtain ⟨j, hj⟩ := List.mem_iff_getElem?.1 hx
                exact rightL_size (((risB_iff.1 HRS.out).2 j (List.getElem?_eq_some_iff.1 hj).1 x hj).1)) (fun z hz => by
                obtain ⟨m', hm'⟩ := opsR_mem _ _ hall z hz
                exact opR_sizes hm')
              have htx2 : (ptT p).texts ≤ 100000000000 := by have := HM.out; have := HN.out; omega
              have hpt2 : (ptT p).parts ≤ 1000000000 := by rw [ptT_parts]; have := HM.out; have := HN.out; omega
              have cF : ∀ wz, Below w.heap.size w wz → Calls Tryz.prog 34 #[ptV t (.slice da m dc) (.slice oa k2 oc)] wz fun e w' => ∃ v, e = .returned v ∧ IsV (fun i => wz.heap.size ≤ i) w' v (ptT p) ∧ Below wz.heap.size wz w' := fun wz hz => by
                have h := HPR.out.below hz
                rw [HT.out] at h ⊢
                exact rform_any _ p _ _ wz h HF.out (by rw [← HM.out]; exact g2) (by rw [← HN.out]; exact g3) hlines (fun i hi => hi)
              have cW : ∀ v Z wz, IsV Z wz v (ptT p) → Calls Tryz.prog 33 #[v] wz fun e w' => e = .returned (.tuple #[.string (tx (wrS (ptT p))), .int .i64 (wrN (ptT p))]) ∧ Below wz.heap.size wz w' := fun v Z wz hv => by
                obtain ⟨l', t', ys, a', n', c', rfl, rfl, hT, hts', hsl⟩ := hv
                rw [hT] at hpt2 htx2 ⊢
                exact rwrite_any l' t' ys Z wz a' c' hsl.sl hts' ⟨hpt2, htx2⟩
              have hwn : wrN (ptT p) = if rightP p then 0 else 2 := by
                unfold wrN
                rw [ptT_ok, hr, fits_iff]; rfl
              have CF := Lib.hid cF
              have CW := Lib.hid cW
              obtain ⟨R, hR⟩ : ∃ R, R = rightP p := ⟨_, rfl⟩
              obtain ⟨S, hS⟩ : ∃ S, S = tx (wrS (ptT p)) := ⟨_, rfl⟩
              rw [hwn, ← hR, ← hS] at CW
              have HRR := Lib.hid hR
              clear hall hmd hlines hr htx htx2 hpt2 cF cW hwn hS hR
              go_wp2_with fail
              refine (CF.out _ HB.out).mono ?_
              rintro e w2 ⟨v, rfl, hv, hb2⟩
              have HB2 := Lib.hid (HB.out.trans (hb2.mono HB.out.size))
              clear hb2
              go_wp2_with fail
              refine (CW.out v _ _ hv).mono ?_
              rintro e w3 ⟨rfl, hb3⟩
              have HB3 := Lib.hid (HB2.out.trans (hb3.mono HB2.out.size))
              clear hb3
              cases R
              all_goals go_wp2_with fail
              all_goals go_ret
              all_goals exact ⟨ret_bool HRR.out, HB3.out⟩
            · have e4 : (300 : Int) < N := by omega
              have hr : rightP p = false := rightP_no (fun g => h300 (by rw [hmd]; exact g.2.2.2.2))
              have HRF := Lib.hid hr
              clear hall hmd hr
              go_wp2_with fail
              go_ret
              exact ⟨ret_bool HRF.out.symm, HB.out⟩
  · have hr := hgood hg
    have HR := Lib.hid hr
    clear hgood hr
    go_enter Tryz.func32, Tryz.ntmps32
    go_wp2_with fail
    all_goals first
      | (exfalso; omega)
      | (go_ret; exact ⟨ret_bool HR.out.symm, HB1.out _⟩)
end Go.Proofs.YtgjcblginkdinaaGreatDoor
