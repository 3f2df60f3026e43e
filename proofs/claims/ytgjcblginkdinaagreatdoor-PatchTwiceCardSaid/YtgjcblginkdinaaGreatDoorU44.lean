/- The contract of Read. The contract of Read. -/
import Derived.Test.YtgjcblginkdinaaGreatDoorU43
set_option linter.unusedVariables false
set_option linter.unusedSimpArgs false
namespace Go.Proofs.YtgjcblginkdinaaGreatDoor
open Go.ChangeShapes Go.WideShapes Go.ChangeAt Go.RowKit
open Go.Lib (itoa)

def IsFault (w : World) (v : Value) : Prop := ∃ B, v = .iface 41 (.pointer (some ⟨B, 0, none⟩)) ∧ w.cell? ⟨B, 0, none⟩ = some (.string ⟨#[112, 97, 116, 99, 104]⟩) ∧ w.cell? ⟨B, 1, none⟩ = some (errV 10)
theorem IsFault.below {w w' : World} {v : Value} (h : IsFault w v) (hb : Below w.heap.size w w') : IsFault w' v := by
  obtain ⟨B, h1, h2, h3⟩ := h
  exact ⟨B, h1, (hb.cell (p := ⟨B, 0, none⟩) (cell_lt h2)).trans h2, (hb.cell (p := ⟨B, 1, none⟩) (cell_lt h2)).trans h3⟩
theorem IsFault.off {Y : Nat → Prop} {w w' : World} {v : Value} {H : Nat} (h : IsFault w v) (ho : Off (fun i => i = H) w w') (hn : ∀ B, v = .iface 41 (.pointer (some ⟨B, 0, none⟩)) → B ≠ H) : IsFault w' v := by
  obtain ⟨B, h1, h2, h3⟩ := h
  have hB := hn B h1
  exact ⟨B, h1, (ho.cell (p := ⟨B, 0, none⟩) (cell_lt h2) hB).trans h2, (ho.cell (p := ⟨B, 1, none⟩) (cell_lt h2) hB).trans h3⟩

set_option maxHeartbeats 1000000 in
theorem fault_any (w : World) : Calls Tryz.prog 39 #[] w fun e w' => ∃ B, e = .returned (.iface 41 (.pointer (some ⟨B, 0, none⟩))) ∧ w'.cell? ⟨B, 0, none⟩ = some (.string ⟨#[112, 97, 116, 99, 104]⟩) ∧ w'.cell? ⟨B, 1, none⟩ = some (errV 10) ∧ w.heap.size ≤ B ∧ Below w.heap.size w w' := by
  go_enter Tryz.func39, Tryz.ntmps39
  go_wp2
  go_ret
  exact ⟨w.heap.size, rfl, (World.cell?_alloc_at _ _ _ _ rfl).trans rfl, (World.cell?_alloc_at _ _ _ _ rfl).trans rfl, Nat.le_refl _, (Below.refl _ _).alloc (Nat.le_refl _) _⟩

theorem any_map {α : Type} {f : α → Bool} {l : List α} (h : l.any f = false) : ∀ x ∈ l, f x = false := by
  intro x hx
  cases e : f x with
  | false => rfl
  | true => rw [List.any_eq_true.2 ⟨x, hx, e⟩] at h; cases h
theorem num_back {T : Tm} (hok : T.ok = true) (h : (rdNum T).2 = false) : wfI (rdNum T).1 ∧ nuT (rdNum T).1 = T := by
  obtain ⟨l, t, xs⟩ := T
  by_cases hx : (Tm.mk l t xs).l = false ∧ ∃ n, isNum (Tm.mk l t xs).t (-9223372036854775808) 9223372036854775807 n
  · obtain ⟨hl, n, hn⟩ := hx
    rw [rdNum_yes hl hn]
    simp only [Tm.l, Tm.t] at hl hn
    subst hl
    rw [Tm.ok_text] at hok
    have : xs = [] := List.length_eq_zero_iff.1 (of_decide_eq_true hok)
    subst this
    exact ⟨⟨hn.1, hn.2.1⟩, by unfold nuT txT; rw [← hn.2.2.1]⟩
  · rw [rdNum_no hx] at h; cases h
theorem parts_back {T : Tm} {k : Nat} (hok : T.ok = true) (h : (rdParts T k).2 = false) : T = liT (rdParts T k).1 := by
  unfold rdParts at h ⊢
  by_cases hk : T.xs.length = k
  · rw [if_pos hk] at h ⊢
    obtain ⟨l, t, xs⟩ := T
    simp only [Tm.l, Tm.xs] at h ⊢
    cases l with
    | false => cases h
    | true =>
      rw [Tm.ok_list] at hok
      simp only [Bool.and_eq_true, decide_eq_true_eq] at hok
      rw [size0 hok.1]; rfl
  · rw [if_neg hk] at h; cases h
theorem list2 {l : List Tm} (h : l.length = 2) : l = [nth l 0, nth l 1] := by
  match l, h with
  | [a, b], _ => rfl
theorem list4 {l : List Tm} (h : l.length = 4) : l = [nth l 0, nth l 1, nth l 2, nth l 3] := by
  match l, h with
  | [a, b, c, d], _ => rfl
theorem ref_back {T : Tm} (hok : T.ok = true) (h : (rdRef T).2 = false) : (rdRef T).1.wf ∧ rfT (rdRef T).1 = T := by
  have hl := parts_len T 2
  have ho := parts_ok hok 2
  have h' : ((rdParts T 2).2 || (rdNum (nth (rdParts T 2).1 0)).2 || (rdNum (nth (rdParts T 2).1 1)).2) = false := h
  simp only [Bool.or_eq_false_iff] at h'
  have h0 := num_back (ho _ (nth_mem (by rw [hl]; omega))) h'.1.2
  have h1 := num_back (ho _ (nth_mem (by rw [hl]; omega))) h'.2
  refine ⟨⟨h0.1, h1.1⟩, ?_⟩
  have hb := parts_back hok h'.1.1
  rw [list2 hl] at hb
  show liT [nuT (rdNum (nth (rdParts T 2).1 0)).1, nuT (rdNum (nth (rdParts T 2).1 1)).1] = T
  rw [h0.2, h1.2]; exact hb.symm
theorem texts_back {T : Tm} (hok : T.ok = true) (h : (rdTexts T).2 = false) : tsT (rdTexts T).1 = T := by
  have h' : (!T.l || T.xs.any Tm.l) = false := h
  have hx := ok_xs hok
  obtain ⟨l, t, xs⟩ := T
  simp only [Tm.l, Tm.xs, Bool.or_eq_false_iff, Bool.not_eq_false'] at h' hx
  obtain ⟨rfl, h2⟩ := h'
  rw [Tm.ok_list] at hok
  simp only [Bool.and_eq_true, decide_eq_true_eq] at hok
  have ha := any_map h2
  show liT ((xs.map Tm.t).map txT) = _
  rw [size0 hok.1]
  unfold liT
  congr 1
  rw [List.map_map]
  refine (List.map_congr_left fun x hx' => ?_).trans (List.map_id _)
  have h3 := ha x hx'
  have h4 := hx x hx'
  obtain ⟨l, t, ys⟩ := x
  simp only [Tm.l] at h3
  subst h3
  rw [Tm.ok_text] at h4
  have : ys = [] := List.length_eq_zero_iff.1 (of_decide_eq_true h4)
  subst this
  rfl
theorem op_back {T : Tm} (hok : T.ok = true) (h : (rdOp T).2 = false) : (rdOp T).1.wf ∧ opT (rdOp T).1 = T := by
  have hl := parts_len T 4
  have ho := parts_ok hok 4
  have h' : ((rdParts T 4).2 || (rdNum (nth (rdParts T 4).1 0)).2 || (rdRef (nth (rdParts T 4).1 1)).2 || (rdRef (nth (rdParts T 4).1 2)).2 || (rdTexts (nth (rdParts T 4).1 3)).2) = false := h
  simp only [Bool.or_eq_false_iff] at h'
  obtain ⟨⟨⟨⟨g0, g1⟩, g2⟩, g3⟩, g4⟩ := h'
  have h0 := num_back (ho _ (nth_mem (by rw [hl]; omega))) g1
  have h1 := ref_back (ho _ (nth_mem (by rw [hl]; omega))) g2
  have h2 := ref_back (ho _ (nth_mem (by rw [hl]; omega))) g3
  have h3 := texts_back (ho _ (nth_mem (by rw [hl]; omega))) g4
  refine ⟨⟨h0.1, h1.1, h2.1⟩, ?_⟩
  have hb := parts_back hok g0
  rw [list4 hl] at hb
  show liT [nuT (rdNum (nth (rdParts T 4).1 0)).1, rfT (rdRef (nth (rdParts T 4).1 1)).1, rfT (rdRef (nth (rdParts T 4).1 2)).1, tsT (rdTexts (nth (rdParts T 4).1 3)).1] = T
  rw [h0.2, h1.2, h2.2, h3]; exact hb.symm
theorem ops_back {T : Tm} (hok : T.ok = true) (h : (rdOps T).2 = false) : (∀ o ∈ (rdOps T).1, o.wf) ∧ liT ((rdOps T).1.map opT) = T := by
  have h' : (!T.l || T.xs.any fun x => (rdOp x).2) = false := h
  have hx := ok_xs hok
  have e : (rdOps T).1 = T.xs.map fun x => (rdOp x).1 := rfl
  rw [e]
  obtain ⟨l, t, xs⟩ := T
  simp only [Tm.l, Tm.xs, Bool.or_eq_false_iff, Bool.not_eq_false'] at h' hx ⊢
  obtain ⟨rfl, h2⟩ := h'
  rw [Tm.ok_list] at hok
  simp only [Bool.and_eq_true, decide_eq_true_eq] at hok
  have ha := any_map h2
  refine ⟨fun o ho => ?_, ?_⟩
  · obtain ⟨x, hx', rfl⟩ := List.mem_map.1 ho
    exact (op_back (hx x hx') (ha x hx')).1
  · rw [size0 hok.1]
    unfold liT
    congr 1
    rw [List.map_map]
    exact (List.map_congr_left fun x hx' => (op_back (hx x hx') (ha x hx')).2).trans (List.map_id _)
theorem text_back {x : Tm} (hok : x.ok = true) (hl : x.l = false) : txT x.t = x := by
  obtain ⟨l, t, ys⟩ := x
  simp only [Tm.l] at hl
  subst hl
  rw [Tm.ok_text] at hok
  have : ys = [] := List.length_eq_zero_iff.1 (of_decide_eq_true hok)
  subst this
  rfl
theorem pt_back {T : Tm} (hok : T.ok = true) (h : (rdPt T).2 = false) : (rdPt T).1.wf ∧ ptT (rdPt T).1 = T := by
  have hl := parts_len T 4
  have ho := parts_ok hok 4
  have h' : ((rdParts T 4).2 || (nth (rdParts T 4).1 0).l || !decide ((nth (rdParts T 4).1 0).t = headB) || (nth (rdParts T 4).1 1).l || (rdTexts (nth (rdParts T 4).1 2)).2 || (rdOps (nth (rdParts T 4).1 3)).2) = false := h
  simp only [Bool.or_eq_false_iff, Bool.not_eq_false', decide_eq_true_eq] at h'
  obtain ⟨⟨⟨⟨⟨g0, g1⟩, g2⟩, g3⟩, g4⟩, g5⟩ := h'
  have htx : ∀ j, j < 4 → (nth (rdParts T 4).1 j).l = false → txT (nth (rdParts T 4).1 j).t = nth (rdParts T 4).1 j := fun j hj hlj => text_back (ho _ (nth_mem (j := j) (by rw [hl]; exact hj))) hlj
  have h2 := texts_back (ho _ (nth_mem (by rw [hl]; omega))) g4
  have h3 := ops_back (ho _ (nth_mem (by rw [hl]; omega))) g5
  refine ⟨h3.1, ?_⟩
  have hb := parts_back hok g0
  rw [list4 hl] at hb
  show liT [txT headB, txT (nth (rdParts T 4).1 1).t, tsT (rdPt T).1.deps, liT ((rdPt T).1.ops.map opT)] = T
  have e0 := htx 0 (by omega) g1
  rw [g2] at e0
  rw [e0, htx 1 (by omega) g3]
  have e3 : liT (List.map opT (rdPt T).1.ops) = nth (rdParts T 4).1 3 := h3.2
  have e2 : tsT (rdPt T).1.deps = nth (rdParts T 4).1 2 := h2
  rw [e3, e2]; exact hb.symm
theorem num_forth {n : Int} (h : wfI n) : rdNum (nuT n) = (n, false) := rdNum_yes (T := nuT n) rfl ⟨h.1, h.2, rfl, h.1, h.2⟩
theorem ref_forth {r : Rf} (h : r.wf) : rdRef (rfT r) = (r, false) := by
  obtain ⟨x, y⟩ := r
  have e : rdParts (rfT ⟨x, y⟩) 2 = ([nuT x, nuT y], false) := rfl
  unfold rdRef
  rw [e]
  have h0 : nth [nuT x, nuT y] 0 = nuT x := rfl
  have h1 : nth [nuT x, nuT y] 1 = nuT y := rfl
  simp only [h0, h1]
  rw [num_forth h.1, num_forth h.2]; rfl
theorem texts_forth (l : Lb) : rdTexts (tsT l) = (l, false) := by
  unfold rdTexts tsT liT
  simp only [Tm.xs, Tm.l, List.map_map, Bool.not_true, Bool.false_or, List.any_map]
  refine Prod.ext ?_ ?_
  · exact (List.map_congr_left fun x _ => rfl).trans (List.map_id _)
  · show l.any _ = false
    rw [List.any_eq_false]
    intro x _; exact Bool.false_ne_true
theorem op_forth {o : Opp} (h : o.wf) : rdOp (opT o) = (o, false) := by
  obtain ⟨K, a, b, ls⟩ := o
  have e : rdParts (opT ⟨K, a, b, ls⟩) 4 = ([nuT K, rfT a, rfT b, tsT ls], false) := rfl
  unfold rdOp
  rw [e]
  have h0 : nth [nuT K, rfT a, rfT b, tsT ls] 0 = nuT K := rfl
  have h1 : nth [nuT K, rfT a, rfT b, tsT ls] 1 = rfT a := rfl
  have h2 : nth [nuT K, rfT a, rfT b, tsT ls] 2 = rfT b := rfl
  have h3 : nth [nuT K, rfT a, rfT b, tsT ls] 3 = tsT ls := rfl
  simp only [h0, h1, h2, h3]
  rw [num_forth h.1, ref_forth h.2.1, ref_forth h.2.2, texts_forth]; rfl
theorem ops_forth {l : List Opp} (h : ∀ o ∈ l, o.wf) : rdOps (liT (l.map opT)) = (l, false) := by
  unfold rdOps liT
  simp only [Tm.xs, Tm.l, List.map_map, Bool.not_true, Bool.false_or, List.any_map]
  refine Prod.ext ?_ ?_
  · refine (List.map_congr_left (g := id) fun x hx => ?_).trans (List.map_id _)
    show (rdOp (opT x)).1 = x
    rw [op_forth (h x hx)]
  · show l.any _ = false
    rw [List.any_eq_false]
    intro x hx
    show ¬ (rdOp (opT x)).2 = true
    rw [op_forth (h x hx)]; exact Bool.false_ne_true
theorem pt_forth {p : Pt} (h : p.wf) : rdPt (ptT p) = (p, false) := by
  obtain ⟨t, ds, os⟩ := p
  have e : rdParts (ptT ⟨t, ds, os⟩) 4 = ([txT headB, txT t, tsT ds, liT (os.map opT)], false) := rfl
  unfold rdPt
  rw [e]
  have h0 : nth [txT headB, txT t, tsT ds, liT (os.map opT)] 0 = txT headB := rfl
  have h1 : nth [txT headB, txT t, tsT ds, liT (os.map opT)] 1 = txT t := rfl
  have h2 : nth [txT headB, txT t, tsT ds, liT (os.map opT)] 2 = tsT ds := rfl
  have h3 : nth [txT headB, txT t, tsT ds, liT (os.map opT)] 3 = liT (os.map opT) := rfl
  simp only [h0, h1, h2, h3]
  rw [texts_forth, ops_forth h]
  simp [txT, Tm.l, Tm.t]
end Go.Proofs.YtgjcblginkdinaaGreatDoor
set_option linter.unusedVariables false
set_option linter.unusedSimpArgs false
namespace Go.Proofs.YtgjcblginkdinaaGreatDoor
open Go.ChangeShapes Go.WideShapes Go.ChangeAt Go.RowKit
open Go.Lib (itoa decDigits)

theorem dec_pos (n : Nat) : 1 ≤ (decDigits n).length := by
  have := decDigits_ne n
  cases h : decDigits n with
  | nil => exact absurd h this
  | cons c r => simp
theorem bytes_bound (T : Tm) : T.ok = true → T.parts + T.texts ≤ T.bytes.length := by
  induction T using Tm.ind with
  | h l t xs ih =>
    intro hok
    cases l with
    | true =>
      rw [Tm.ok_list] at hok
      simp only [Bool.and_eq_true, decide_eq_true_eq] at hok
      rw [Tm.bytes_list, Tm.parts, Tm.texts]
      have hx : Tm.partss xs + Tm.textss xs ≤ (Tm.bytess xs).length := by
        have h2 := Tm.oks_iff.1 hok.2
        clear hok
        induction xs with
        | nil => simp [Tm.partss, Tm.textss, Tm.bytess]
        | cons x r ih2 =>
          have h1 := ih x (by simp) (h2 x (by simp))
          have h3 := ih2 (fun y hy => ih y (by simp [hy])) (fun y hy => h2 y (by simp [hy]))
          simp only [Tm.partss, Tm.textss, Tm.bytess, List.length_append]; omega
      simp only [List.length_cons, List.length_append, List.length_nil]; omega
    | false =>
      rw [Tm.ok_text] at hok
      have : xs = [] := List.length_eq_zero_iff.1 (of_decide_eq_true hok)
      subst this
      have h1 := dec_pos t.size
      have h2 := ba_len t
      rw [Tm.bytes_text, Tm.parts, Tm.texts, Tm.partss, Tm.textss]
      simp only [List.length_append, List.length_cons]; omega
theorem t_texts (T : Tm) : T.t.size ≤ T.texts := by obtain ⟨l, t, xs⟩ := T; rw [Tm.texts]; simp only [Tm.t]; omega
theorem xs_texts (T : Tm) : ∀ x ∈ T.xs, x.texts ≤ T.texts := by
  intro x hx
  obtain ⟨l, t, xs⟩ := T
  have := Tm.texts_mem hx
  rw [Tm.texts]; simp only [Tm.xs] at this; omega
theorem parts_texts (T : Tm) (k : Nat) : ∀ x ∈ (rdParts T k).1, x.texts ≤ T.texts := by
  unfold rdParts
  by_cases hk : T.xs.length = k
  · rw [if_pos hk]; exact xs_texts T
  · rw [if_neg hk]
    intro x hx
    rw [List.mem_replicate] at hx
    rw [hx.2]
    have : zT.texts = 0 := by unfold zT; rw [Tm.texts, Tm.textss]; rfl
    omega
theorem nth_texts (T : Tm) (j : Nat) (hj : j < 4) : (nth (rdParts T 4).1 j).texts ≤ T.texts := parts_texts T 4 _ (nth_mem (by rw [parts_len]; exact hj))
theorem rdTexts_size (T : Tm) : ∀ s ∈ (rdTexts T).1, s.size ≤ T.texts := by
  intro s hs
  obtain ⟨x, hx, rfl⟩ := List.mem_map.1 hs
  exact Nat.le_trans (t_texts x) (xs_texts T x hx)
theorem rdNum_wf (T : Tm) : wfI (rdNum T).1 := by
  by_cases hx : T.l = false ∧ ∃ n, isNum T.t (-9223372036854775808) 9223372036854775807 n
  · obtain ⟨hl, n, hn⟩ := hx
    rw [rdNum_yes hl hn]; exact ⟨hn.1, hn.2.1⟩
  · rw [rdNum_no hx]; unfold wfI; omega
theorem rdPt_fine (T : Tm) (h : T.texts ≤ 140737488355328) : (rdPt T).1.fine := by
  refine ⟨fun o ho => ?_, ?_, fun s hs => ?_, fun o ho s hs => ?_⟩
  · obtain ⟨x, hx, rfl⟩ := List.mem_map.1 ho
    exact ⟨rdNum_wf _, ⟨rdNum_wf _, rdNum_wf _⟩, rdNum_wf _, rdNum_wf _⟩
  · exact Nat.le_trans (Nat.le_trans (t_texts _) (nth_texts T 1 (by omega))) h
  · exact Nat.le_trans (Nat.le_trans (rdTexts_size _ s hs) (nth_texts T 2 (by omega))) h
  · obtain ⟨x, hx, rfl⟩ := List.mem_map.1 ho
    exact Nat.le_trans (Nat.le_trans (Nat.le_trans (Nat.le_trans (rdTexts_size _ s hs) (nth_texts x 3 (by omega))) (xs_texts _ x hx)) (nth_texts T 3 (by omega))) h

def ReadPP (s : ByteArray) (w : World) (e : Ending) (w' : World) : Prop :=
  Below w.heap.size w w' ∧ ((∃ p dv ov, p.wf ∧ p.fine ∧ rightP p = true ∧ s.data.toList = (ptT p).bytes ∧ e = .returned (.tuple #[ptV p.note dv ov, .nilIface]) ∧ PReads w' p.note dv ov p) ∨
    ((∀ p, p.wf → rightP p = true → s.data.toList ≠ (ptT p).bytes) ∧ ∃ v, e = .returned (.tuple #[ptV ⟨#[]⟩ (.slice none 0 0) (.slice none 0 0), v]) ∧ IsFault w' v))

theorem no_big {s : ByteArray} (h : 65536 < s.size) : ∀ p : Pt, p.wf → rightP p = true → s.data.toList ≠ (ptT p).bytes := by
  intro p _ hr e
  unfold rightP at hr
  simp only [Bool.and_eq_true, decide_eq_true_eq] at hr
  have := ba_len s
  rw [e] at this
  omega
theorem no_form {s : ByteArray} (h : ∀ T, ¬ IsF 0 s.data.toList T []) : ∀ p : Pt, p.wf → rightP p = true → s.data.toList ≠ (ptT p).bytes := by
  intro p _ _ e
  have := ptT_depth p
  exact h (ptT p) ⟨ptT_ok p, by omega, by rw [List.append_nil]; exact e⟩

theorem fault_post {s : ByteArray} {w wa w2 : World} {B : Nat} (hba : Below w.heap.size w wa) (hlt : w.heap.size < wa.heap.size) (g1 : w2.cell? ⟨B, 0, none⟩ = some (.string ⟨#[112, 97, 116, 99, 104]⟩)) (g2 : w2.cell? ⟨B, 1, none⟩ = some (errV 10)) (hB : wa.heap.size ≤ B) (hb2 : Below wa.heap.size wa w2)
    (hno : ∀ p : Pt, p.wf → rightP p = true → s.data.toList ≠ (ptT p).bytes) :
    ReadPP s w (.returned (.tuple #[ptV ⟨#[]⟩ (.slice none 0 0) (.slice none 0 0), .iface 41 (.pointer (some ⟨B, 0, none⟩))])) (((w2.setCell ⟨w.heap.size, 0, none⟩ (.string ⟨#[]⟩)).setCell ⟨w.heap.size, 1, none⟩ (.slice none 0 0)).setCell ⟨w.heap.size, 2, none⟩ (.slice none 0 0)) := by
  have hb := hba.trans (hb2.mono hba.size)
  have hwo : Off (fun i => i = w.heap.size) w2 (((w2.setCell ⟨w.heap.size, 0, none⟩ (.string ⟨#[]⟩)).setCell ⟨w.heap.size, 1, none⟩ (.slice none 0 0)).setCell ⟨w.heap.size, 2, none⟩ (.slice none 0 0)) := Off.setCell (Z := fun i => i = w.heap.size) (Off.setCell (Z := fun i => i = w.heap.size) (Off.setCell (Z := fun i => i = w.heap.size) (Off.refl _ _) (p := ⟨w.heap.size, 0, none⟩) (.inr rfl) _) (p := ⟨w.heap.size, 1, none⟩) (.inr rfl) _) (p := ⟨w.heap.size, 2, none⟩) (.inr rfl) _
  have hne : ¬ B = w.heap.size := by omega
  exact ⟨hb.trans (hwo.below (fun i hi => by omega) hb.size), .inr ⟨hno, _, rfl, B, rfl, (hwo.cell (p := ⟨B, 0, none⟩) (cell_lt g1) hne).trans g1, (hwo.cell (p := ⟨B, 1, none⟩) (cell_lt g2) hne).trans g2⟩⟩

set_option maxHeartbeats 8000000 in
set_option maxRecDepth 100000 in
theorem pread_any (s : ByteArray) (w : World) (hs : s.size ≤ 140737488355328) (he : Env w) :
    Calls Tryz.prog 18 #[.string s] w (ReadPP s w) := by
  have hc : ∀ wz, Below w.heap.size w wz → Calls Tryz.prog 38 #[.string s] wz (ReadT s wz) := fun wz hz => read_any s wz hs
  have hb1 : ∀ o, Below w.heap.size w (w.alloc o) := fun o => (Below.refl _ _).alloc (Nat.le_refl _) _
  have HC := Lib.hid hc
  have HB1 := Lib.hid hb1
  have HE := Lib.hid he
  clear hc hb1 he
  go_enter Tryz.func18, Tryz.ntmps18
  go_wp2_with fail
  refine (HC.out _ (HB1.out _)).mono ?_
  rintro e w1 ⟨hb, hcase⟩
  obtain ⟨q, qb, qs⟩ := boxA1 hb
  have qf : ∀ j, w1.frozen? ⟨w.heap.size, j, none⟩ = false := fun j => (hb.frozen (p := ⟨w.heap.size, j, none⟩) (by simp)).trans (World.frozen?_alloc_at _ _ _ _ rfl)
  have q0 := q 0
  have q1 := q 1
  have q2 := q 2
  have f0 := qf 0
  have f1 := qf 1
  have f2 := qf 2
  have qlt : w.heap.size < w1.heap.size := by omega
  have QB := Lib.hid qb
  have QS := Lib.hid qs
  clear hb q qb qf
  rcases hcase with ⟨hbig, rfl⟩ | ⟨hsm, hno, rfl⟩ | ⟨hsm, l, t, xs, a, c, rfl, hF, hts, hsl⟩
  · have HNO := Lib.hid (no_big hbig)
    clear hbig
    obtain ⟨wa, hwa⟩ : ∃ wa, wa = w1.alloc (.cells #[.bool false, .string ⟨#[]⟩, .slice none 0 0] 61) := ⟨_, rfl⟩
    have hba : Below w1.heap.size w1 wa := by rw [hwa]; exact (Below.refl _ _).alloc (Nat.le_refl _) _
    have QA := Lib.hid (QB.out.trans (hba.mono (Nat.le_of_lt qlt)))
    have LTA := Lib.hid (Nat.lt_of_lt_of_le qlt hba.size)
    have KA0 := Lib.hid ((hba.cell (p := ⟨w.heap.size, 0, none⟩) qlt).trans (q0.trans rfl : _ = some (Value.string ⟨#[]⟩)))
    have KA1 := Lib.hid ((hba.cell (p := ⟨w.heap.size, 1, none⟩) qlt).trans (q1.trans rfl : _ = some (Value.slice none 0 0)))
    have KA2 := Lib.hid ((hba.cell (p := ⟨w.heap.size, 2, none⟩) qlt).trans (q2.trans rfl : _ = some (Value.slice none 0 0)))
    have FA0 := Lib.hid ((hba.frozen (p := ⟨w.heap.size, 0, none⟩) qlt).trans f0)
    have FA1 := Lib.hid ((hba.frozen (p := ⟨w.heap.size, 1, none⟩) qlt).trans f1)
    have FA2 := Lib.hid ((hba.frozen (p := ⟨w.heap.size, 2, none⟩) qlt).trans f2)
    clear hba q0 q1 q2 f0 f1 f2
    go_wp2_with fail
    rw [← hwa]
    clear hwa
    refine (fault_any _).mono ?_
    rintro e w9 ⟨B, rfl, g1, g2, hB, hb9⟩
    have k0 := (hb9.cell (p := ⟨w.heap.size, 0, none⟩) LTA.out).trans KA0.out
    have k1 := (hb9.cell (p := ⟨w.heap.size, 1, none⟩) LTA.out).trans KA1.out
    have k2 := (hb9.cell (p := ⟨w.heap.size, 2, none⟩) LTA.out).trans KA2.out
    have m0 := (hb9.frozen (p := ⟨w.heap.size, 0, none⟩) LTA.out).trans FA0.out
    have m1 := (hb9.frozen (p := ⟨w.heap.size, 1, none⟩) LTA.out).trans FA1.out
    have m2 := (hb9.frozen (p := ⟨w.heap.size, 2, none⟩) LTA.out).trans FA2.out
    have hlt9 : w.heap.size < w9.heap.size := Nat.lt_of_lt_of_le LTA.out hb9.size
    obtain ⟨z0, z1, z2⟩ := end3 (of_cellAt k0) (of_cellAt k1) (of_cellAt k2) (.string ⟨#[]⟩) (.slice none 0 0) (.slice none 0 0)
    have HP := Lib.hid (fault_post (s := s) QA.out LTA.out g1 g2 hB hb9 HNO.out)
    clear hb9 g1 g2 hB
    go_wp2_with fail
    exact bodyPost_ret (v := .tuple #[ptV ⟨#[]⟩ (.slice none 0 0) (.slice none 0 0), .iface 41 (.pointer (some ⟨B, 0, none⟩))]) (by simp [results, Tryz.results18, go_sem, z0, z1, z2]) rfl HP.out
  · have HNO := Lib.hid (no_form hno)
    clear hno hsm
    obtain ⟨wa, hwa⟩ : ∃ wa, wa = w1.alloc (.cells #[.bool false, .string ⟨#[]⟩, .slice none 0 0] 61) := ⟨_, rfl⟩
    have hba : Below w1.heap.size w1 wa := by rw [hwa]; exact (Below.refl _ _).alloc (Nat.le_refl _) _
    have QA := Lib.hid (QB.out.trans (hba.mono (Nat.le_of_lt qlt)))
    have LTA := Lib.hid (Nat.lt_of_lt_of_le qlt hba.size)
    have KA0 := Lib.hid ((hba.cell (p := ⟨w.heap.size, 0, none⟩) qlt).trans (q0.trans rfl : _ = some (Value.string ⟨#[]⟩)))
    have KA1 := Lib.hid ((hba.cell (p := ⟨w.heap.size, 1, none⟩) qlt).trans (q1.trans rfl : _ = some (Value.slice none 0 0)))
    have KA2 := Lib.hid ((hba.cell (p := ⟨w.heap.size, 2, none⟩) qlt).trans (q2.trans rfl : _ = some (Value.slice none 0 0)))
    have FA0 := Lib.hid ((hba.frozen (p := ⟨w.heap.size, 0, none⟩) qlt).trans f0)
    have FA1 := Lib.hid ((hba.frozen (p := ⟨w.heap.size, 1, none⟩) qlt).trans f1)
    have FA2 := Lib.hid ((hba.frozen (p := ⟨w.heap.size, 2, none⟩) qlt).trans f2)
    clear hba q0 q1 q2 f0 f1 f2
    go_wp2_with fail
    rw [← hwa]
    clear hwa
    refine (fault_any _).mono ?_
    rintro e w9 ⟨B, rfl, g1, g2, hB, hb9⟩
    have k0 := (hb9.cell (p := ⟨w.heap.size, 0, none⟩) LTA.out).trans KA0.out
    have k1 := (hb9.cell (p := ⟨w.heap.size, 1, none⟩) LTA.out).trans KA1.out
    have k2 := (hb9.cell (p := ⟨w.heap.size, 2, none⟩) LTA.out).trans KA2.out
    have m0 := (hb9.frozen (p := ⟨w.heap.size, 0, none⟩) LTA.out).trans FA0.out
    have m1 := (hb9.frozen (p := ⟨w.heap.size, 1, none⟩) LTA.out).trans FA1.out
    have m2 := (hb9.frozen (p := ⟨w.heap.size, 2, none⟩) LTA.out).trans FA2.out
    have hlt9 : w.heap.size < w9.heap.size := Nat.lt_of_lt_of_le LTA.out hb9.size
    obtain ⟨z0, z1, z2⟩ := end3 (of_cellAt k0) (of_cellAt k1) (of_cellAt k2) (.string ⟨#[]⟩) (.slice none 0 0) (.slice none 0 0)
    have HP := Lib.hid (fault_post (s := s) QA.out LTA.out g1 g2 hB hb9 HNO.out)
    clear hb9 g1 g2 hB
    go_wp2_with fail
    exact bodyPost_ret (v := .tuple #[ptV ⟨#[]⟩ (.slice none 0 0) (.slice none 0 0), .iface 41 (.pointer (some ⟨B, 0, none⟩))]) (by simp [results, Tryz.results18, go_sem, z0, z1, z2]) rfl HP.out
  · obtain ⟨T, hT⟩ : ∃ T, T = Tm.mk l t xs := ⟨_, rfl⟩
    have hl : l = T.l := by rw [hT]; rfl
    have ht : t = T.t := by rw [hT]; rfl
    have hx : xs = T.xs := by rw [hT]; rfl
    rw [← hT] at hF
    rw [hx] at hsl
    obtain ⟨n, hn⟩ : ∃ n, n = xs.length := ⟨_, rfl⟩
    rw [← hn]
    have hlen : s.data.toList.length ≤ 65536 := by rw [ba_len]; exact hsm
    have hbs : T.bytes = s.data.toList := by have := hF.2.2; rw [List.append_nil] at this; exact this.symm
    have hbd := bytes_bound T hF.1
    rw [hbs] at hbd
    have hpar : T.parts ≤ 1000000 := by omega
    have htx : T.texts ≤ 140737488355328 := by omega
    have hfine := rdPt_fine T htx
    have huniq : ∀ p : Pt, s.data.toList = (ptT p).bytes → ptT p = T := fun p e => by
      have := Tm.unique (ptT p) T [] [] (ptT_ok p) hF.1 (by rw [List.append_nil, List.append_nil, hbs, e])
      exact this.1
    obtain ⟨p, hp⟩ : ∃ p, p = (rdPt T).1 := ⟨_, rfl⟩
    obtain ⟨pb, hpb⟩ : ∃ b, b = (rdPt T).2 := ⟨_, rfl⟩
    have hE1 : Env w1 := HE.out.below QB.out
    have hgm := HE.out.lt
    have hcp : Calls Tryz.prog 40 #[.pointer (some ⟨w1.heap.size + 1, 0, none⟩), fv l t (.slice a n c)] ((w1.alloc (.cells #[.bool l, .string t, .slice a n c] 61)).alloc (.cells #[.bool false] 70)) fun e w' => ∃ dv ov, e = .returned (ptV p.note dv ov) ∧ (∀ wF, Off (fun i => i < w1.heap.size + 2) w' wF → Reads wF dv p.deps ∧ OReads wF ov p.ops) ∧ RdO (w1.heap.size + 1) false pb ((w1.alloc (.cells #[.bool l, .string t, .slice a n c] 61)).alloc (.cells #[.bool false] 70)) w' := by
      obtain ⟨W2, hW2⟩ : ∃ W2, W2 = (w1.alloc (.cells #[.bool l, .string t, .slice a n c] 61)).alloc (.cells #[.bool false] 70) := ⟨_, rfl⟩
      have hsz2 : W2.heap.size = w1.heap.size + 2 := by rw [hW2]; simp
      have hB2 : Below w1.heap.size w1 W2 := by rw [hW2]; exact ((Below.refl _ _).alloc (Nat.le_refl _) _).alloc (by simp) _
      have hri : RdI (w1.heap.size + 1) false W2 := by
        rw [hW2]
        exact ⟨(World.cell?_alloc_at _ _ _ _ (by simp)).trans rfl, World.frozen?_alloc_at _ _ _ _ (by simp)⟩
      have hsl2 : SlL (fun i => i ≠ w1.heap.size + 1) W2 (.slice a T.xs.length c) T.xs := (hsl.mono (Z' := fun i => i ≠ w1.heap.size + 1) fun i hi _ => by omega).keep hB2
      have h := ppatch_rd (fun i => i ≠ w1.heap.size + 1) (w1.heap.size + 1) false T hF.1 hpar a c W2 hri hsl2 (fun h => h rfl) (fun i hi => by omega) (by omega) (hE1.below hB2)
      unfold PatP at h
      rw [← hp, ← hpb, hsz2] at h
      rw [← hW2, hl, ht, hn, hx]
      exact h
    have HCP := Lib.hid hcp
    have HFI := Lib.hid (show p.fine by rw [hp]; exact hfine)
    have HUQ := Lib.hid huniq
    have HPP := Lib.hid hp
    have HPB := Lib.hid hpb
    have HTO := Lib.hid hF.1
    have HBS := Lib.hid hbs
    have HE1 := Lib.hid hE1
    have K0 := Lib.hid (q0.trans rfl : w1.cell? ⟨w.heap.size, 0, none⟩ = some (Value.string ⟨#[]⟩))
    have K1 := Lib.hid (q1.trans rfl : w1.cell? ⟨w.heap.size, 1, none⟩ = some (Value.slice none 0 0))
    have K2 := Lib.hid (q2.trans rfl : w1.cell? ⟨w.heap.size, 2, none⟩ = some (Value.slice none 0 0))
    have F0 := Lib.hid f0
    have F1 := Lib.hid f1
    have F2 := Lib.hid f2
    clear hcp hfine huniq hp hpb hE1 hF hbs hsl hl ht hx hn hT q0 q1 q2 f0 f1 f2 hbd hlen hpar htx hts
    go_wp2_with fail
    refine HCP.out.mono ?_
    rintro e w3 ⟨dv, ov, rfl, hrd, hro⟩
    have hoff : Off (fun i => i = w1.heap.size + 1) w1 w3 := (((Off.refl (fun i => i = w1.heap.size + 1) w1).alloc _).alloc _).trans hro.2
    have hne : ∀ j, ¬ (⟨w.heap.size, j, none⟩ : Addr).block = w1.heap.size + 1 := fun j e => by have e' : w.heap.size = w1.heap.size + 1 := e; omega
    have hsz3 : w1.heap.size + 2 ≤ w3.heap.size := by have := hro.2.size; simp at this; omega
    obtain ⟨da, dc, hdv, _⟩ := (hrd w3 (Off.refl _ _)).1.form
    obtain ⟨oa, oc, hov, _⟩ := (hrd w3 (Off.refl _ _)).2.form
    obtain ⟨dn, hdn⟩ : ∃ v, v = p.deps.length := ⟨_, rfl⟩
    obtain ⟨on, hon⟩ : ∃ v, v = p.ops.length := ⟨_, rfl⟩
    rw [← hdn] at hdv
    rw [← hon] at hov
    subst hdv
    subst hov
    obtain ⟨nt, hnt⟩ : ∃ v, v = p.note := ⟨_, rfl⟩
    rw [← hnt]
    obtain ⟨wa, hwa⟩ : ∃ wa, wa = w3.alloc (.cells #[.string nt, .slice da dn dc, .slice oa on oc] 25) := ⟨_, rfl⟩
    have hba : Below w3.heap.size w3 wa := by rw [hwa]; exact (Below.refl _ _).alloc (Nat.le_refl _) _
    have hoa : Off (fun i => i = w1.heap.size + 1) w1 wa := hoff.trans (Off.of_below hba)
    have QA := Lib.hid (QB.out.trans (hoa.below (fun i hi => by omega) QB.out.size))
    have LTA := Lib.hid (Nat.lt_of_lt_of_le qlt hoa.size)
    have KA0 := Lib.hid ((hoa.cell (p := ⟨w.heap.size, 0, none⟩) qlt (hne 0)).trans K0.out)
    have KA1 := Lib.hid ((hoa.cell (p := ⟨w.heap.size, 1, none⟩) qlt (hne 1)).trans K1.out)
    have KA2 := Lib.hid ((hoa.cell (p := ⟨w.heap.size, 2, none⟩) qlt (hne 2)).trans K2.out)
    have FA0 := Lib.hid ((hoa.frozen (p := ⟨w.heap.size, 0, none⟩) qlt (hne 0)).trans F0.out)
    have FA1 := Lib.hid ((hoa.frozen (p := ⟨w.heap.size, 1, none⟩) qlt (hne 1)).trans F1.out)
    have FA2 := Lib.hid ((hoa.frozen (p := ⟨w.heap.size, 2, none⟩) qlt (hne 2)).trans F2.out)
    have hri := hro.1
    rw [Bool.false_or] at hri
    have kr := hri.cell
    have hrlt : w1.heap.size + 1 < w3.heap.size := by omega
    have HRD := Lib.hid hrd
    have HBA := Lib.hid hba
    have HNT := Lib.hid hnt
    have HDN := Lib.hid hdn
    have HON := Lib.hid hon
    have HEA := Lib.hid ((HE1.out.off hoa (fun i hi => by omega)).tab)
    clear hrd hro hoff hri hba hoa hne hnt hdn hon
    cases pb with
    | true =>
      have HNO := Lib.hid (show ∀ p : Pt, p.wf → rightP p = true → s.data.toList ≠ (ptT p).bytes from fun q hq _ e => by
        have h1 := HUQ.out q e
        have h2 := pt_forth hq
        rw [h1] at h2
        have h3 := HPB.out
        rw [h2] at h3
        cases h3)
      go_wp2_with fail
      rw [← hwa]
      clear hwa kr
      refine (fault_any _).mono ?_
      rintro e w9 ⟨B, rfl, g1, g2, hB, hb9⟩
      have k0 := (hb9.cell (p := ⟨w.heap.size, 0, none⟩) LTA.out).trans KA0.out
      have k1 := (hb9.cell (p := ⟨w.heap.size, 1, none⟩) LTA.out).trans KA1.out
      have k2 := (hb9.cell (p := ⟨w.heap.size, 2, none⟩) LTA.out).trans KA2.out
      have m0 := (hb9.frozen (p := ⟨w.heap.size, 0, none⟩) LTA.out).trans FA0.out
      have m1 := (hb9.frozen (p := ⟨w.heap.size, 1, none⟩) LTA.out).trans FA1.out
      have m2 := (hb9.frozen (p := ⟨w.heap.size, 2, none⟩) LTA.out).trans FA2.out
      have hlt9 : w.heap.size < w9.heap.size := Nat.lt_of_lt_of_le LTA.out hb9.size
      obtain ⟨z0, z1, z2⟩ := end3 (of_cellAt k0) (of_cellAt k1) (of_cellAt k2) (.string ⟨#[]⟩) (.slice none 0 0) (.slice none 0 0)
      have HP := Lib.hid (fault_post (s := s) QA.out LTA.out g1 g2 hB hb9 HNO.out)
      clear hb9 g1 g2 hB
      go_wp2_with fail
      exact bodyPost_ret (v := .tuple #[ptV ⟨#[]⟩ (.slice none 0 0) (.slice none 0 0), .iface 41 (.pointer (some ⟨B, 0, none⟩))]) (by simp [results, Tryz.results18, go_sem, z0, z1, z2]) rfl HP.out
    | false =>
      have hbk := pt_back HTO.out HPB.out.symm
      rw [← HPP.out] at hbk
      have HBK := Lib.hid hbk
      have cR : Calls Tryz.prog 15 #[ptV nt (.slice da dn dc) (.slice oa on oc)] wa fun e w' => e = .returned (.bool (rightP p)) ∧ Below wa.heap.size wa w' := by
        have hA := HRD.out wa (Off.of_below HBA.out)
        rw [HNT.out]
        exact pright_any p _ _ wa ⟨rfl, hA.1, hA.2⟩ HFI.out HEA.out
      have CR := Lib.hid cR
      clear hbk cR
      obtain ⟨r, hr⟩ : ∃ r, r = rightP p := ⟨_, rfl⟩
      rw [← hr] at CR
      have HRR := Lib.hid hr
      clear hr
      have kb : ∀ j, wa.cell? ⟨w3.heap.size, j, none⟩ = (#[Value.string nt, .slice da dn dc, .slice oa on oc] : Array Value)[j]? := fun j => by rw [hwa]; exact World.cell?_alloc_at _ _ _ _ rfl
      have hblt : w3.heap.size < wa.heap.size := by rw [hwa]; simp
      have KB := Lib.hid kb
      clear kb
      go_wp2_with fail
      rw [← hwa]
      refine CR.out.mono ?_
      rintro e w4 ⟨rfl, hb4⟩
      have b0 := (hb4.cell (p := ⟨w3.heap.size, 0, none⟩) hblt).trans (KB.out 0)
      have b1 := (hb4.cell (p := ⟨w3.heap.size, 1, none⟩) hblt).trans (KB.out 1)
      have b2 := (hb4.cell (p := ⟨w3.heap.size, 2, none⟩) hblt).trans (KB.out 2)
      have KA0 := Lib.hid ((hb4.cell (p := ⟨w.heap.size, 0, none⟩) LTA.out).trans KA0.out)
      have KA1 := Lib.hid ((hb4.cell (p := ⟨w.heap.size, 1, none⟩) LTA.out).trans KA1.out)
      have KA2 := Lib.hid ((hb4.cell (p := ⟨w.heap.size, 2, none⟩) LTA.out).trans KA2.out)
      have FA0 := Lib.hid ((hb4.frozen (p := ⟨w.heap.size, 0, none⟩) LTA.out).trans FA0.out)
      have FA1 := Lib.hid ((hb4.frozen (p := ⟨w.heap.size, 1, none⟩) LTA.out).trans FA1.out)
      have FA2 := Lib.hid ((hb4.frozen (p := ⟨w.heap.size, 2, none⟩) LTA.out).trans FA2.out)
      have LTA := Lib.hid (Nat.lt_of_lt_of_le LTA.out hb4.size)
      have QA4 := Lib.hid (QA.out.trans (hb4.mono QA.out.size))
      have HO4 := Lib.hid (show Off (fun i => i < w1.heap.size + 2) w3 w4 from (Off.of_below HBA.out).trans (Off.of_below hb4))
      cases r with
      | false =>
        have QA := QA4
        have HNO := Lib.hid (show ∀ p : Pt, p.wf → rightP p = true → s.data.toList ≠ (ptT p).bytes from fun q hq hqr e => by
          have h1 := HUQ.out q e
          have h2 : q = p := ptT_inj hq HBK.out.1 (h1.trans HBK.out.2.symm)
          rw [h2, ← HRR.out] at hqr
          cases hqr)
        clear hwa kr hb4 b0 b1 b2
        go_wp2_with fail
        refine (fault_any _).mono ?_
        rintro e w9 ⟨B, rfl, g1, g2, hB, hb9⟩
        have k0 := (hb9.cell (p := ⟨w.heap.size, 0, none⟩) LTA.out).trans KA0.out
        have k1 := (hb9.cell (p := ⟨w.heap.size, 1, none⟩) LTA.out).trans KA1.out
        have k2 := (hb9.cell (p := ⟨w.heap.size, 2, none⟩) LTA.out).trans KA2.out
        have m0 := (hb9.frozen (p := ⟨w.heap.size, 0, none⟩) LTA.out).trans FA0.out
        have m1 := (hb9.frozen (p := ⟨w.heap.size, 1, none⟩) LTA.out).trans FA1.out
        have m2 := (hb9.frozen (p := ⟨w.heap.size, 2, none⟩) LTA.out).trans FA2.out
        have hlt9 : w.heap.size < w9.heap.size := Nat.lt_of_lt_of_le LTA.out hb9.size
        obtain ⟨z0, z1, z2⟩ := end3 (of_cellAt k0) (of_cellAt k1) (of_cellAt k2) (.string ⟨#[]⟩) (.slice none 0 0) (.slice none 0 0)
        have HP := Lib.hid (fault_post (s := s) QA.out LTA.out g1 g2 hB hb9 HNO.out)
        clear hb9 g1 g2 hB
        go_wp2_with fail
        exact bodyPost_ret (v := .tuple #[ptV ⟨#[]⟩ (.slice none 0 0) (.slice none 0 0), .iface 41 (.pointer (some ⟨B, 0, none⟩))]) (by simp [results, Tryz.results18, go_sem, z0, z1, z2]) rfl HP.out
      | true =>
        clear hwa kr hb4
        have hwo : Off (fun i => i = w.heap.size) w4 (((w4.setCell ⟨w.heap.size, 0, none⟩ (.string nt)).setCell ⟨w.heap.size, 1, none⟩ (.slice da dn dc)).setCell ⟨w.heap.size, 2, none⟩ (.slice oa on oc)) := Off.setCell (Z := fun i => i = w.heap.size) (Off.setCell (Z := fun i => i = w.heap.size) (Off.setCell (Z := fun i => i = w.heap.size) (Off.refl _ _) (p := ⟨w.heap.size, 0, none⟩) (.inr rfl) _) (p := ⟨w.heap.size, 1, none⟩) (.inr rfl) _) (p := ⟨w.heap.size, 2, none⟩) (.inr rfl) _
        have hpost : ReadPP s w (.returned (.tuple #[ptV nt (.slice da dn dc) (.slice oa on oc), .nilIface])) (((w4.setCell ⟨w.heap.size, 0, none⟩ (.string nt)).setCell ⟨w.heap.size, 1, none⟩ (.slice da dn dc)).setCell ⟨w.heap.size, 2, none⟩ (.slice oa on oc)) := by
          have hF := HRD.out _ (HO4.out.trans (hwo.mono (fun i hi => by omega)))
          exact ⟨QA4.out.trans (hwo.below (fun i hi => by omega) QA4.out.size), .inl ⟨p, _, _, HBK.out.1, HFI.out, HRR.out.symm, by rw [HBK.out.2]; exact HBS.out.symm, by rw [HNT.out], ⟨rfl, hF.1, hF.2⟩⟩⟩
        have k0 := KA0.out
        have k1 := KA1.out
        have k2 := KA2.out
        have m0 := FA0.out
        have m1 := FA1.out
        have m2 := FA2.out
        have hlt9 := LTA.out
        have hlt8 : w.heap.size < w3.heap.size := by omega
        obtain ⟨z0, z1, z2⟩ := end3 (of_cellAt k0) (of_cellAt k1) (of_cellAt k2) (.string nt) (.slice da dn dc) (.slice oa on oc)
        have HP := Lib.hid hpost
        clear hpost hwo
        go_wp2_with fail
        exact bodyPost_ret (v := .tuple #[ptV nt (.slice da dn dc) (.slice oa on oc), .nilIface]) (by simp [results, Tryz.results18, go_sem, z0, z1, z2]) rfl HP.out
end Go.Proofs.YtgjcblginkdinaaGreatDoor
