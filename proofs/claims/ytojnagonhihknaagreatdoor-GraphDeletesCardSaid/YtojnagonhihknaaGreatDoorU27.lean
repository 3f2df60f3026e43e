/- The contracts of Write, Right, Made, Name, Commute. Which patch is right, in the document's order; how long its bytes are. Mathematics. Which patch is right, how many lines it makes: walked. -/
import Derived.Test.YtojnagonhihknaaGreatDoorU12
import Derived.Test.YtojnagonhihknaaGreatDoorU23
import Derived.Test.YtojnagonhihknaaGreatDoorU25
import Derived.Test.YtojnagonhihknaaGreatDoorU26
set_option linter.unusedVariables false
namespace Go.Proofs.YtojnagonhihknaaGreatDoor
open Go.ChangeShapes Go.WideShapes Go.ChangeAt Go.RowKit

noncomputable def wrV (p : Pt) : Value := if rightP p then .nilIface else errV 10

theorem sound_parts {p : Pt} (h : soundB p = true) : p.note.size ≤ 100 ∧ p.ops.length ≤ 400 ∧ p.deps.length ≤ 64 ∧ linesN p.ops ≤ 300 := by
  unfold soundB at h
  simp only [Bool.and_eq_true, decide_eq_true_eq] at h
  refine ⟨h.1.1.1, h.1.1.2, (risB_iff.1 h.1.2).1, ?_⟩
  have := ops_lines p.ops 0 (by omega) h.2
  omega

theorem liT_parts (xs : List Tm) : (liT xs).parts = Tm.partss xs + 1 := by unfold liT; rw [Tm.parts]
theorem txT_parts (t : ByteArray) : (txT t).parts = 1 := by unfold txT; rw [Tm.parts, Tm.partss]
theorem nuT_parts (n : Int) : (nuT n).parts = 1 := txT_parts _
theorem rfT_parts (r : Rf) : (rfT r).parts = 3 := by simp [rfT, liT_parts, Tm.partss, nuT_parts]
theorem tsT_parts (l : Lb) : (tsT l).parts = l.length + 1 := by
  rw [tsT, liT_parts]
  congr 1
  induction l with
  | nil => rfl
  | cons x r ih => simp only [List.map_cons, Tm.partss, txT_parts, ih, List.length_cons]; omega
theorem opT_parts (o : Opp) : (opT o).parts = o.lines.length + 9 := by
  simp only [opT, liT_parts, Tm.partss, nuT_parts, rfT_parts, tsT_parts]; omega
theorem ops_parts (l : List Opp) : Tm.partss (l.map opT) = 9 * l.length + linesN l := by
  induction l with
  | nil => rfl
  | cons x r ih => simp only [List.map_cons, Tm.partss, opT_parts, ih, List.length_cons, linesN]; omega
theorem ptT_parts (p : Pt) : (ptT p).parts = 5 + p.deps.length + 9 * p.ops.length + linesN p.ops := by
  simp only [ptT, liT_parts, Tm.partss, txT_parts, tsT_parts, ops_parts]; omega

theorem right_false {p : Pt} (h : soundB p = false ∨ ¬ CanW 0 [] (ptT p)) : rightP p = false := by
  unfold rightP
  rcases h with h | h
  · rw [h]; rfl
  · rw [can_iff] at h
    rw [decide_eq_false h, Bool.and_false]
theorem right_true {p : Pt} (h : soundB p = true) (h2 : CanW 0 [] (ptT p)) : rightP p = true := by
  unfold rightP
  rw [can_iff] at h2
  rw [h, decide_eq_true h2]; rfl

set_option maxHeartbeats 4000000 in
set_option maxRecDepth 100000 in
theorem pwrite_any (p : Pt) (dv ov : Value) (w : World) (hp : PReads w p.note dv ov p) (hf : p.fine) (ht : HasTab w) :
    Calls Tryz.prog 81 #[ptV p.note dv ov] w fun e w' => e = .returned (.tuple #[.string (tx (bytesP p)), wrV p]) ∧ Below w.heap.size w w' := by
  obtain ⟨da, dc, hdv, _⟩ := hp.deps.form
  obtain ⟨oa, oc, hov, _⟩ := hp.ops.form
  subst hdv
  subst hov
  obtain ⟨m, hm⟩ : ∃ m, m = p.deps.length := ⟨_, rfl⟩
  obtain ⟨n, hn⟩ : ∃ n, n = p.ops.length := ⟨_, rfl⟩
  obtain ⟨t, htt⟩ : ∃ t, t = p.note := ⟨_, rfl⟩
  have hb1 : ∀ o1, Below w.heap.size w (w.alloc o1) := fun o1 => (Below.refl _ _).alloc (Nat.le_refl _) _
  have c1 : ∀ wz, Below w.heap.size w wz → Calls Tryz.prog 111 #[ptV t (.slice da m dc) (.slice oa n oc)] wz fun e w' => e = .returned (.bool (soundB p)) ∧ Below wz.heap.size wz w' := fun wz hz => by
    rw [htt, hm, hn]; exact psound_any p _ _ wz (hp.below hz) hf
  have c2 : soundB p = true → ∀ wz, Below w.heap.size w wz → Calls Tryz.prog 113 #[ptV t (.slice da m dc) (.slice oa n oc)] wz fun e w' => ∃ v, e = .returned v ∧ IsV (fun i => wz.heap.size ≤ i) w' v (ptT p) ∧ Below wz.heap.size wz w' := fun hs wz hz => by
    obtain ⟨_, h2, h3, h4⟩ := sound_parts hs
    rw [htt, hm, hn]; exact pform_any _ p _ _ wz (hp.below hz) hf h3 h2 h4 (ht.below hz) (fun i hi => hi)
  rw [← hm, ← hn, ← htt]
  obtain ⟨S, hS⟩ : ∃ S, S = soundB p := ⟨_, rfl⟩
  rw [← hS] at c1 c2
  have C1 := Lib.hid c1
  have C2 := Lib.hid c2
  have HS := Lib.hid hS
  have HB1 := Lib.hid hb1
  have HTB := Lib.hid ht
  clear c1 c2 hS hb1 ht hm hn htt hp hf
  cases S with
  | false =>
    have hr := right_false (.inl HS.out.symm)
    have e1 : bytesP p = [] := by unfold bytesP; rw [hr]; rfl
    have e2 : wrV p = errV 10 := by unfold wrV; rw [hr]; rfl
    rw [e1, e2]
    clear hr e1 e2
    go_enter Tryz.func81, Tryz.ntmps81
    go_wp2_with fail
    refine (C1.out _ (HB1.out _)).mono ?_
    rintro e w1 ⟨rfl, hb⟩
    obtain ⟨_, qb, _⟩ := boxA1 hb
    have QB := Lib.hid qb
    clear hb qb
    go_wp2_with fail
    go_ret2
    exact ⟨rfl, QB.out⟩
  | true =>
    go_enter Tryz.func81, Tryz.ntmps81
    go_wp2_with fail
    refine (C1.out _ (HB1.out _)).mono ?_
    rintro e w1 ⟨rfl, hb⟩
    obtain ⟨q, qb, qs⟩ := boxA1 hb
    have q0 := q 0
    have q1 := q 1
    have q2 := q 2
    have QB := Lib.hid qb
    clear hb qb q qs
    go_wp2_with fail
    refine (C2.out trivial _ QB.out).mono ?_
    rintro e w2 ⟨v, rfl, ⟨l, t2, ys, a, k, c, rfl, hk, hT, hts, hsl⟩, hb⟩
    have QB2 := Lib.hid (QB.out.trans (hb.mono QB.out.size))
    clear hb q0 q1 q2
    have hpar : (Tm.mk l t2 ys).parts ≤ 1000000 := by
      rw [← hT, ptT_parts]
      obtain ⟨_, h2, h3, h4⟩ := sound_parts HS.out.symm
      omega
    have hwr := write_any l t2 ys (· < w2.heap.size) (fun _ => True) w2 a c (by rw [← hk]; exact hk ▸ hsl.g.sl) hts (fun i h => h) (HTB.out.below QB2.out) (fun _ wz hz => sound_any l t2 ys wz a c ((by rw [← hk]; exact hk ▸ hsl.g : SlG w2 (.slice a ys.length c) ys).keep hz) hts hpar)
    rw [← hk, ← hT] at hwr
    have HW := Lib.hid hwr
    clear hwr hpar hsl hk hT
    go_wp2_with fail
    refine HW.out.mono ?_
    rintro e w3 ⟨hb, hc⟩
    have QB3 := Lib.hid (QB2.out.trans (hb.mono QB2.out.size))
    clear hb
    rcases hc with ⟨hcan, rfl⟩ | ⟨hcan, r, -, rfl⟩
    · have hr := right_true HS.out.symm hcan
      have e1 : bytesP p = (ptT p).bytes := by unfold bytesP; rw [hr]; rfl
      have e2 : wrV p = .nilIface := by unfold wrV; rw [hr]; rfl
      have E1 := Lib.hid e1
      have E2 := Lib.hid e2
      clear hr e1 e2 hcan
      go_wp2_with fail
      go_ret2
      rw [E1.out, E2.out]
      exact ⟨rfl, QB3.out⟩
    · have hr := right_false (.inr hcan)
      have e1 : bytesP p = [] := by unfold bytesP; rw [hr]; rfl
      have e2 : wrV p = errV 10 := by unfold wrV; rw [hr]; rfl
      have E1 := Lib.hid e1
      have E2 := Lib.hid e2
      clear hr e1 e2 hcan
      go_wp2_with fail
      all_goals go_ret2
      all_goals rw [E1.out, E2.out]
      all_goals exact ⟨rfl, QB3.out⟩
end Go.Proofs.YtojnagonhihknaaGreatDoor
set_option linter.unusedVariables false
namespace Go.Proofs.YtojnagonhihknaaGreatDoor
open Go.Lib (itoa)

theorem textss_all {α : Type} (f : α → Tm) (g : α → Nat) : ∀ (l : List α), (∀ x ∈ l, (f x).texts ≤ g x) → Tm.textss (l.map f) ≤ (l.map g).sum
  | [], _ => by simp [Tm.textss]
  | x :: r, h => by
    have ih := textss_all f g r (fun y hy => h y (by simp [hy]))
    have := h x (by simp)
    simp only [List.map_cons, Tm.textss, List.sum_cons]
    omega
theorem txT_texts (t : ByteArray) : (txT t).texts = t.size := by simp [txT, Tm.texts, Tm.textss]
theorem liT_texts (xs : List Tm) : (liT xs).texts = Tm.textss xs := by
  unfold liT
  rw [Tm.texts]
  have : noText.size = 0 := rfl
  omega
theorem nuT_texts {n : Int} (h : wfI n) : (nuT n).texts ≤ 21 := by
  unfold nuT
  rw [txT_texts]
  have h3 := Lib.itoa_length_le n h.1 h.2
  show (itoa n).toArray.size ≤ 21
  rw [List.size_toArray]
  exact h3
theorem rfT_texts {r : Rf} (h : r.wf) : (rfT r).texts ≤ 42 := by
  have h1 := nuT_texts h.1
  have h2 := nuT_texts h.2
  unfold rfT
  rw [liT_texts]
  simp only [Tm.textss]
  omega
theorem sum_const {α : Type} (l : List α) (c : Nat) : (l.map fun _ => c).sum = c * l.length := by
  induction l with
  | nil => simp
  | cons x r ih => rw [List.map_cons, List.sum_cons, ih, List.length_cons, Nat.mul_add]; omega
theorem tsT_texts (l : Lb) (c : Nat) (h : ∀ x ∈ l, x.size ≤ c) : (tsT l).texts ≤ c * l.length := by
  unfold tsT
  rw [liT_texts]
  refine Nat.le_trans (textss_all txT (fun _ => c) l (fun x hx => by rw [txT_texts]; exact h x hx)) ?_
  rw [sum_const]; exact Nat.le_refl _
theorem opT_texts {o : Opp} (h : o.wf) (hl : ∀ x ∈ o.lines, x.size ≤ 500) : (opT o).texts ≤ 105 + 500 * o.lines.length := by
  have h1 := nuT_texts h.1
  have h2 := rfT_texts h.2.1
  have h3 := rfT_texts h.2.2
  have h4 := tsT_texts o.lines 500 hl
  unfold opT
  rw [liT_texts]
  simp only [Tm.textss]
  omega
theorem ops_texts : ∀ (l : List Opp), (∀ o ∈ l, o.wf) → (∀ o ∈ l, ∀ x ∈ o.lines, x.size ≤ 500) → Tm.textss (l.map opT) ≤ 105 * l.length + 500 * linesN l
  | [], _, _ => by simp [Tm.textss]
  | o :: r, h, k => by
    have ih := ops_texts r (fun y hy => h y (by simp [hy])) (fun y hy => k y (by simp [hy]))
    have h1 := opT_texts (h o (by simp)) (k o (by simp))
    simp only [List.map_cons, Tm.textss, linesN, List.length_cons]
    omega
theorem ptT_texts {p : Pt} (hw : p.wf) (hn : p.note.size ≤ 100) (hd : ∀ x ∈ p.deps, x.size ≤ 64) (hl : ∀ o ∈ p.ops, ∀ x ∈ o.lines, x.size ≤ 500) : (ptT p).texts ≤ 107 + 64 * p.deps.length + 105 * p.ops.length + 500 * linesN p.ops := by
  have h1 := tsT_texts p.deps 64 hd
  have h2 := ops_texts p.ops hw hl
  unfold ptT
  rw [liT_texts]
  simp only [Tm.textss, txT_texts, liT_texts]
  have : headB.size = 7 := rfl
  omega
theorem rightP_of {p : Pt} (h1 : p.note.size ≤ 100) (h2 : p.ops.length ≤ 400) (h3 : risB p.deps = true) (h4 : opsR p.deps.length 0 p.ops = true) (h5 : madeN p.ops ≤ 300) : rightP p = decide ((ptT p).bytes.length ≤ 65536) := by
  have hs : soundB p = true := sound_yes h1 h2 h3 ((opsB_iff _ _ 0 (by omega)).2 ⟨h4, by omega⟩)
  unfold rightP
  rw [hs, Bool.true_and]
theorem small_right {p : Pt} (hw : p.wf) (h1 : p.note.size ≤ 100) (h2 : p.ops.length ≤ 1) (h3 : risB p.deps = true) (hd : p.deps.length ≤ 1) (hdz : ∀ x ∈ p.deps, x.size ≤ 64) (h4 : opsR p.deps.length 0 p.ops = true) (h5 : linesN p.ops ≤ 1) (hl : ∀ o ∈ p.ops, ∀ x ∈ o.lines, x.size ≤ 500) : rightP p = true := by
  have hm := madeN_le p.ops
  rw [rightP_of h1 (by omega) h3 h4 (by omega), decide_eq_true_eq]
  have hb := Tm.bytes_le (ptT p)
  have ht := ptT_texts hw h1 hdz hl
  have hp := ptT_parts p
  omega
end Go.Proofs.YtojnagonhihknaaGreatDoor
set_option linter.unusedVariables false
namespace Go.Proofs.YtojnagonhihknaaGreatDoor
open Go.ChangeShapes Go.WideShapes Go.ChangeAt Go.RowKit

set_option maxHeartbeats 2000000 in
theorem pright_any (p : Pt) (dv ov : Value) (w : World) (hp : PReads w p.note dv ov p) (hf : p.fine) (ht : HasTab w) :
    Calls Tryz.prog 45 #[ptV p.note dv ov] w fun e w' => e = .returned (.bool (rightP p)) ∧ Below w.heap.size w w' := by
  have hb1 : ∀ o1, Below w.heap.size w (w.alloc o1) := fun o1 => (Below.refl _ _).alloc (Nat.le_refl _) _
  obtain ⟨da, dc, hdv, _⟩ := hp.deps.form
  obtain ⟨oa, oc, hov, _⟩ := hp.ops.form
  subst hdv
  subst hov
  obtain ⟨m, hm⟩ : ∃ m, m = p.deps.length := ⟨_, rfl⟩
  obtain ⟨n, hn⟩ : ∃ n, n = p.ops.length := ⟨_, rfl⟩
  have c1 : ∀ wz, Below w.heap.size w wz → Calls Tryz.prog 81 #[ptV p.note (.slice da m dc) (.slice oa n oc)] wz fun e w' => e = .returned (.tuple #[.string (tx (bytesP p)), wrV p]) ∧ Below wz.heap.size wz w' := fun wz hz => by
    rw [hm, hn]; exact pwrite_any p _ _ wz (hp.below hz) hf (ht.below hz)
  rw [← hm, ← hn]
  obtain ⟨t, htt⟩ : ∃ t, t = p.note := ⟨_, rfl⟩
  rw [← htt] at c1 ⊢
  obtain ⟨r, hr⟩ : ∃ r, r = rightP p := ⟨_, rfl⟩
  have hw : wrV p = if r then .nilIface else errV 10 := by unfold wrV; rw [← hr]
  rw [hw] at c1
  rw [← hr]
  obtain ⟨X, hX⟩ : ∃ X, X = bytesP p := ⟨_, rfl⟩
  rw [← hX] at c1
  have C1 := Lib.hid c1
  have HB1 := Lib.hid hb1
  clear c1 hb1 hw hr hX hm hn htt hp hf ht
  cases r with
  | true =>
    go_enter Tryz.func45, Tryz.ntmps45
    go_wp2_with fail
    refine (C1.out _ (HB1.out _)).mono ?_
    rintro e w1 ⟨rfl, hb⟩
    obtain ⟨_, qb, _⟩ := boxA1 hb
    have QB := Lib.hid qb
    clear hb qb
    go_wp2_with fail
    go_ret
    exact ⟨rfl, QB.out⟩
  | false =>
    go_enter Tryz.func45, Tryz.ntmps45
    go_wp2_with fail
    refine (C1.out _ (HB1.out _)).mono ?_
    rintro e w1 ⟨rfl, hb⟩
    obtain ⟨_, qb, _⟩ := boxA1 hb
    have QB := Lib.hid qb
    clear hb qb
    go_wp2_with fail
    go_ret
    exact ⟨rfl, QB.out⟩
theorem madeN_snoc {l : List Opp} {k : Nat} {x : Opp} (hx : l[k]? = some x) : madeN (l.take (k + 1)) = madeN (l.take k) + (if x.kind = 1 then x.lines.length else 0) := by
  rw [take_snoc hx, madeN_app]; simp [madeN]
set_option maxHeartbeats 4000000 in
set_option maxRecDepth 100000 in
theorem pmade_any (p : Pt) (dv ov : Value) (w : World) (hp : PReads w p.note dv ov p) (hl : linesN p.ops ≤ 4611686018427387904) :
    Calls Tryz.prog 50 #[ptV p.note dv ov] w fun e w' => e = .returned (.int .i64 (madeN p.ops : Nat)) ∧ Below w.heap.size w w' := by
  obtain ⟨oa, oc, hov, hon⟩ := hp.ops.form
  subst hov
  have hord := hp.ops
  obtain ⟨t, htt⟩ : ∃ t, t = p.note := ⟨_, rfl⟩
  obtain ⟨n, hnn⟩ : ∃ n, n = p.ops.length := ⟨_, rfl⟩
  obtain ⟨da, dc, hdv, _⟩ := hp.deps.form
  subst hdv
  obtain ⟨m, hm⟩ : ∃ m, m = p.deps.length := ⟨_, rfl⟩
  have hb1 : ∀ o1, Below w.heap.size w (w.alloc o1) := fun o1 => (Below.refl _ _).alloc (Nat.le_refl _) _
  rw [← htt, ← hm]
  rw [← hnn] at hord hon ⊢
  have HN := Lib.hid hnn
  have HO := Lib.hid hord
  have HL := Lib.hid hl
  have HB1 := Lib.hid hb1
  have hml := madeN_le p.ops
  have HML := Lib.hid hml
  clear hnn hord hl hb1 htt hp hm hml
  go_enter Tryz.func50, Tryz.ntmps50
  go_wp2_with fail
  go_loopw [3, 9] (fun v i wr => ∃ k L : Nat, k ≤ n ∧ i = .int .i64 (k : Nat) ∧ v = .int .i64 (L : Nat) ∧ L ≤ 4611686018427387904 ∧ Hid (L = madeN (p.ops.take k)) ∧ Hid (Below w.heap.size w wr)) (fun _ i _ => n - (intOf i).toNat)
  case atStart => exact ⟨0, 0, Nat.zero_le _, rfl, rfl, by omega, Lib.hid (by simp [madeN]), Lib.hid (HB1.out _)⟩
  case round =>
    obtain ⟨k, L, hk, rfl, rfl, hL, HLL, HB⟩ := hrel
    by_cases hlt : k < n
    · obtain ⟨x, hx⟩ : ∃ x, p.ops[k]? = some x := ⟨p.ops[k]'(by rw [← HN.out]; exact hlt), by simp⟩
      obtain ⟨b, o, rfl, hnl, hcl⟩ := HO.out.at hx
      clear hnl
      obtain ⟨lv, d0, d1, d2, d3, d4, d5, d6⟩ := (hcl.below HB.out).2 k x hx
      obtain ⟨la, lc, hlv, hln⟩ := d6.form
      subst hlv
      obtain ⟨N, hN⟩ : ∃ N, N = x.lines.length := ⟨_, rfl⟩
      have hms := madeN_snoc hx
      have hle := madeN_take p.ops (k + 1)
      rw [← hN] at d5 hms
      have hnle : N ≤ 4611686018427387904 := by have h1 := lines_mem (List.mem_of_getElem? hx); have := HL.out; omega
      have HMS := Lib.hid hms
      have HLE := Lib.hid hle
      clear hx hcl d6 hln hN hms hle
      obtain ⟨K, ⟨ax, ay⟩, ⟨bx, bY⟩, ls⟩ := x
      simp only at d0 d1 d2 d3 d4
      by_cases hK : K = 1
      · have hL2 : L + N = madeN (p.ops.take (k + 1)) := by rw [HMS.out, ← HLL.out, if_pos hK]
        have hL3 : L + N ≤ 4611686018427387904 := by have h1 := HLE.out; have h2 := HML.out; have h3 := HL.out; omega
        have HL2 := Lib.hid hL2
        clear hL2
        subst hK
        go_wp2_with fail
        exact ⟨⟨k + 1, L + N, by omega, by go_num, by go_num, hL3, HL2, Lib.hid (HB.out.alloc HB.out.size _)⟩, by simp [intOf]; omega⟩
      · have hL2 : L = madeN (p.ops.take (k + 1)) := by rw [HMS.out, ← HLL.out, if_neg hK, Nat.add_zero]
        have HL2 := Lib.hid hL2
        have e1 := neI hK
        clear hL2 hK
        go_wp2_with fail
        exact ⟨⟨k + 1, L, by omega, by go_num, rfl, hL, HL2, Lib.hid (HB.out.alloc HB.out.size _)⟩, by simp [intOf]; omega⟩
    · have hke : n ≤ k := by omega
      have hL2 : L = madeN p.ops := by have := HLL.out; rwa [List.take_of_length_le (by rw [← HN.out]; exact hke)] at this
      have HL2 := Lib.hid hL2
      clear hL2 hke
      go_wp2
      go_ret
      exact ⟨by rw [← HL2.out]; rfl, HB.out⟩
end Go.Proofs.YtojnagonhihknaaGreatDoor
