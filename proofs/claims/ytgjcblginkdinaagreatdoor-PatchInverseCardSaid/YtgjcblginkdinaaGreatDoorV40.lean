/- Sorted texts without their doubles: mathematics alone. The contracts of the document's Write, Name, Place and Commute. -/
import Derived.Test.YtgjcblginkdinaaGreatDoorV31
import Derived.Test.YtgjcblginkdinaaGreatDoorV36
import Derived.Test.YtgjcblginkdinaaGreatDoorV39
set_option linter.unusedVariables false
namespace Go.Proofs.YtgjcblginkdinaaGreatDoor

abbrev Bs := List UInt8
theorem bs_total (a b : Bs) : a ≤ b ∨ b ≤ a := List.le_total a b
theorem bs_trans {a b c : Bs} (h : a ≤ b) (k : b ≤ c) : a ≤ c := List.le_trans h k
theorem bs_antisymm {a b : Bs} (h : a ≤ b) (k : b ≤ a) : a = b := List.le_antisymm h k
theorem bs_lt {a b : Bs} : a < b ↔ a ≤ b ∧ a ≠ b := by
  constructor
  · intro h
    exact ⟨List.le_of_lt h, fun e => by subst e; exact List.lt_irrefl _ h⟩
  · rintro ⟨h, e⟩
    rcases Classical.em (a < b) with k | k
    · exact k
    · exact absurd (bs_antisymm h (List.not_lt.1 k)) e
theorem bs_lt_trans {a b c : Bs} (h : a < b) (k : b < c) : a < c := List.lt_trans h k

def Asc (l : List Bs) : Prop := l.Pairwise (· < ·)
theorem asc_unique : ∀ {l m : List Bs}, Asc l → Asc m → (∀ x, x ∈ l ↔ x ∈ m) → l = m
  | [], [], _, _, _ => rfl
  | [], y :: m, _, _, h => by have := (h y).2 (by simp); cases this
  | x :: l, [], _, _, h => by have := (h x).1 (by simp); cases this
  | x :: l, y :: m, hl, hm, h => by
    have hl' := List.pairwise_cons.1 hl
    have hm' := List.pairwise_cons.1 hm
    have e : x = y := by
      rcases List.mem_cons.1 ((h x).1 (by simp)) with e | hx
      · exact e
      · rcases List.mem_cons.1 ((h y).2 (by simp)) with e | hy
        · exact e.symm
        · exact absurd (bs_lt_trans (hl'.1 y hy) (hm'.1 x hx)) (List.lt_irrefl _)
    subst e
    rw [asc_unique hl'.2 hm'.2 fun z => ?_]
    constructor
    · intro hz
      rcases List.mem_cons.1 ((h z).1 (by simp [hz])) with e | k
      · exact absurd (e ▸ hl'.1 z hz) (List.lt_irrefl _)
      · exact k
    · intro hz
      rcases List.mem_cons.1 ((h z).2 (by simp [hz])) with e | k
      · exact absurd (e ▸ hm'.1 z hz) (List.lt_irrefl _)
      · exact k

theorem eq_nil_or_snoc {α : Type} (l : List α) : l = [] ∨ ∃ ys y, l = ys ++ [y] := by
  rcases List.eq_nil_or_concat l with h | ⟨ys, y, h⟩
  · exact .inl h
  · exact .inr ⟨ys, y, by rw [h, List.concat_eq_append]⟩
theorem keeps_snoc (zs : List Bs) (z : Bs) (j : Nat) (h : j < zs.length) : Lib.keeps (zs ++ [z]).toArray j = Lib.keeps zs.toArray j := by
  unfold Lib.keeps
  rw [getElem!_pos (zs ++ [z]).toArray j (by simp; omega), getElem!_pos zs.toArray j (by simpa using h)]
  rw [getElem!_pos (zs ++ [z]).toArray (j - 1) (by simp; omega), getElem!_pos zs.toArray (j - 1) (by simp; omega)]
  simp only [List.getElem_toArray, List.getElem_append_left h, List.getElem_append_left (show j - 1 < zs.length by omega)]
theorem upTo_snoc (zs : List Bs) (z : Bs) : ∀ m, m ≤ zs.length → Lib.compactUpTo (zs ++ [z]).toArray m = Lib.compactUpTo zs.toArray m
  | 0, _ => rfl
  | m + 1, h => by
    rw [Lib.compactUpTo_succ, Lib.compactUpTo_succ, upTo_snoc zs z m (by omega), keeps_snoc zs z m (by omega)]
    rw [getElem!_pos (zs ++ [z]).toArray m (by simp; omega), getElem!_pos zs.toArray m (by simp; omega)]
    simp only [List.getElem_toArray, List.getElem_append_left (show m < zs.length by omega)]
theorem compact_snoc (zs : List Bs) (z : Bs) : Lib.compact (zs ++ [z]) = Lib.compact zs ++ (if zs.getLast? = some z then [] else [z]) := by
  unfold Lib.compact
  rw [List.length_append, List.length_singleton, Lib.compactUpTo_succ, upTo_snoc zs z _ (Nat.le_refl _)]
  congr 1
  have e : (zs ++ [z]).toArray[zs.length]! = z := by rw [getElem!_pos _ _ (by simp)]; simp
  rw [e]
  rcases eq_nil_or_snoc zs with rfl | ⟨ys, y, rfl⟩
  · simp [Lib.keeps]
  · have e2 : (ys ++ [y] ++ [z]).toArray[(ys ++ [y]).length - 1]! = y := by rw [getElem!_pos _ _ (by simp)]; simp
    have e1 : (ys ++ [y] ++ [z]).toArray[(ys ++ [y]).length]! = z := e
    unfold Lib.keeps
    rw [e1, e2, List.getLast?_concat]
    by_cases k : z = y
    · subst k; simp
    · have k' : ¬ y = z := fun e => k e.symm
      simp [k, k']
theorem compact_sorted (zs : List Bs) (h : zs.Pairwise (· ≤ ·)) : Asc (Lib.compact zs) ∧ ∀ x, x ∈ Lib.compact zs ↔ x ∈ zs := by
  induction hn : zs.length generalizing zs with
  | zero =>
    obtain rfl : zs = [] := List.length_eq_zero_iff.1 hn
    exact ⟨List.Pairwise.nil, fun x => Iff.rfl⟩
  | succ n ih =>
    rcases eq_nil_or_snoc zs with rfl | ⟨ys, y, rfl⟩
    · cases hn
    · have hp := List.pairwise_append.1 h
      have hl : ys.length = n := by simpa using hn
      obtain ⟨ha, hm⟩ := ih ys hp.1 hl
      rw [compact_snoc]
      split
      · rename_i e
        rw [List.append_nil]
        refine ⟨ha, fun x => ?_⟩
        rw [hm, List.mem_append, List.mem_singleton]
        refine ⟨.inl, ?_⟩
        rintro (k | rfl)
        · exact k
        · exact List.mem_of_getLast? e
      · rename_i e
        refine ⟨List.pairwise_append.2 ⟨ha, List.pairwise_singleton _ _, fun a hx b hb => ?_⟩, fun x => ?_⟩
        · rw [List.mem_singleton] at hb
          subst hb
          refine bs_lt.2 ⟨hp.2.2 a ((hm a).1 hx) b (by simp), fun k => ?_⟩
          subst k
          have hx' := (hm a).1 hx
          rcases eq_nil_or_snoc ys with rfl | ⟨ws, v, rfl⟩
          · cases hx'
          · have hv : a ≤ v := by
              rcases List.mem_append.1 hx' with k | k
              · exact (List.pairwise_append.1 hp.1).2.2 a k v (by simp)
              · rw [List.mem_singleton] at k; subst k; exact List.le_refl _
            have hv2 := hp.2.2 v (by simp) a (by simp)
            exact e (by rw [List.getLast?_concat, bs_antisymm hv2 hv])
        · rw [List.mem_append, List.mem_append, hm]

theorem sort_pairwise (l : List Bs) : (l.mergeSort fun x y => decide (x ≤ y)).Pairwise (· ≤ ·) := by
  have h := List.pairwise_mergeSort (le := fun x y : Bs => decide (x ≤ y)) (fun a b c h k => by simp only [decide_eq_true_eq] at *; exact bs_trans h k) (fun a b => by
    rcases bs_total a b with h | h <;> simp [h]) l
  exact h.imp (fun h => by simpa using h)
theorem tx_list (l : List UInt8) : (tx l).data.toList = l := tx_toList l
theorem needs_spec (p : Pt) (nm : ByteArray) : Asc ((needsL p nm).map fun s => s.data.toList) ∧ ∀ x, x ∈ needsL p nm ↔ x ∈ needRaw p nm := by
  obtain ⟨h1, h2⟩ := compact_sorted _ (sort_pairwise ((needRaw p nm).map fun s => s.data.toList))
  refine ⟨?_, fun x => ?_⟩
  · unfold needsL
    rw [List.map_map]
    have : ((fun s : ByteArray => s.data.toList) ∘ tx) = id := by funext l; exact tx_list l
    rw [this, List.map_id]
    exact h1
  · unfold needsL
    rw [List.mem_map]
    constructor
    · rintro ⟨l, hl, rfl⟩
      have := (h2 l).1 hl
      rw [List.mem_mergeSort, List.mem_map] at this
      obtain ⟨s, hs, rfl⟩ := this
      rw [tx_data]; exact hs
    · intro hx
      refine ⟨x.data.toList, (h2 _).2 ?_, tx_data x⟩
      rw [List.mem_mergeSort]
      exact List.mem_map.2 ⟨x, hx, rfl⟩
theorem needs_len (p : Pt) (nm : ByteArray) : (needsL p nm).length ≤ 1 + 2 * p.ops.length := by
  unfold needsL
  rw [List.length_map]
  refine Nat.le_trans (Lib.compact_length_le _) ?_
  rw [List.length_mergeSort, List.length_map, needRaw, List.length_cons]
  have := needOps_len p.deps p.ops
  omega
theorem need_mem (p : Pt) (nm x : ByteArray) (h : x ∈ needRaw p nm) : x = nm ∨ x = ByteArray.empty ∨ x ∈ p.deps := by
  unfold needRaw at h
  rcases List.mem_cons.1 h with h | h
  · exact .inl h
  · right
    obtain ⟨z, _, h⟩ := List.mem_flatMap.1 h
    unfold needRs at h
    obtain ⟨r, _, h⟩ := List.mem_flatMap.1 h
    unfold takeD at h
    split at h
    · rw [List.mem_singleton] at h
      subst h
      rw [List.getD_eq_getElem?_getD]
      cases e : p.deps[r.at_.toNat]? with
      | none => left; rfl
      | some y => right; exact List.mem_of_getElem? e
    · cases h
theorem idx_bounds : ∀ (l : Lb) (x : ByteArray), -1 ≤ Lib.idxOfS l x ∧ Lib.idxOfS l x < l.length := by
  have gen : ∀ (l : Lb) (x : ByteArray) (i : Nat), -1 ≤ Lib.idxFromS l x i ∧ Lib.idxFromS l x i < (i : Int) + l.length := by
    intro l x
    induction l with
    | nil => intro i; simp [Lib.idxFromS]; omega
    | cons z r ih =>
      intro i
      unfold Lib.idxFromS
      split
      · rw [List.length_cons]; omega
      · have := ih (i + 1)
        rw [List.length_cons]
        omega
  intro l x
  have := gen l x 0
  unfold Lib.idxOfS
  omega
end Go.Proofs.YtgjcblginkdinaaGreatDoor
set_option linter.unusedVariables false
namespace Go.Proofs.YtgjcblginkdinaaGreatDoor
open Go.ChangeShapes Go.WideShapes Go.ChangeAt Go.RowKit

theorem right_sound6 {p : Pt} (h : rightP p = true) : soundB p = true := by unfold rightP at h; simp only [Bool.and_eq_true] at h; exact h.1

set_option maxHeartbeats 4000000 in
set_option maxRecDepth 100000 in
theorem rpwrite_any (p : Pt) (dv ov : Value) (w : World) (hp : PReads w p.note dv ov p) (hf : p.fine) (hln : linesN p.ops ≤ 4611686018427387904) :
    Calls Tryz.prog 11 #[ptV p.note dv ov] w fun e w' => e = .returned (.tuple #[.string (tx (bytesP p)), .int .i64 (errP p)]) ∧ Below w.heap.size w w' := by
  obtain ⟨da, dc, hdv, _⟩ := hp.deps.form
  obtain ⟨oa, oc, hov, _⟩ := hp.ops.form
  subst hdv
  subst hov
  obtain ⟨m, hm⟩ : ∃ m, m = p.deps.length := ⟨_, rfl⟩
  obtain ⟨n, hn⟩ : ∃ n, n = p.ops.length := ⟨_, rfl⟩
  obtain ⟨t, htt⟩ : ∃ t, t = p.note := ⟨_, rfl⟩
  have hb1 : ∀ o1, Below w.heap.size w (w.alloc o1) := fun o1 => (Below.refl _ _).alloc (Nat.le_refl _) _
  have c1 : ∀ wz, Below w.heap.size w wz → Calls Tryz.prog 32 #[ptV t (.slice da m dc) (.slice oa n oc)] wz fun e w' => e = .returned (.bool (rightP p)) ∧ Below wz.heap.size wz w' := fun wz hz => by
    rw [htt, hm, hn]; exact rright_any5 p _ _ wz (hp.below hz) hf hln
  obtain ⟨R, hR⟩ : ∃ R, R = rightP p := ⟨_, rfl⟩
  have c2 : R = true → ∀ wz, Below w.heap.size w wz → Calls Tryz.prog 34 #[ptV t (.slice da m dc) (.slice oa n oc)] wz fun e w' => ∃ v, e = .returned v ∧ IsV (fun i => wz.heap.size ≤ i) w' v (ptT p) ∧ Below wz.heap.size wz w' := fun hs wz hz => by
    obtain ⟨_, h2, h3, h4⟩ := sound_parts (right_sound6 (hR.symm.trans hs))
    rw [htt, hm, hn]; exact rform_any _ p _ _ wz (hp.below hz) hf h3 h2 h4 (fun i hi => hi)
  have c3 : R = true → ∀ v Z wz, IsV Z wz v (ptT p) → Calls Tryz.prog 33 #[v] wz fun e w' => e = .returned (.tuple #[.string (tx (bytesP p)), .int .i64 0]) ∧ Below wz.heap.size wz w' := fun hs v Z wz hv => by
    have hr : rightP p = true := hR.symm.trans hs
    have hso := right_sound6 hr
    obtain ⟨s1, h2, h3, h4⟩ := sound_parts hso
    unfold soundB at hso
    simp only [Bool.and_eq_true] at hso
    have hop := (opsB_iff _ _ 0 (by omega)).1 hso.2
    have hri := risB_iff.1 hso.1.2
    have htx := ptT_texts (p := p) hf.wf s1 (fun x hx => by
      obtain ⟨j, hj⟩ := List.mem_iff_getElem?.1 hx
      exact rightL_size ((hri.2 j (List.getElem?_eq_some_iff.1 hj).1 x hj).1)) (fun z hz => by
      obtain ⟨m', hm'⟩ := opsR_mem _ _ hop.1 z hz
      exact opR_sizes hm')
    have htx2 : (ptT p).texts ≤ 100000000000 := by omega
    have hpt2 : (ptT p).parts ≤ 1000000000 := by rw [ptT_parts]; omega
    have hf1 : fits (ptT p) = true := by
      rw [fits_iff]
      unfold rightP at hr
      simp only [Bool.and_eq_true] at hr
      exact hr.2
    have e1 : wrN (ptT p) = 0 := by unfold wrN; rw [ptT_ok, hf1]; rfl
    have e2 : wrS (ptT p) = bytesP p := by unfold wrS bytesP; rw [ptT_ok, hf1, hr]; rfl
    rw [← e1, ← e2]
    obtain ⟨l', t', ys, a', n', c', rfl, rfl, hT, hts', hsl⟩ := hv
    rw [hT] at hpt2 htx2 ⊢
    exact rwrite_any l' t' ys Z wz a' c' hsl.sl hts' ⟨hpt2, htx2⟩
  rw [← hm, ← hn, ← htt]
  rw [← hR] at c1
  have he : errP p = if R then 0 else 10 := by unfold errP; rw [← hR]
  have hbn : R = false → bytesP p = [] := fun h => by unfold bytesP; rw [← hR, h]; rfl
  rw [he]
  obtain ⟨X, hX⟩ : ∃ X, X = bytesP p := ⟨_, rfl⟩
  rw [← hX] at c3 hbn ⊢
  have C1 := Lib.hid c1
  have C2 := Lib.hid c2
  have C3 := Lib.hid c3
  have HB1 := Lib.hid hb1
  have HBN := Lib.hid hbn
  clear c1 c2 c3 hb1 hm hn htt hp hf hR he hX hbn hln
  cases R with
  | false =>
    have hx := HBN.out rfl
    rw [hx]
    go_enter Tryz.func11, Tryz.ntmps11
    go_wp2_with fail
    refine (C1.out _ (HB1.out _)).mono ?_
    rintro e w1 ⟨rfl, hb⟩
    obtain ⟨_, qb, _⟩ := boxA1 hb
    have QB := Lib.hid qb
    clear hb qb
    go_wp2_with fail
    go_ret2
    exact ⟨rfl, QB.out⟩
  | true =>
    have HC2 := Lib.hid (C2.out rfl)
    have HC3 := Lib.hid (C3.out rfl)
    clear C2 C3 HBN
    go_enter Tryz.func11, Tryz.ntmps11
    go_wp2_with fail
    refine (C1.out _ (HB1.out _)).mono ?_
    rintro e w1 ⟨rfl, hb⟩
    obtain ⟨q1, qb, _⟩ := boxA1 hb
    have q10 := (q1 0).trans rfl
    have q11 := (q1 1).trans rfl
    have q12 := (q1 2).trans rfl
    have QB := Lib.hid qb
    clear hb qb q1
    go_wp2_with fail
    refine (HC2.out _ QB.out).mono ?_
    rintro e w2 ⟨v, rfl, hv, hb2⟩
    have QB2 := Lib.hid (QB.out.trans (hb2.mono QB.out.size))
    clear hb2
    go_wp2_with fail
    refine (HC3.out v _ _ hv).mono ?_
    rintro e w3 ⟨rfl, hb3⟩
    have QB3 := Lib.hid (QB2.out.trans (hb3.mono QB2.out.size))
    clear hb3
    go_wp2_with fail
    go_ret2
    exact ⟨rfl, QB3.out⟩

set_option maxHeartbeats 2000000 in
set_option maxRecDepth 100000 in
theorem rpname_any (p : Pt) (dv ov : Value) (w : World) (hp : PReads w p.note dv ov p) (hf : p.fine) (hln : linesN p.ops ≤ 4611686018427387904) :
    Calls Tryz.prog 13 #[ptV p.note dv ov] w fun e w' => e = .returned (.tuple #[.string (tx (nameP p)), .int .i64 (errP p)]) ∧ Below w.heap.size w w' := by
  have hb1 : ∀ o1, Below w.heap.size w (w.alloc o1) := fun o1 => (Below.refl _ _).alloc (Nat.le_refl _) _
  obtain ⟨da, dc, hdv, _⟩ := hp.deps.form
  obtain ⟨oa, oc, hov, _⟩ := hp.ops.form
  subst hdv
  subst hov
  obtain ⟨m, hm⟩ : ∃ m, m = p.deps.length := ⟨_, rfl⟩
  obtain ⟨n, hn⟩ : ∃ n, n = p.ops.length := ⟨_, rfl⟩
  have c1 : ∀ wz, Below w.heap.size w wz → Calls Tryz.prog 11 #[ptV p.note (.slice da m dc) (.slice oa n oc)] wz fun e w' => e = .returned (.tuple #[.string (tx (bytesP p)), .int .i64 (errP p)]) ∧ Below wz.heap.size wz w' := fun wz hz => by
    rw [hm, hn]; exact rpwrite_any p _ _ wz (hp.below hz) hf hln
  have c2 : ∀ wz, Calls Tryz.prog 37 #[.string (tx (bytesP p))] wz fun e w' => e = .returned (.string (tx (sumL (bytesP p)))) ∧ Below wz.heap.size wz w' := fun wz => by
    have h := rsum_any (tx (bytesP p)) wz (by rw [ba_tx]; have := bytesP_len p; omega)
    rw [tx_toList] at h
    unfold sumL
    rw [sha_same]
    exact h
  have c3 : ∀ wz, Calls Tryz.prog 36 #[.string (tx (sumL (bytesP p)))] wz fun e w' => e = .returned (.string (tx (hexL (sumL (bytesP p))))) ∧ Below wz.heap.size wz w' := fun wz => by
    have h := rhex_any (tx (sumL (bytesP p))) wz (by rw [ba_tx, sumL_len]; decide)
    rw [tx_toList] at h
    exact h
  rw [← hm, ← hn]
  obtain ⟨t, htt⟩ : ∃ t, t = p.note := ⟨_, rfl⟩
  rw [← htt] at c1 ⊢
  obtain ⟨r, hr⟩ : ∃ r, r = rightP p := ⟨_, rfl⟩
  have hw : errP p = if r then 0 else 10 := by unfold errP; rw [← hr]
  have hnm : nameP p = if r then hexL (sumL (bytesP p)) else [] := by
    unfold nameP nameL bytesP
    rw [← hr]
    cases r <;> simp only [if_true, if_false, Bool.false_eq_true]
  rw [hw] at c1
  rw [hw, hnm]
  obtain ⟨X, hX⟩ : ∃ X, X = bytesP p := ⟨_, rfl⟩
  rw [← hX] at c1 c2 c3 ⊢
  obtain ⟨Y, hY⟩ : ∃ Y, Y = sumL X := ⟨_, rfl⟩
  rw [← hY] at c2 c3 ⊢
  have C1 := Lib.hid c1
  have C2 := Lib.hid c2
  have C3 := Lib.hid c3
  have HB1 := Lib.hid hb1
  clear c1 c2 c3 hb1 hw hr hX hY hm hn htt hp hf hln hnm
  cases r with
  | true =>
    go_enter Tryz.func13, Tryz.ntmps13
    go_wp2_with fail
    refine (C1.out _ (HB1.out _)).mono ?_
    rintro e w1 ⟨rfl, hb⟩
    obtain ⟨_, qb, _⟩ := boxA1 hb
    have QB := Lib.hid qb
    clear hb qb
    go_wp2_with fail
    refine (C2.out _).mono ?_
    rintro e w2 ⟨rfl, hb⟩
    have QB2 := Lib.hid (QB.out.trans (hb.mono QB.out.size))
    clear hb
    go_wp2_with fail
    refine (C3.out _).mono ?_
    rintro e w3 ⟨rfl, hb⟩
    have QB3 := Lib.hid (QB2.out.trans (hb.mono QB2.out.size))
    clear hb
    go_wp2_with fail
    go_ret2
    exact ⟨rfl, QB3.out⟩
  | false =>
    go_enter Tryz.func13, Tryz.ntmps13
    go_wp2_with fail
    refine (C1.out _ (HB1.out _)).mono ?_
    rintro e w1 ⟨rfl, hb⟩
    obtain ⟨_, qb, _⟩ := boxA1 hb
    have QB := Lib.hid qb
    clear hb qb
    go_wp2_with fail
    go_ret2
    exact ⟨rfl, QB.out⟩

theorem getD_of {ls : Lb} {k : Nat} {x : ByteArray} (h : ls[k]? = some x) : ls.getD k ByteArray.empty = x := by rw [List.getD_eq_getElem?_getD, h]; rfl
theorem idx_hit {ls : Lb} {k : Nat} {x : ByteArray} (h : ls[k]? = some x) (hn : ∀ j, j < k → ls[j]? ≠ some x) : Lib.idxOfS ls x = k := by
  have hk := (List.getElem?_eq_some_iff.1 h).1
  have := Lib.idxOfS_hit ls ls.length k x hk (Nat.le_refl _) (getD_of h) (fun j hj e => hn j hj (by
    have hj' : j < ls.length := by omega
    rw [List.getElem?_eq_getElem hj']
    rw [List.getD_eq_getElem?_getD, List.getElem?_eq_getElem hj'] at e
    exact congrArg some e))
  rwa [List.take_length] at this
theorem idx_miss {ls : Lb} {x : ByteArray} (hn : ∀ j, j < ls.length → ls[j]? ≠ some x) : Lib.idxOfS ls x = -1 := by
  have := Lib.idxOfS_miss ls ls.length x (fun j hj e => hn j hj (by
    rw [List.getElem?_eq_getElem hj]
    rw [List.getD_eq_getElem?_getD, List.getElem?_eq_getElem hj] at e
    exact congrArg some e))
  rwa [List.take_length] at this

set_option maxHeartbeats 2000000 in
set_option maxRecDepth 100000 in
theorem rplace_any (ls : Lb) (v : Value) (x : ByteArray) (w : World) (hr : Reads w v ls) :
    Calls Tryz.prog 25 #[v, .string x] w fun e w' => e = .returned (.int .i64 (Lib.idxOfS ls x)) ∧ Below w.heap.size w w' := by
  obtain ⟨a, c, rfl, hn⟩ := hr.form
  obtain ⟨n, hnn⟩ : ∃ n, n = ls.length := ⟨_, rfl⟩
  rw [← hnn] at hr hn ⊢
  have HN := Lib.hid hnn
  have HR := Lib.hid hr
  clear hnn hr
  go_enter Tryz.func25, Tryz.ntmps25
  go_wp2_with fail
  go_loopw [5] (fun i wr => ∃ k : Nat, k ≤ n ∧ i = .int .i64 (k : Nat) ∧ Hid (Below w.heap.size w wr) ∧ Hid (∀ j, j < k → ls[j]? ≠ some x)) (fun i _ => n - (intOf i).toNat)
  case atStart => exact ⟨0, Nat.zero_le _, rfl, Lib.hid (Below.refl _ _), Lib.hid fun j hj => absurd hj (Nat.not_lt_zero _)⟩
  case round =>
    obtain ⟨k, hk, rfl, HB, HA⟩ := hrel
    by_cases hlt : k < n
    · obtain ⟨y, hy⟩ : ∃ y, ls[k]? = some y := ⟨ls[k]'(by rw [← HN.out]; exact hlt), by simp⟩
      obtain ⟨b, o, rfl, hnl, hcl⟩ := HR.out.at hy
      clear hnl
      have hcell := (hcl.below HB.out).2 k y hy
      by_cases he : y = x
      · have HI := Lib.hid (idx_hit (x := x) (by rw [hy, he]) HA.out)
        subst he
        clear hy hcl
        go_wp2_with fail
        go_ret
        rw [HI.out]
        exact ⟨rfl, HB.out⟩
      · have HS : Hid (∀ j, j < k + 1 → ls[j]? ≠ some x) := Lib.hid (fun j hj => by
          by_cases e : j = k
          · subst e; rw [hy]; exact fun e => he (Option.some.inj e)
          · exact HA.out j (by omega))
        have e1 : (y.toList == x.toList) = false := by
          rw [beq_eq_false_iff_ne]
          intro e
          apply he
          rw [ByteArray.toList_eq, ByteArray.toList_eq] at e
          rw [← tx_data y, ← tx_data x, e]
        clear hy hcl he
        go_wp2_with fail
        exact ⟨⟨k + 1, by omega, by go_num, HB, HS⟩, by simp [intOf]; omega⟩
    · have HI := Lib.hid (idx_miss (ls := ls) (x := x) (fun j hj => HA.out j (by have := HN.out; omega)))
      go_wp2_with fail
      go_ret
      rw [HI.out]
      exact ⟨rfl, HB.out⟩

end Go.Proofs.YtgjcblginkdinaaGreatDoor
