/- A name put into its place among rising names; which names an inverse needs, as the document gathers them. Mathematics alone. The contract of the document's Add. -/
import Derived.Test.YtgjcblginkdinaaGreatDoorV29
import Derived.Test.YtgjcblginkdinaaGreatDoorV40
set_option linter.unusedVariables false
namespace Go.Proofs.YtgjcblginkdinaaGreatDoor

def stepA (x : ByteArray) (st : Lb × Bool) (y : ByteArray) : Lb × Bool :=
  if st.2 = false ∧ x.data.toList < y.data.toList then (st.1 ++ [x] ++ [y], true) else (st.1 ++ [y], st.2)
def runA (x : ByteArray) (l : Lb) : Lb × Bool := l.foldl (stepA x) ([], false)
def addB (l : Lb) (x : ByteArray) : Lb := if 0 ≤ Lib.idxOfS l x then l else if (runA x l).2 then (runA x l).1 else (runA x l).1 ++ [x]

theorem runA_snoc (x : ByteArray) (l : Lb) (y : ByteArray) : runA x (l ++ [y]) = stepA x (runA x l) y := by simp [runA, List.foldl_append]
theorem runA_take {x : ByteArray} {l : Lb} {k : Nat} {y : ByteArray} (h : l[k]? = some y) : runA x (l.take (k + 1)) = stepA x (runA x (l.take k)) y := by
  rw [List.take_add_one, h]; exact runA_snoc x _ y

def AInv (x : ByteArray) (l : Lb) (st : Lb × Bool) : Prop :=
  (st.2 = false ∧ st.1 = l ∧ ∀ y ∈ l, ¬ x.data.toList < y.data.toList) ∨
  (st.2 = true ∧ ∃ a h t, l = a ++ h :: t ∧ st.1 = a ++ x :: h :: t ∧ (∀ y ∈ a, ¬ x.data.toList < y.data.toList) ∧ x.data.toList < h.data.toList)
theorem runA_inv (x : ByteArray) : ∀ (n : Nat) (l : Lb), l.length = n → AInv x l (runA x l)
  | 0, l, h => by
    obtain rfl := List.length_eq_zero_iff.1 h
    exact .inl ⟨rfl, rfl, by simp⟩
  | n + 1, l, h => by
    rcases eq_nil_or_snoc l with rfl | ⟨ys, y, rfl⟩
    · simp at h
    · have ih := runA_inv x n ys (by simpa using h)
      rw [runA_snoc]
      generalize runA x ys = st at ih
      obtain ⟨o, d⟩ := st
      rcases ih with ⟨hd, ho, hn⟩ | ⟨hd, a, hh, t, hl, ho, hn, hx⟩
      · simp only at hd ho
        subst hd; subst ho
        by_cases hxy : x.data.toList < y.data.toList
        · unfold stepA
          rw [if_pos ⟨rfl, hxy⟩]
          exact .inr ⟨rfl, o, y, [], rfl, by simp, hn, hxy⟩
        · unfold stepA
          rw [if_neg (fun k => hxy k.2)]
          refine .inl ⟨rfl, rfl, fun z hz => ?_⟩
          rcases List.mem_append.1 hz with hz | hz
          · exact hn z hz
          · rw [List.mem_singleton] at hz; subst hz; exact hxy
      · simp only at hd ho
        subst hd; subst ho; subst hl
        unfold stepA
        rw [if_neg (by simp)]
        exact .inr ⟨rfl, a, hh, t ++ [y], by simp, by simp, hn, hx⟩

theorem runA_len (x : ByteArray) (l : Lb) : (runA x l).1.length = l.length + (if (runA x l).2 then 1 else 0) := by
  rcases runA_inv x l.length l rfl with ⟨hd, ho, _⟩ | ⟨hd, a, h, t, hl, ho, _, _⟩
  · rw [hd, ho]; simp
  · rw [hd, ho, hl]; simp; omega
theorem addB_len (l : Lb) (x : ByteArray) : (addB l x).length ≤ l.length + 1 := by
  unfold addB
  have := runA_len x l
  split
  · omega
  · split
    · rename_i h; rw [h] at this; simp at this; omega
    · rename_i h; rw [if_neg h] at this; simp; omega

abbrev AscB (l : Lb) : Prop := Asc (l.map fun s => s.data.toList)
theorem idx_mem {l : Lb} {x : ByteArray} : 0 ≤ Lib.idxOfS l x ↔ x ∈ l := by
  constructor
  · intro h
    apply Classical.byContradiction
    intro hn
    have := idx_miss (ls := l) (x := x) (fun j hj e => hn (List.mem_of_getElem? e))
    omega
  · intro h
    obtain ⟨n, hn⟩ : ∃ n, n = l.findIdx? (fun y => decide (y = x)) := ⟨_, rfl⟩
    cases n with
    | none =>
      have := (List.findIdx?_eq_none_iff.1 hn.symm) x h
      simp at this
    | some k =>
      rw [eq_comm, List.findIdx?_eq_some_iff_getElem] at hn
      obtain ⟨hk, h1, h2⟩ := hn
      rw [idx_hit (ls := l) (x := x) (k := k) (by rw [List.getElem?_eq_getElem hk]; exact congrArg some (of_decide_eq_true h1)) (fun j hj e => by
        have hjl : j < l.length := by omega
        have := h2 j hj
        rw [List.getElem?_eq_getElem hjl] at e
        injection e with e
        simp [e] at this)]
      omega
theorem data_ne {x y : ByteArray} (h : x ≠ y) : x.data.toList ≠ y.data.toList := fun e => h (by rw [← tx_data x, ← tx_data y, e])
theorem lt_of_not {x y : ByteArray} (h : ¬ x.data.toList < y.data.toList) (hn : x ≠ y) : y.data.toList < x.data.toList := by
  refine bs_lt.2 ⟨List.not_lt.1 h, fun e => data_ne hn e.symm⟩
theorem addB_mem (l : Lb) (x y : ByteArray) : y ∈ addB l x ↔ y = x ∨ y ∈ l := by
  unfold addB
  split
  · rename_i h
    have := idx_mem.1 h
    constructor
    · exact .inr
    · rintro (rfl | h)
      · exact this
      · exact h
  · rcases runA_inv x l.length l rfl with ⟨hd, ho, _⟩ | ⟨hd, a, h, t, hl, ho, _, _⟩
    · rw [hd, ho]; simp [or_comm]
    · rw [hd, ho, hl]
      simp only [if_true, List.mem_append, List.mem_cons]
      constructor
      · rintro (h | rfl | h)
        · exact .inr (.inl h)
        · exact .inl rfl
        · exact .inr (.inr h)
      · rintro (rfl | h | h)
        · exact .inr (.inl rfl)
        · exact .inl h
        · exact .inr (.inr h)
theorem addB_asc {l : Lb} (x : ByteArray) (h : AscB l) : AscB (addB l x) := by
  unfold addB
  split
  · exact h
  · rename_i hx
    have hne : ∀ y ∈ l, x ≠ y := fun y hy e => hx (idx_mem.2 (e ▸ hy))
    rcases runA_inv x l.length l rfl with ⟨hd, ho, hn⟩ | ⟨hd, a, hh, t, hl, ho, hn, hlt⟩
    · rw [hd, ho]
      simp only [Bool.false_eq_true, if_false]
      unfold AscB Asc at *
      rw [List.map_append, List.pairwise_append]
      refine ⟨h, by simp, fun u hu v hv => ?_⟩
      obtain ⟨y, hy, rfl⟩ := List.mem_map.1 hu
      simp only [List.map_cons, List.map_nil, List.mem_singleton] at hv
      subst hv
      exact lt_of_not (hn y hy) (hne y hy)
    · rw [hd, ho]
      subst hl
      simp only [if_true]
      unfold AscB Asc at *
      rw [List.map_append, List.pairwise_append, List.map_cons] at h ⊢
      obtain ⟨h1, h2, h3⟩ := h
      rw [List.pairwise_cons] at h2
      refine ⟨h1, ?_, fun u hu v hv => ?_⟩
      · rw [List.pairwise_cons]
        refine ⟨fun v hv => ?_, ?_⟩
        · rw [List.map_cons, List.mem_cons] at hv
          rcases hv with rfl | hv
          · exact hlt
          · exact bs_lt_trans hlt (h2.1 v hv)
        · rw [List.map_cons, List.pairwise_cons]; exact h2
      · rw [List.mem_cons] at hv
        rcases hv with rfl | hv
        · obtain ⟨y, hy, rfl⟩ := List.mem_map.1 hu
          exact lt_of_not (hn y hy) (hne y (by simp [hy]))
        · exact h3 u hu v (by simpa using hv)

theorem ascB_unique {l m : Lb} (h1 : AscB l) (h2 : AscB m) (h : ∀ x, x ∈ l ↔ x ∈ m) : l = m := by
  have := asc_unique h1 h2 (fun x => by
    simp only [List.mem_map]
    constructor
    · rintro ⟨y, hy, rfl⟩; exact ⟨y, (h y).1 hy, rfl⟩
    · rintro ⟨y, hy, rfl⟩; exact ⟨y, (h y).2 hy, rfl⟩)
  exact map_inj_on (fun s : ByteArray => s.data.toList) (fun _ => True) (fun x y _ _ e => by
    rw [← tx_data x, ← tx_data y]; exact congrArg tx e) l m (fun _ _ => trivial) (fun _ _ => trivial) this

def addO (deps : Lb) (acc : Lb) (o : Opp) : Lb :=
  let a1 := if o.kind ≠ 1 ∧ 0 ≤ o.a.at_ then addB acc (deps.getD o.a.at_.toNat ByteArray.empty) else acc
  if (o.kind = 2 ∨ o.kind = 3) ∧ 0 ≤ o.b.at_ then addB a1 (deps.getD o.b.at_.toNat ByteArray.empty) else a1
def needF (deps : Lb) (nm : ByteArray) (ops : List Opp) : Lb := ops.foldl (addO deps) [nm]

theorem addA_asc {acc : Lb} (c : Prop) [Decidable c] (x : ByteArray) (h : AscB acc) : AscB (if c then addB acc x else acc) := by
  split
  · exact addB_asc _ h
  · exact h
theorem addA_len (acc : Lb) (c : Prop) [Decidable c] (x : ByteArray) : (if c then addB acc x else acc).length ≤ acc.length + 1 := by
  split
  · exact addB_len _ _
  · omega
theorem addO_asc {deps acc : Lb} (o : Opp) (h : AscB acc) : AscB (addO deps acc o) := addA_asc _ _ (addA_asc _ _ h)
theorem addO_len (deps acc : Lb) (o : Opp) : (addO deps acc o).length ≤ acc.length + 2 :=
  Nat.le_trans (addA_len _ _ _) (Nat.succ_le_succ (addA_len _ _ _))
theorem addO_mem (deps acc : Lb) (o : Opp) (hk : o.kind = 1 ∨ o.kind = 2 ∨ o.kind = 3 ∨ o.kind = 4 ∨ o.kind = 5) (x : ByteArray) : x ∈ addO deps acc o ↔ x ∈ acc ∨ x ∈ needRs deps o := by
  unfold addO needRs namedR takeD
  rcases hk with hk | hk | hk | hk | hk
  all_goals simp only [hk]
  all_goals by_cases ha : 0 ≤ o.a.at_
  all_goals by_cases hb : 0 ≤ o.b.at_
  all_goals simp [ha, hb, addB_mem, or_comm]
  all_goals exact or_assoc
theorem needF_spec (deps : Lb) (nm : ByteArray) : ∀ (ops : List Opp) (acc : Lb), AscB acc → (∀ o ∈ ops, o.kind = 1 ∨ o.kind = 2 ∨ o.kind = 3 ∨ o.kind = 4 ∨ o.kind = 5) →
    AscB (ops.foldl (addO deps) acc) ∧ ∀ x, x ∈ ops.foldl (addO deps) acc ↔ x ∈ acc ∨ x ∈ ops.flatMap (needRs deps)
  | [], acc, h, _ => ⟨h, fun x => by simp⟩
  | o :: r, acc, h, hk => by
    obtain ⟨h1, h2⟩ := needF_spec deps nm r (addO deps acc o) (addO_asc o h) (fun z hz => hk z (by simp [hz]))
    refine ⟨h1, fun x => ?_⟩
    rw [List.foldl_cons, h2, addO_mem deps acc o (hk o (by simp)), List.flatMap_cons, List.mem_append, or_assoc]
theorem needF_needs {p : Pt} (nm : ByteArray) (hk : ∀ o ∈ p.ops, o.kind = 1 ∨ o.kind = 2 ∨ o.kind = 3 ∨ o.kind = 4 ∨ o.kind = 5) : needF p.deps nm p.ops = needsL p nm := by
  obtain ⟨h1, h2⟩ := needF_spec p.deps nm p.ops [nm] (by simp [Asc]) hk
  obtain ⟨k1, k2⟩ := needs_spec p nm
  refine ascB_unique h1 k1 fun x => ?_
  unfold needF
  rw [h2, k2]
  unfold needRaw
  simp
theorem needF_len (deps : Lb) : ∀ (ops : List Opp) (acc : Lb), (ops.foldl (addO deps) acc).length ≤ acc.length + 2 * ops.length
  | [], acc => by simp
  | o :: r, acc => by
    have ih := needF_len deps r (addO deps acc o)
    have h := addO_len deps acc o
    simp only [List.foldl_cons, List.length_cons]
    omega
end Go.Proofs.YtgjcblginkdinaaGreatDoor
set_option linter.unusedVariables false
namespace Go.Proofs.YtgjcblginkdinaaGreatDoor
open Go.ChangeShapes Go.WideShapes Go.ChangeAt Go.RowKit

theorem less_iff (x y : ByteArray) : Op.bytesLess x.toList y.toList = decide (x.data.toList < y.data.toList) := by
  rw [Go.Proofs.bytesLess_eq, ByteArray.toList_eq, ByteArray.toList_eq]
theorem readsOwns {w : World} {base : Nat} {e : TypeId} {v : Value} {xs : List ByteArray} (h : w.ownsRow base e 1 v xs.length (xs.map Value.string)) : Reads w v xs := by
  rcases h.2 with ⟨rfl, h0⟩ | ⟨g, cap, cur, rfl, hb, hg, hnc, hm, hs, ht⟩
  · have : xs = [] := List.length_eq_zero_iff.1 h0
    subst this
    exact .inl ⟨rfl, none, 0, rfl⟩
  · by_cases h0 : xs = []
    · subst h0
      exact .inl ⟨rfl, _, cap, rfl⟩
    · refine .inr ⟨h0, g, 0, cap, rfl, hnc, by unfold maxLen at hm; omega, (Array.getElem?_eq_some_iff.1 hg).1, fun j x hx => ?_⟩
      have hj : j < xs.length := (List.getElem?_eq_some_iff.1 hx).1
      have := h.cellAt j (by omega)
      rw [Nat.zero_add, this]
      simp [hx]
theorem own_ge {w : World} {base : Nat} {e : TypeId} {v : Value} {n : Nat} {us : List Value} (h : w.ownsRow base e 1 v n us) : ∀ g, v.ownBlock = some g → base ≤ g := fun g hg => (h.lt g hg).1 |> fun _ => by
  rcases h.2 with ⟨rfl, h0⟩ | ⟨b, cap, cur, rfl, hb, _⟩
  · cases hg
  · simp only [Value.ownBlock, Option.some.injEq] at hg; omega

attribute [-go_sem] Builtin.append_
set_option maxHeartbeats 4000000 in
set_option maxRecDepth 100000 in
theorem radd_any (ls : Lb) (v : Value) (x : ByteArray) (w : World) (hr : Reads w v ls) (hlen : ls.length ≤ 1000000) :
    Calls Tryz.prog 53 #[v, .string x] w fun e w' => (∃ v', e = .returned v' ∧ Reads w' v' (addB ls x) ∧ ∀ g, v'.ownBlock = some g → w.heap.size ≤ g ∨ v.ownBlock = some g) ∧ Below w.heap.size w w' := by
  have c1 : ∀ wz, Below w.heap.size w wz → Calls Tryz.prog 25 #[v, .string x] wz fun e w' => e = .returned (.int .i64 (Lib.idxOfS ls x)) ∧ Below wz.heap.size wz w' := fun wz hz => rplace_any ls v x wz (hr.below hz)
  obtain ⟨a, c, rfl, hn⟩ := hr.form
  obtain ⟨n, hnn⟩ : ∃ n, n = ls.length := ⟨_, rfl⟩
  obtain ⟨I, hI⟩ : ∃ I, I = Lib.idxOfS ls x := ⟨_, rfl⟩
  rw [← hI] at c1
  rw [← hnn] at hr hn c1 hlen ⊢
  have HN := Lib.hid hnn
  have HR := Lib.hid hr
  have HI := Lib.hid hI
  have C1 := Lib.hid c1
  clear hnn hr hI c1
  by_cases hi : 0 ≤ I
  · have hres : addB ls x = ls := by unfold addB; rw [← HI.out, if_pos hi]
    rw [hres]
    go_enter Tryz.func53, Tryz.ntmps53
    go_wp2_with fail
    refine (C1.out _ (Below.refl _ _)).mono ?_
    rintro e w1 ⟨rfl, hb⟩
    have QB := Lib.hid hb
    clear hb
    go_wp2_with fail
    go_ret
    exact ⟨⟨_, rfl, HR.out.below QB.out, fun g hg => .inr hg⟩, QB.out⟩
  · have hres : addB ls x = if (runA x ls).2 then (runA x ls).1 else (runA x ls).1 ++ [x] := by unfold addB; rw [← HI.out, if_neg hi]
    have HRES := Lib.hid hres
    clear hres
    go_enter Tryz.func53, Tryz.ntmps53
    go_wp2_with fail
    refine (C1.out _ (Below.refl _ _)).mono ?_
    rintro e w1 ⟨rfl, hb⟩
    have QB := Lib.hid hb
    clear hb
    go_wp2_with fail
    go_loopw [5, 6, 7] (fun l d i wr => ∃ (k : Nat) (o : Lb) (b : Bool), k ≤ n ∧ i = .int .i64 (k : Nat) ∧ d = .bool b ∧ o.length ≤ k + 1 ∧ wr.ownsRow w.heap.size 9 1 l o.length (o.map Value.string) ∧ Hid (Below w.heap.size w wr) ∧ Hid (runA x (ls.take k) = (o, b))) (fun _ _ i _ => n - (intOf i).toNat)
    case atStart => exact ⟨0, [], false, Nat.zero_le _, rfl, rfl, by simp, World.ownsRow_nil _ _ _ _, QB, Lib.hid rfl⟩
    case round =>
      obtain ⟨k, o, b, hk, rfl, rfl, hol, hown, HB, HA⟩ := hrel
      have hsz := HB.out.size
      by_cases hlt : k < n
      · obtain ⟨y, hy⟩ : ∃ y, ls[k]? = some y := ⟨ls[k]'(by rw [← HN.out]; exact hlt), by simp⟩
        obtain ⟨bb, oo, rfl, hnl, hcl⟩ := HR.out.at hy
        clear hnl
        have hcell := (hcl.below HB.out).2 k y hy
        have hst : runA x (ls.take (k + 1)) = stepA x (o, b) y := by rw [runA_take hy, HA.out]
        have HST := Lib.hid hst
        have hbl : bb < w.heap.size := hcl.1
        have hL : o.length ≤ k + (if b then 1 else 0) := by
          have h := runA_len x (ls.take k)
          rw [HA.out, List.length_take] at h
          simp only at h
          rw [h]
          exact Nat.add_le_add_right (Nat.min_le_left _ _) _
        have hne : y ≠ x := fun e => by have h1 := (idx_mem (l := ls) (x := x)).2 (e ▸ List.mem_of_getElem? hy); have h2 := HI.out; omega
        have hne2 : (y.toList == x.toList) = false := by
          rw [beq_eq_false_iff_ne]
          intro e
          apply hne
          rw [ByteArray.toList_eq, ByteArray.toList_eq] at e
          rw [← tx_data y, ← tx_data x, e]
        clear hy hcl hst
        cases b with
        | true =>
          have HS := Lib.hid (show runA x (ls.take (k + 1)) = (o ++ [y], true) by rw [HST.out]; rfl)
          go_wp2_with (at_builtin; refine wpList_push rfl _ _ 22 rfl w.heap.size 9 (.string ByteArray.empty) 1 16 Tryz.underlying22 Tryz.infoS rfl (by decide) wr _ _ _ rfl (by exact hown) [.string y] 1 _ _ rfl rfl rfl (by simp [Value.oneCell']) (by omega) (by omega) hsz ?_; intro v' w1 hown1 hgr hb1)
          exact ⟨⟨k + 1, o ++ [y], true, by omega, by go_num, rfl, by simp; omega, by simpa using hown1, Lib.hid (HB.out.trans hb1), HS⟩, by simp [intOf]; omega⟩
        | false =>
          by_cases hc : x.data.toList < y.data.toList
          · have e1 : Op.bytesLess y.toList x.toList = false := by rw [less_iff]; exact decide_eq_false (fun h => List.lt_irrefl _ (bs_lt_trans hc h))
            have HS := Lib.hid (show runA x (ls.take (k + 1)) = (o ++ [x] ++ [y], true) by rw [HST.out]; unfold stepA; rw [if_pos ⟨rfl, hc⟩])
            have hL2 : o.length ≤ k := by simpa using hL
            clear hc hne hL
            go_wp2_with (first
              | (at_builtin; refine wpList_push rfl _ _ 22 rfl w.heap.size 9 (.string ByteArray.empty) 1 16 Tryz.underlying22 Tryz.infoS rfl (by decide) wr _ _ _ rfl (by exact hown) [.string x] 1 _ _ rfl rfl rfl (by simp [Value.oneCell']) (by omega) (by omega) hsz ?_; intro v' w1 hown1 hgr hb1; have hcell1 := (hb1.cell (p := ⟨bb, oo + k, none⟩) hbl).trans hcell)
              | (at_builtin; refine wpList_push rfl _ _ 22 rfl w.heap.size 9 (.string ByteArray.empty) 1 16 Tryz.underlying22 Tryz.infoS rfl (by decide) w1 _ _ _ rfl (by exact hown1) [.string y] 1 _ _ rfl rfl rfl (by simp [Value.oneCell']) (by omega) (by omega) (Nat.le_trans hsz hb1.size) ?_; intro v'' w2 hown2 hgr2 hb2))
            exact ⟨⟨k + 1, o ++ [x] ++ [y], true, by omega, by go_num, rfl, by simp; omega, by simpa using hown2, Lib.hid ((HB.out.trans hb1).trans hb2), HS⟩, by simp [intOf]; omega⟩
          · have e1 : Op.bytesLess y.toList x.toList = true := by rw [less_iff]; exact decide_eq_true (lt_of_not hc (Ne.symm hne))
            have HS := Lib.hid (show runA x (ls.take (k + 1)) = (o ++ [y], false) by rw [HST.out]; unfold stepA; rw [if_neg (fun h => hc h.2)])
            clear hc hne
            go_wp2_with (at_builtin; refine wpList_push rfl _ _ 22 rfl w.heap.size 9 (.string ByteArray.empty) 1 16 Tryz.underlying22 Tryz.infoS rfl (by decide) wr _ _ _ rfl (by exact hown) [.string y] 1 _ _ rfl rfl rfl (by simp [Value.oneCell']) (by omega) (by omega) hsz ?_; intro v' w1 hown1 hgr hb1)
            exact ⟨⟨k + 1, o ++ [y], false, by omega, by go_num, rfl, by simp; omega, by simpa using hown1, Lib.hid (HB.out.trans hb1), HS⟩, by simp [intOf]; omega⟩
      · obtain rfl : k = n := by omega
        have hall : runA x ls = (o, b) := by rw [← HA.out, List.take_of_length_le (by rw [← HN.out]; exact Nat.le_refl _)]
        cases b with
        | true =>
          have HF := Lib.hid (show addB ls x = o by rw [HRES.out, hall]; rfl)
          clear hall
          go_wp2_with fail
          go_ret
          exact ⟨⟨_, rfl, by rw [HF.out]; exact readsOwns hown, fun g hg => .inl (own_ge hown g hg)⟩, HB.out⟩
        | false =>
          have HF := Lib.hid (show addB ls x = o ++ [x] by rw [HRES.out, hall]; rfl)
          clear hall
          go_wp2_with (at_builtin; refine wpList_push rfl _ _ 22 rfl w.heap.size 9 (.string ByteArray.empty) 1 16 Tryz.underlying22 Tryz.infoS rfl (by decide) wr _ _ _ rfl (by exact hown) [.string x] 1 _ _ rfl rfl rfl (by simp [Value.oneCell']) (by omega) (by omega) hsz ?_; intro v' w1 hown1 hgr hb1)
          go_ret
          exact ⟨⟨_, rfl, by rw [HF.out]; exact readsOwns (by simpa using hown1), fun g hg => .inl (own_ge hown1 g hg)⟩, HB.out.trans hb1⟩
end Go.Proofs.YtgjcblginkdinaaGreatDoor
