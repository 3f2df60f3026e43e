/- What the graph of a set is (mathematics): its vertices by their ids, its edges; the set's order plays no part; a patch that deletes; a beginning of a set. What the program draws is the graph (mathematics): what has been put on each place, deleted, put and joined, told op by op. -/
set_option linter.unusedVariables false
set_option linter.unusedSimpArgs false
namespace Go.Proofs.YtojnagonhihknaaGreatDoor

theorem rise_same {α : Type} {r : α → α → Prop} (hr : ∀ a b, r a b → ¬ r b a) : ∀ {a b : List α}, a.Pairwise r → b.Pairwise r → (∀ x, x ∈ a ↔ x ∈ b) → a = b
  | [], [], _, _, _ => rfl
  | [], y :: b, _, _, h => by have := (h y).2 List.mem_cons_self; cases this
  | x :: a, [], _, _, h => by have := (h x).1 List.mem_cons_self; cases this
  | x :: a, y :: b, ha, hb, h => by
    obtain ⟨a1, a2⟩ := List.pairwise_cons.1 ha
    obtain ⟨b1, b2⟩ := List.pairwise_cons.1 hb
    have irr : ∀ z, ¬ r z z := fun z hz => hr z z hz hz
    have hxy : x = y := by
      rcases List.mem_cons.1 ((h x).1 List.mem_cons_self) with e | h1
      · exact e
      · rcases List.mem_cons.1 ((h y).2 List.mem_cons_self) with e | h2
        · exact e.symm
        · exact absurd (a1 y h2) (hr _ _ (b1 x h1))
    subst hxy
    congr 1
    refine rise_same hr a2 b2 fun z => ?_
    constructor
    · intro hz
      rcases List.mem_cons.1 ((h z).1 (List.mem_cons_of_mem _ hz)) with e | h1
      · subst e; exact absurd (a1 z hz) (irr z)
      · exact h1
    · intro hz
      rcases List.mem_cons.1 ((h z).2 (List.mem_cons_of_mem _ hz)) with e | h1
      · subst e; exact absurd (b1 z hz) (irr z)
      · exact h1

section
variable {ν : Type}
structure GOp (ν : Type) where
  kind : Int
  a : ν × Nat
  b : ν × Nat
  lines : List ByteArray
abbrev GSet (ν : Type) := List (ν × List (GOp ν))
def newsL (ops : List (GOp ν)) : List (ByteArray × (ν × Nat) × (ν × Nat)) := ops.flatMap fun o => if o.kind = 1 then o.lines.map fun l => (l, o.a, o.b) else []
def chainI {β : Type} (a : β) : List β → β → List (β × β)
  | [], b => [(a, b)]
  | x :: l, b => (a, x) :: chainI x l b
def putI (nm : ν) : Nat → List (GOp ν) → List ((ν × Nat) × (ν × Nat))
  | _, [] => []
  | m, o :: r => if o.kind = 1 then chainI o.a ((List.range o.lines.length).map fun k => (nm, m + k)) o.b ++ putI nm (m + o.lines.length) r else putI nm m r
def opsL (M : GSet ν) : List (GOp ν) := M.flatMap fun x => x.2
def isId (e : ν) (M : GSet ν) (i : ν × Nat) : Prop := i = (e, 0) ∨ i = (e, 1) ∨ ∃ x ∈ M, i.1 = x.1 ∧ i.2 < (newsL x.2).length
def attR (e : ν) (M : GSet ν) (i : ν × Nat) (l : ByteArray) (a b : ν × Nat) : Prop :=
  ((i = (e, 0) ∨ i = (e, 1)) ∧ l = ⟨#[]⟩ ∧ a = (e, 0) ∧ b = (e, 0)) ∨ ∃ x ∈ M, i.1 = x.1 ∧ (newsL x.2)[i.2]? = some (l, a, b)
structure GVx (ν : Type) where
  id : ν × Nat
  line : ByteArray
  above : ν × Nat
  below : ν × Nat
  del : Int
def idLt (lt : ν → ν → Prop) (i j : ν × Nat) : Prop := lt i.1 j.1 ∨ (i.1 = j.1 ∧ i.2 < j.2)
theorem idLt_asymm {lt : ν → ν → Prop} (h : ∀ a b, lt a b → ¬ lt b a) (i j : ν × Nat) (hij : idLt lt i j) : ¬ idLt lt j i := by
  rintro (h2 | ⟨h2, h3⟩)
  · rcases hij with h1 | ⟨h1, _⟩
    · exact h _ _ h1 h2
    · rw [h1] at h2; exact h _ _ h2 h2
  · rcases hij with h1 | ⟨_, h4⟩
    · rw [h2] at h1; exact h _ _ h1 h1
    · omega
def lexN (a b : Nat × Nat) : Prop := a.1 < b.1 ∨ (a.1 = b.1 ∧ a.2 < b.2)
theorem lexN_asymm (a b : Nat × Nat) (h : lexN a b) : ¬ lexN b a := by unfold lexN at *; omega
structure Tame (e : ν) (M : GSet ν) : Prop where
  one : ∀ x ∈ M, ∀ y ∈ M, x.1 = y.1 → x = y
  some : ∀ x ∈ M, x.1 ≠ e
theorem attR_one {e : ν} {M : GSet ν} (hM : Tame e M) {i : ν × Nat} {l l' : ByteArray} {a a' b b' : ν × Nat} (h : attR e M i l a b) (h' : attR e M i l' a' b') : l = l' ∧ a = a' ∧ b = b' := by
  rcases h with ⟨h1, h2, h3, h4⟩ | ⟨x, hx, h1, h2⟩
  · rcases h' with ⟨_, k2, k3, k4⟩ | ⟨y, hy, k1, _⟩
    · exact ⟨h2.trans k2.symm, h3.trans k3.symm, h4.trans k4.symm⟩
    · refine absurd ?_ (hM.some y hy)
      rcases h1 with h1 | h1 <;> rw [h1] at k1 <;> exact k1.symm
  · rcases h' with ⟨k1, _⟩ | ⟨y, hy, k1, k2⟩
    · refine absurd ?_ (hM.some x hx)
      rcases k1 with k1 | k1 <;> rw [k1] at h1 <;> exact h1.symm
    · have := hM.one x hx y hy (h1.symm.trans k1)
      subst this
      rw [h2] at k2
      have := Option.some.inj k2
      simp only [Prod.mk.injEq] at this
      exact this
end
section
variable {ν : Type} [DecidableEq ν]
def delM (M : GSet ν) (i : ν × Nat) : Int := ((opsL M).map fun o => if o.kind = 4 ∧ o.a = i then (1 : Int) else if o.kind = 5 ∧ o.a = i then -1 else 0).sum
def wtM (M : GSet ν) (i j : ν × Nat) : Int := ((opsL M).map fun o => if o.kind = 2 ∧ o.a = i ∧ o.b = j then (1 : Int) else if o.kind = 3 ∧ o.a = i ∧ o.b = j then -1 else 0).sum
def edgeI (M : GSet ν) (i j : ν × Nat) : Prop := (∃ x ∈ M, (i, j) ∈ putI x.1 0 x.2) ∨ 0 < wtM M i j
structure GraphS (lt : ν → ν → Prop) (e : ν) (M : GSet ν) (V : List (GVx ν)) (E : List (Nat × Nat)) : Prop where
  rise : (V.map (·.id)).Pairwise (idLt lt)
  ids : ∀ i, i ∈ V.map (·.id) ↔ isId e M i
  att : ∀ v ∈ V, attR e M v.id v.line v.above v.below
  del : ∀ v ∈ V, v.del = delM M v.id
  lex : E.Pairwise lexN
  edge : ∀ a b, (a, b) ∈ E ↔ ∃ u v, V[a]? = some u ∧ V[b]? = some v ∧ edgeI M u.id v.id
theorem graph_one {lt : ν → ν → Prop} (hlt : ∀ a b, lt a b → ¬ lt b a) {e : ν} {M : GSet ν} (hM : Tame e M) {V V' : List (GVx ν)} {E E' : List (Nat × Nat)} (h : GraphS lt e M V E) (h' : GraphS lt e M V' E') : V = V' ∧ E = E' := by
  have hid : V.map (·.id) = V'.map (·.id) := rise_same (idLt_asymm hlt) h.rise h'.rise fun i => (h.ids i).trans (h'.ids i).symm
  have hV : V = V' := by
    apply List.ext_getElem?
    intro k
    have hk : (V.map (·.id))[k]? = (V'.map (·.id))[k]? := by rw [hid]
    rw [List.getElem?_map, List.getElem?_map] at hk
    cases hv : V[k]? with
    | none =>
      rw [hv] at hk
      cases hv' : V'[k]? with
      | none => rfl
      | some v' => rw [hv'] at hk; simp at hk
    | some v =>
      rw [hv] at hk
      cases hv' : V'[k]? with
      | none => rw [hv'] at hk; simp at hk
      | some v' =>
        rw [hv'] at hk
        have e1 : v.id = v'.id := by simpa using hk
        have m := List.mem_of_getElem? hv
        have m' := List.mem_of_getElem? hv'
        obtain ⟨e2, e3, e4⟩ := attR_one hM (h.att v m) (e1 ▸ h'.att v' m')
        have e5 : v.del = v'.del := by rw [h.del v m, h'.del v' m', e1]
        cases v; cases v'
        simp only at e1 e2 e3 e4 e5
        subst e1; subst e2; subst e3; subst e4; subst e5
        rfl
  subst hV
  exact ⟨rfl, rise_same lexN_asymm h.lex h'.lex fun p => (h.edge p.1 p.2).trans (h'.edge p.1 p.2).symm⟩
theorem graph_del {lt : ν → ν → Prop} {e : ν} {M : GSet ν} {nm : ν} {o : GOp ν} {c : Int} (ho : (o.kind = 4 ∧ c = 1) ∨ (o.kind = 5 ∧ c = -1)) {V : List (GVx ν)} {E : List (Nat × Nat)} (h : GraphS lt e M V E) :
    GraphS lt e (M ++ [(nm, [o])]) (V.map fun v => if v.id = o.a then { v with del := v.del + c } else v) E := by
  have hid : (V.map fun v => if v.id = o.a then { v with del := v.del + c } else v).map (·.id) = V.map (·.id) := by
    rw [List.map_map]
    refine List.map_congr_left fun v _ => ?_
    show (if v.id = o.a then { v with del := v.del + c } else v).id = v.id
    split <;> rfl
  have hk : o.kind ≠ 1 ∧ o.kind ≠ 2 ∧ o.kind ≠ 3 := by rcases ho with ⟨h1, _⟩ | ⟨h1, _⟩ <;> omega
  have hnew : newsL [o] = [] := by simp [newsL, hk.1]
  have hput : ∀ m, putI nm m [o] = [] := fun m => by simp [putI, hk.1]
  have hops : opsL (M ++ [(nm, [o])]) = opsL M ++ [o] := by simp [opsL]
  have hdel : ∀ i, delM (M ++ [(nm, [o])]) i = delM M i + if i = o.a then c else 0 := fun i => by
    unfold delM
    rw [hops, List.map_append, List.sum_append]
    congr 1
    rcases ho with ⟨h1, h2⟩ | ⟨h1, h2⟩
    · by_cases hi : i = o.a
      · simp [h1, h2, hi]
      · have : ¬ o.a = i := fun e => hi e.symm
        simp [h1, hi, this]
    · by_cases hi : i = o.a
      · simp [h1, h2, hi]
      · have : ¬ o.a = i := fun e => hi e.symm
        simp [h1, hi, this]
  have hwt : ∀ i j, wtM (M ++ [(nm, [o])]) i j = wtM M i j := fun i j => by
    unfold wtM
    rw [hops, List.map_append, List.sum_append]
    simp [hk.2.1, hk.2.2]
  have hedge : ∀ i j, edgeI (M ++ [(nm, [o])]) i j ↔ edgeI M i j := fun i j => by
    unfold edgeI
    rw [hwt]
    constructor
    · rintro (⟨x, hx, h1⟩ | h1)
      · rcases List.mem_append.1 hx with hx | hx
        · exact .inl ⟨x, hx, h1⟩
        · rw [List.mem_singleton.1 hx, hput] at h1; cases h1
      · exact .inr h1
    · rintro (⟨x, hx, h1⟩ | h1)
      · exact .inl ⟨x, List.mem_append_left _ hx, h1⟩
      · exact .inr h1
  have hat : ∀ (k : Nat) (v' : GVx ν), (V.map fun v => if v.id = o.a then { v with del := v.del + c } else v)[k]? = some v' → ∃ v, V[k]? = some v ∧ v'.id = v.id ∧ v'.line = v.line ∧ v'.above = v.above ∧ v'.below = v.below ∧ v'.del = v.del + if v.id = o.a then c else 0 := fun k v' hv => by
    rw [List.getElem?_map] at hv
    obtain ⟨v, hv1, rfl⟩ := Option.map_eq_some_iff.1 hv
    refine ⟨v, hv1, ?_⟩
    by_cases hi : v.id = o.a
    · rw [if_pos hi, if_pos hi]; exact ⟨rfl, rfl, rfl, rfl, rfl⟩
    · rw [if_neg hi, if_neg hi]; exact ⟨rfl, rfl, rfl, rfl, by omega⟩
  refine ⟨by rw [hid]; exact h.rise, fun i => ?_, fun v' hv' => ?_, fun v' hv' => ?_, h.lex, fun a b => ?_⟩
  · rw [hid, h.ids]
    unfold isId
    constructor
    · rintro (h1 | h1 | ⟨x, hx, h1⟩)
      · exact .inl h1
      · exact .inr (.inl h1)
      · exact .inr (.inr ⟨x, List.mem_append_left _ hx, h1⟩)
    · rintro (h1 | h1 | ⟨x, hx, h1, h2⟩)
      · exact .inl h1
      · exact .inr (.inl h1)
      · rcases List.mem_append.1 hx with hx | hx
        · exact .inr (.inr ⟨x, hx, h1, h2⟩)
        · rw [List.mem_singleton.1 hx, hnew] at h2; simp at h2
  · obtain ⟨k, hk2⟩ := List.getElem?_of_mem hv'
    obtain ⟨v, hv, e1, e2, e3, e4, _⟩ := hat k v' hk2
    rw [e1, e2, e3, e4]
    rcases h.att v (List.mem_of_getElem? hv) with h1 | ⟨x, hx, h1⟩
    · exact .inl h1
    · exact .inr ⟨x, List.mem_append_left _ hx, h1⟩
  · obtain ⟨k, hk2⟩ := List.getElem?_of_mem hv'
    obtain ⟨v, hv, e1, _, _, _, e5⟩ := hat k v' hk2
    rw [e5, e1, hdel, h.del v (List.mem_of_getElem? hv)]
  · rw [h.edge]
    constructor
    · rintro ⟨u, v, hu, hv, he⟩
      refine ⟨_, _, by rw [List.getElem?_map, hu]; rfl, by rw [List.getElem?_map, hv]; rfl, ?_⟩
      rw [hedge]
      have e1 : ∀ w : GVx ν, (if w.id = o.a then { w with del := w.del + c } else w).id = w.id := fun w => by split <;> rfl
      show edgeI M (if u.id = o.a then _ else _ : GVx ν).id (if v.id = o.a then _ else _ : GVx ν).id
      rw [e1, e1]
      exact he
    · rintro ⟨u', v', hu', hv', he⟩
      obtain ⟨u, hu, e1, _⟩ := hat a u' hu'
      obtain ⟨v, hv, f1, _⟩ := hat b v' hv'
      rw [hedge, e1, f1] at he
      exact ⟨u, v, hu, hv, he⟩
end
end Go.Proofs.YtojnagonhihknaaGreatDoor
set_option linter.unusedVariables false
set_option linter.unusedSimpArgs false
namespace Go.Proofs.YtojnagonhihknaaGreatDoor

section
variable {ν : Type}
structure GEv (ν : Type) where
  nm : ν
  m : Nat
  o : GOp ν
def evP (nm : ν) : Nat → List (GOp ν) → List (GEv ν)
  | _, [] => []
  | m, o :: r => ⟨nm, m, o⟩ :: evP nm (m + if o.kind = 1 then o.lines.length else 0) r
def evL (M : GSet ν) : List (GEv ν) := M.flatMap fun x => evP x.1 0 x.2
def asgO (base : Nat) (o : GOp ν) : List (Nat × (ByteArray × (ν × Nat) × (ν × Nat))) := if o.kind = 1 then (o.lines.zipIdx base).map fun q => (q.2, (q.1, o.a, o.b)) else []
def asgL (pl : ν × Nat → Nat) (L : List (GEv ν)) := L.flatMap fun v => asgO (pl (v.nm, v.m)) v.o
def putO (pl : ν × Nat → Nat) (v : GEv ν) : List (Nat × Nat) := if v.o.kind = 1 then chainI (pl v.o.a) ((List.range v.o.lines.length).map fun k => pl (v.nm, v.m) + k) (pl v.o.b) else []
def putE (pl : ν × Nat → Nat) (L : List (GEv ν)) : List (Nat × Nat) := L.flatMap (putO pl)
def delO (pl : ν × Nat → Nat) (k : Nat) (o : GOp ν) : Int := if o.kind = 4 ∧ pl o.a = k then 1 else if o.kind = 5 ∧ pl o.a = k then -1 else 0
def delE (pl : ν × Nat → Nat) (L : List (GEv ν)) (k : Nat) : Int := (L.map fun v => delO pl k v.o).sum
def wtO (pl : ν × Nat → Nat) (p : Nat × Nat) (o : GOp ν) : Int := if o.kind = 2 ∧ (pl o.a, pl o.b) = p then 1 else if o.kind = 3 ∧ (pl o.a, pl o.b) = p then -1 else 0
def wtE (pl : ν × Nat → Nat) (L : List (GEv ν)) (p : Nat × Nat) : Int := (L.map fun v => wtO pl p v.o).sum
def GrAtt (e : ν) (V : List (GVx ν)) (asg : List (Nat × (ByteArray × (ν × Nat) × (ν × Nat)))) : Prop :=
  ∀ k v, V[k]? = some v → (∃ q ∈ asg, q.1 = k ∧ q.2 = (v.line, v.above, v.below)) ∨ ((∀ q ∈ asg, q.1 ≠ k) ∧ v.line = ⟨#[]⟩ ∧ v.above = (e, 0) ∧ v.below = (e, 0))
theorem evP_o (nm : ν) : ∀ (m : Nat) (ops : List (GOp ν)), (evP nm m ops).map (·.o) = ops
  | _, [] => rfl
  | m, o :: r => by simp [evP, evP_o nm _ r]
theorem evL_o (M : GSet ν) : (evL M).map (·.o) = opsL M := by
  unfold evL opsL
  rw [List.map_flatMap]
  congr 1
  funext x
  exact evP_o x.1 0 x.2
theorem chain_map {β γ : Type} (f : β → γ) : ∀ (a : β) (l : List β) (b : β), (chainI a l b).map (fun p => (f p.1, f p.2)) = chainI (f a) (l.map f) (f b)
  | a, [], b => rfl
  | a, x :: l, b => by simp [chainI, chain_map f x l b]
theorem asg_news {nm : ν} {pl : ν × Nat → Nat} (hc : ∀ n, pl (nm, n) = pl (nm, 0) + n) : ∀ (ops : List (GOp ν)) (m : Nat) (q : Nat × (ByteArray × (ν × Nat) × (ν × Nat))), q ∈ asgL pl (evP nm m ops) ↔ ∃ n, q.1 = pl (nm, m + n) ∧ (newsL ops)[n]? = some q.2
  | [], m, q => by simp [asgL, evP, newsL]
  | o :: r, m, q => by
    have ih := asg_news hc r (m + if o.kind = 1 then o.lines.length else 0) q
    have e1 : asgL pl (evP nm m (o :: r)) = asgO (pl (nm, m)) o ++ asgL pl (evP nm (m + if o.kind = 1 then o.lines.length else 0) r) := rfl
    have e2 : newsL (o :: r) = (if o.kind = 1 then o.lines.map fun l => (l, o.a, o.b) else []) ++ newsL r := rfl
    rw [e1, List.mem_append, ih, e2]
    by_cases hk : o.kind = 1
    · simp only [if_pos hk]
      have hlen : (o.lines.map fun l => (l, o.a, o.b)).length = o.lines.length := List.length_map _
      constructor
      · rintro (h | ⟨n, h1, h2⟩)
        · unfold asgO at h
          rw [if_pos hk] at h
          obtain ⟨⟨l, j⟩, hz, rfl⟩ := List.mem_map.1 h
          obtain ⟨hj1, hj2⟩ := List.mem_zipIdx_iff_le_and_getElem?_sub.1 hz
          have hlt := (List.getElem?_eq_some_iff.1 hj2).1
          refine ⟨j - pl (nm, m), ?_, ?_⟩
          · show j = _
            have h3 := hc m
            have h4 := hc (m + (j - pl (nm, m)))
            simp only at hj1
            omega
          · rw [List.getElem?_append_left (by rw [hlen]; exact hlt), List.getElem?_map, hj2]
            rfl
        · refine ⟨o.lines.length + n, by rw [h1, Nat.add_assoc], ?_⟩
          rw [List.getElem?_append_right (by rw [hlen]; omega), hlen, Nat.add_sub_cancel_left]
          exact h2
      · rintro ⟨n, h1, h2⟩
        by_cases hn : n < o.lines.length
        · left
          rw [List.getElem?_append_left (by rw [hlen]; exact hn), List.getElem?_map] at h2
          obtain ⟨l, hl, e⟩ := Option.map_eq_some_iff.1 h2
          unfold asgO
          rw [if_pos hk]
          refine List.mem_map.2 ⟨(l, pl (nm, m) + n), List.mem_zipIdx_iff_le_and_getElem?_sub.2 ⟨by simp, by simp [hl]⟩, ?_⟩
          have h3 := hc m
          have h4 := hc (m + n)
          obtain ⟨q1, q2⟩ := q
          simp only at h1 e ⊢
          rw [← e]
          congr 1
          omega
        · right
          refine ⟨n - o.lines.length, by rw [h1]; congr 2; omega, ?_⟩
          rw [List.getElem?_append_right (by rw [hlen]; omega), hlen] at h2
          exact h2
    · simp only [if_neg hk]
      have h0 : asgO (pl (nm, m)) o = [] := by unfold asgO; rw [if_neg hk]
      rw [h0]
      simp
theorem put_news {nm : ν} {pl : ν × Nat → Nat} (hc : ∀ n, pl (nm, n) = pl (nm, 0) + n) : ∀ (ops : List (GOp ν)) (m : Nat), putE pl (evP nm m ops) = (putI nm m ops).map fun p => (pl p.1, pl p.2)
  | [], m => rfl
  | o :: r, m => by
    have ih := put_news hc r (m + if o.kind = 1 then o.lines.length else 0)
    have e1 : putE pl (evP nm m (o :: r)) = putO pl ⟨nm, m, o⟩ ++ putE pl (evP nm (m + if o.kind = 1 then o.lines.length else 0) r) := rfl
    rw [e1, ih]
    by_cases hk : o.kind = 1
    · have e2 : putI nm m (o :: r) = chainI o.a ((List.range o.lines.length).map fun k => (nm, m + k)) o.b ++ putI nm (m + o.lines.length) r := by simp [putI, hk]
      rw [e2, List.map_append, if_pos hk, chain_map]
      congr 1
      unfold putO
      rw [if_pos hk, List.map_map]
      congr 1
      refine List.map_congr_left fun k _ => ?_
      show pl (nm, m) + k = pl (nm, m + k)
      have h3 := hc m
      have h4 := hc (m + k)
      omega
    · have e2 : putI nm m (o :: r) = putI nm m r := by simp [putI, hk]
      have e3 : putO pl ⟨nm, m, o⟩ = [] := by unfold putO; rw [if_neg hk]
      rw [e2, e3, if_neg hk]
      rfl
def Refs (e : ν) (M : GSet ν) : Prop := ∀ x ∈ M, ∀ o ∈ x.2, 1 ≤ o.kind ∧ o.kind ≤ 5 ∧ isId e M o.a ∧ (o.kind < 4 → isId e M o.b)
theorem put_ids {e : ν} {M : GSet ν} (hR : Refs e M) {x : ν × List (GOp ν)} (hx : x ∈ M) : ∀ p ∈ putI x.1 0 x.2, isId e M p.1 ∧ isId e M p.2 := by
  have hch : ∀ (a : ν × Nat) (l : List (ν × Nat)) (b : ν × Nat), isId e M a → (∀ i ∈ l, isId e M i) → isId e M b → ∀ p ∈ chainI a l b, isId e M p.1 ∧ isId e M p.2 := by
    intro a l
    induction l generalizing a with
    | nil =>
      intro b ha _ hb p hp
      rw [show chainI a [] b = [(a, b)] from rfl, List.mem_singleton] at hp
      rw [hp]; exact ⟨ha, hb⟩
    | cons y l ih =>
      intro b ha hl hb p hp
      rw [show chainI a (y :: l) b = (a, y) :: chainI y l b from rfl] at hp
      rcases List.mem_cons.1 hp with e1 | hp
      · rw [e1]; exact ⟨ha, hl y List.mem_cons_self⟩
      · exact ih y b (hl y List.mem_cons_self) (fun i hi => hl i (List.mem_cons_of_mem _ hi)) hb p hp
  have key : ∀ (ops : List (GOp ν)) (m : Nat), (∀ o ∈ ops, o ∈ x.2) → m + (newsL ops).length ≤ (newsL x.2).length → ∀ p ∈ putI x.1 m ops, isId e M p.1 ∧ isId e M p.2 := by
    intro ops
    induction ops with
    | nil => intro m _ _ p hp; cases hp
    | cons o r ih =>
      intro m ho hl p hp
      obtain ⟨_, _, ha, hb⟩ := hR x hx o (ho o List.mem_cons_self)
      have e2 : newsL (o :: r) = (if o.kind = 1 then o.lines.map fun l => (l, o.a, o.b) else []) ++ newsL r := rfl
      by_cases hk : o.kind = 1
      · rw [e2, if_pos hk, List.length_append, List.length_map] at hl
        have e3 : putI x.1 m (o :: r) = chainI o.a ((List.range o.lines.length).map fun k => (x.1, m + k)) o.b ++ putI x.1 (m + o.lines.length) r := by simp [putI, hk]
        rw [e3] at hp
        rcases List.mem_append.1 hp with hp | hp
        · refine hch _ _ _ ha (fun i hi => ?_) (hb (by omega)) p hp
          obtain ⟨k, hk2, rfl⟩ := List.mem_map.1 hi
          have := List.mem_range.1 hk2
          exact .inr (.inr ⟨x, hx, rfl, by show m + k < _; omega⟩)
        · exact ih (m + o.lines.length) (fun o' h' => ho o' (List.mem_cons_of_mem _ h')) (by omega) p hp
      · rw [e2, if_neg hk, List.nil_append] at hl
        have e3 : putI x.1 m (o :: r) = putI x.1 m r := by simp [putI, hk]
        rw [e3] at hp
        exact ih m (fun o' h' => ho o' (List.mem_cons_of_mem _ h')) hl p hp
  exact key x.2 0 (fun o h => h) (by omega)
theorem sum_congr {α : Type} {f g : α → Int} : ∀ {l : List α}, (∀ x ∈ l, f x = g x) → (l.map f).sum = (l.map g).sum
  | [], _ => rfl
  | a :: l, h => by
    rw [List.map_cons, List.map_cons, List.sum_cons, List.sum_cons, h a List.mem_cons_self, sum_congr fun x hx => h x (List.mem_cons_of_mem _ hx)]
theorem sum_pos {α : Type} {f : α → Int} : ∀ {l : List α}, 0 < (l.map f).sum → ∃ x ∈ l, 0 < f x
  | [], h => by simp at h
  | a :: l, h => by
    rw [List.map_cons, List.sum_cons] at h
    by_cases c : 0 < f a
    · exact ⟨a, List.mem_cons_self, c⟩
    · obtain ⟨x, hx, h2⟩ := sum_pos (l := l) (f := f) (by omega)
      exact ⟨x, List.mem_cons_of_mem _ hx, h2⟩
end
section
variable {ν : Type} [DecidableEq ν]
theorem graph_made {lt : ν → ν → Prop} (hlt : ∀ a b, lt a b → ¬ lt b a) {e : ν} {M : GSet ν} (hM : Tame e M) (hR : Refs e M) {ids : List (ν × Nat)} (hrise : ids.Pairwise (idLt lt)) (hmem : ∀ i, i ∈ ids ↔ isId e M i) {pl : ν × Nat → Nat} (hpl : ∀ i, isId e M i → ids[pl i]? = some i) (hc : ∀ x ∈ M, ∀ n, pl (x.1, n) = pl (x.1, 0) + n)
    {V : List (GVx ν)} (hV : V.map (·.id) = ids) (hatt : GrAtt e V (asgL pl (evL M))) (hdel : ∀ k v, V[k]? = some v → v.del = delE pl (evL M) k) {E : List (Nat × Nat)} (hlex : E.Pairwise lexN) (hE : ∀ p, p ∈ E ↔ p ∈ putE pl (evL M) ∨ 0 < wtE pl (evL M) p) : GraphS lt e M V E := by
  have hinj : ∀ i j, isId e M i → isId e M j → pl i = pl j → i = j := fun i j hi hj h => by
    have h1 := hpl i hi
    rw [h, hpl j hj] at h1
    exact (Option.some.inj h1).symm
  have hnd : ids.Nodup := hrise.imp fun {a b} hab e1 => by
    subst e1
    exact idLt_asymm hlt _ _ hab hab
  have hat : ∀ k v, V[k]? = some v → isId e M v.id ∧ pl v.id = k := fun k v hv => by
    have h1 : isId e M v.id := (hmem _).1 (by rw [← hV]; exact List.mem_map.2 ⟨v, List.mem_of_getElem? hv, rfl⟩)
    refine ⟨h1, ?_⟩
    have h2 := hpl _ h1
    have h3 : ids[k]? = some v.id := by rw [← hV, List.getElem?_map, hv]; rfl
    exact (List.getElem?_inj (List.getElem?_eq_some_iff.1 h2).1 hnd).1 (h2.trans h3.symm)
  have hvx : ∀ i, isId e M i → ∃ v, V[pl i]? = some v ∧ v.id = i := fun i hi => by
    have h1 := hpl i hi
    rw [← hV, List.getElem?_map] at h1
    exact Option.map_eq_some_iff.1 h1
  have hasg : ∀ q, q ∈ asgL pl (evL M) ↔ ∃ x ∈ M, ∃ n, q.1 = pl (x.1, n) ∧ (newsL x.2)[n]? = some q.2 := fun q => by
    have e1 : asgL pl (evL M) = M.flatMap fun x => asgL pl (evP x.1 0 x.2) := by unfold asgL evL; rw [List.flatMap_assoc]
    rw [e1, List.mem_flatMap]
    constructor
    · rintro ⟨x, hx, h⟩
      obtain ⟨n, h1, h2⟩ := (asg_news (hc x hx) x.2 0 q).1 h
      exact ⟨x, hx, n, by rw [h1, Nat.zero_add], h2⟩
    · rintro ⟨x, hx, n, h1, h2⟩
      exact ⟨x, hx, (asg_news (hc x hx) x.2 0 q).2 ⟨n, by rw [h1, Nat.zero_add], h2⟩⟩
  have hid : ∀ x ∈ M, ∀ n, n < (newsL x.2).length → isId e M (x.1, n) := fun x hx n hn => .inr (.inr ⟨x, hx, rfl, hn⟩)
  have hops : ∀ o ∈ opsL M, isId e M o.a ∧ (o.kind < 4 → isId e M o.b) := fun o ho => by
    obtain ⟨x, hx, h⟩ := List.mem_flatMap.1 ho
    obtain ⟨_, _, h1, h2⟩ := hR x hx o h
    exact ⟨h1, h2⟩
  have hwt : ∀ i j, isId e M i → isId e M j → wtE pl (evL M) (pl i, pl j) = wtM M i j := fun i j hi hj => by
    have e1 : wtE pl (evL M) (pl i, pl j) = ((opsL M).map fun o => wtO pl (pl i, pl j) o).sum := by
      rw [← evL_o, List.map_map]; rfl
    rw [e1]
    refine sum_congr fun o ho => ?_
    obtain ⟨h1, h2⟩ := hops o ho
    unfold wtO
    by_cases hk : o.kind < 4
    · have hiff : (pl o.a, pl o.b) = (pl i, pl j) ↔ (o.a = i ∧ o.b = j) := by
        rw [Prod.mk.injEq]
        constructor
        · rintro ⟨a, b⟩
          exact ⟨hinj _ _ h1 hi a, hinj _ _ (h2 hk) hj b⟩
        · rintro ⟨a, b⟩
          rw [a, b]; exact ⟨rfl, rfl⟩
      simp only [hiff]
    · rw [if_neg (fun h => hk (by omega)), if_neg (fun h => hk (by omega)), if_neg (fun h => hk (by omega)), if_neg (fun h => hk (by omega))]
  refine ⟨by rw [hV]; exact hrise, fun i => by rw [hV]; exact hmem i, fun v hv => ?_, fun v hv => ?_, hlex, fun a b => ?_⟩
  · obtain ⟨k, hk⟩ := List.getElem?_of_mem hv
    obtain ⟨h1, h2⟩ := hat k v hk
    rcases hatt k v hk with ⟨q, hq, q1, q2⟩ | ⟨hno, e1, e2, e3⟩
    · obtain ⟨x, hx, n, h3, h4⟩ := (hasg q).1 hq
      have hn := (List.getElem?_eq_some_iff.1 h4).1
      have e4 := hinj _ _ (hid x hx n hn) h1 (by rw [← h3, q1, h2])
      refine .inr ⟨x, hx, by rw [← e4], ?_⟩
      rw [← e4]
      exact h4.trans (by rw [q2])
    · rcases h1 with h1 | h1 | ⟨x, hx, h3, h4⟩
      · exact .inl ⟨.inl h1, e1, e2, e3⟩
      · exact .inl ⟨.inr h1, e1, e2, e3⟩
      · exfalso
        refine hno (k, (newsL x.2)[v.id.2]'h4) ((hasg _).2 ⟨x, hx, v.id.2, ?_, by simp⟩) rfl
        show k = pl (x.1, v.id.2)
        rw [← h3, ← h2]
  · obtain ⟨k, hk⟩ := List.getElem?_of_mem hv
    obtain ⟨h1, h2⟩ := hat k v hk
    rw [hdel k v hk]
    have e1 : delE pl (evL M) k = ((opsL M).map fun o => delO pl k o).sum := by
      rw [← evL_o, List.map_map]; rfl
    rw [e1]
    refine sum_congr fun o ho => ?_
    obtain ⟨h3, _⟩ := hops o ho
    have hiff : pl o.a = k ↔ o.a = v.id := ⟨fun h => hinj _ _ h3 h1 (by rw [h, h2]), fun h => by rw [h, h2]⟩
    unfold delO
    simp only [hiff]
  · rw [hE]
    have hput : (a, b) ∈ putE pl (evL M) ↔ ∃ x ∈ M, ∃ p ∈ putI x.1 0 x.2, pl p.1 = a ∧ pl p.2 = b := by
      have e1 : putE pl (evL M) = M.flatMap fun x => putE pl (evP x.1 0 x.2) := by unfold putE evL; rw [List.flatMap_assoc]
      rw [e1, List.mem_flatMap]
      constructor
      · rintro ⟨x, hx, h⟩
        rw [put_news (hc x hx)] at h
        obtain ⟨p, hp, e2⟩ := List.mem_map.1 h
        injection e2 with e3 e4
        exact ⟨x, hx, p, hp, e3, e4⟩
      · rintro ⟨x, hx, p, hp, e3, e4⟩
        refine ⟨x, hx, ?_⟩
        rw [put_news (hc x hx)]
        exact List.mem_map.2 ⟨p, hp, by rw [e3, e4]⟩
    constructor
    · rintro (h | h)
      · obtain ⟨x, hx, p, hp, rfl, rfl⟩ := hput.1 h
        obtain ⟨i1, i2⟩ := put_ids hR hx p hp
        obtain ⟨u, hu, eu⟩ := hvx _ i1
        obtain ⟨v, hv, ev⟩ := hvx _ i2
        exact ⟨u, v, hu, hv, .inl ⟨x, hx, by rw [eu, ev]; exact hp⟩⟩
      · obtain ⟨v, hv, hp⟩ := sum_pos h
        have ho : v.o ∈ opsL M := by rw [← evL_o]; exact List.mem_map.2 ⟨v, hv, rfl⟩
        obtain ⟨h1, h2⟩ := hops _ ho
        unfold wtO at hp
        by_cases hk : v.o.kind = 2 ∧ (pl v.o.a, pl v.o.b) = (a, b)
        · obtain ⟨k1, k2⟩ := hk
          injection k2 with k3 k4
          have i2 := h2 (by omega)
          obtain ⟨u, hu, eu⟩ := hvx _ h1
          obtain ⟨w, hw, ew⟩ := hvx _ i2
          refine ⟨u, w, by rw [← k3]; exact hu, by rw [← k4]; exact hw, .inr ?_⟩
          rw [eu, ew, ← hwt _ _ h1 i2, k3, k4]
          exact h
        · rw [if_neg hk] at hp
          split at hp <;> omega
    · rintro ⟨u, v, hu, hv, he⟩
      obtain ⟨i1, p1⟩ := hat a u hu
      obtain ⟨i2, p2⟩ := hat b v hv
      rcases he with ⟨x, hx, h⟩ | h
      · exact .inl (hput.2 ⟨x, hx, _, h, p1, p2⟩)
      · refine .inr ?_
        rw [← p1, ← p2, hwt _ _ i1 i2]
        exact h
end
end Go.Proofs.YtojnagonhihknaaGreatDoor
