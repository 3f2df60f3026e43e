/- The ids of a set's vertices, laid out by rising names; what is put in its place keeps a list rising (mathematics). Lots laid by rising names (mathematics): where each patch's lines begin. A graph that is drawn op by op: what has been drawn (mathematics). Patches' ops as9 ops whose refs have been told; what a sketch holds once they have been drawn. -/
import Derived.Test.YtojnagonhihknaaGreatDoorU18
import Derived.Test.YtojnagonhihknaaGreatDoorU21
import Derived.Test.YtojnagonhihknaaGreatDoorU31
import Derived.Test.YtojnagonhihknaaGreatDoorU32
set_option linter.unusedVariables false
set_option linter.unusedSimpArgs false
namespace Go.Proofs.YtojnagonhihknaaGreatDoor

section
variable {ν : Type}
def madeX (x : ν × List (GOp ν)) : Nat := (newsL x.2).length
def idsR (e : ν) (R : GSet ν) : List (ν × Nat) := (e, 0) :: (e, 1) :: R.flatMap fun x => (List.range (madeX x)).map fun n => (x.1, n)
theorem idsR_mem {e : ν} {R : GSet ν} {i : ν × Nat} : i ∈ idsR e R ↔ isId e R i := by
  unfold idsR isId
  rw [List.mem_cons, List.mem_cons, List.mem_flatMap]
  constructor
  · rintro (h | h | ⟨x, hx, h⟩)
    · exact .inl h
    · exact .inr (.inl h)
    · obtain ⟨n, hn, rfl⟩ := List.mem_map.1 h
      exact .inr (.inr ⟨x, hx, rfl, List.mem_range.1 hn⟩)
  · rintro (h | h | ⟨x, hx, h1, h2⟩)
    · exact .inl h
    · exact .inr (.inl h)
    · refine .inr (.inr ⟨x, hx, List.mem_map.2 ⟨i.2, List.mem_range.2 h2, ?_⟩⟩)
      rw [← h1]
theorem idsR_rise {lt : ν → ν → Prop} {e : ν} {R : GSet ν} (he : ∀ x ∈ R, lt e x.1) (hr : (R.map (·.1)).Pairwise lt) : (idsR e R).Pairwise (idLt lt) := by
  unfold idsR
  have h0 : (R.flatMap fun x => (List.range (madeX x)).map fun n => (x.1, n)).Pairwise (idLt lt) := by
    clear he
    induction R with
    | nil => exact List.Pairwise.nil
    | cons x R ih =>
      rw [List.map_cons, List.pairwise_cons] at hr
      rw [List.flatMap_cons, List.pairwise_append]
      refine ⟨?_, ih hr.2, fun a ha b hb => ?_⟩
      · rw [List.pairwise_map]
        exact List.pairwise_lt_range.imp fun {a b} hab => .inr ⟨rfl, hab⟩
      · obtain ⟨n, _, rfl⟩ := List.mem_map.1 ha
        obtain ⟨y, hy, hb⟩ := List.mem_flatMap.1 hb
        obtain ⟨k, _, rfl⟩ := List.mem_map.1 hb
        exact .inl (hr.1 y.1 (List.mem_map.2 ⟨y, hy, rfl⟩))
  have h1 : ∀ k, ∀ i ∈ (R.flatMap fun x => (List.range (madeX x)).map fun n => (x.1, n)), idLt lt (e, k) i := fun k i hi => by
    obtain ⟨y, hy, hb⟩ := List.mem_flatMap.1 hi
    obtain ⟨n, _, rfl⟩ := List.mem_map.1 hb
    exact .inl (he y hy)
  refine List.pairwise_cons.2 ⟨fun i hi => ?_, List.pairwise_cons.2 ⟨h1 1, h0⟩⟩
  rcases List.mem_cons.1 hi with e1 | hi
  · rw [e1]; exact .inr ⟨rfl, by show 0 < 1; omega⟩
  · exact h1 0 i hi
end
section
variable {ν : Type} [DecidableEq ν]
def firstR : GSet ν → ν → Nat
  | [], _ => 2
  | x :: R, nm => if x.1 = nm then 2 else madeX x + firstR R nm
def plR (e : ν) (R : GSet ν) (i : ν × Nat) : Nat := if i.1 = e then i.2 else firstR R i.1 + i.2
theorem idsR_at {e : ν} {R : GSet ν} (hM : Tame e R) {i : ν × Nat} (h : isId e R i) : (idsR e R)[plR e R i]? = some i := by
  rcases h with h | h | ⟨x, hx, h1, h2⟩
  · subst h; simp [plR, idsR]
  · subst h; simp [plR, idsR]
  · have hne : i.1 ≠ e := by rw [h1]; exact hM.some x hx
    unfold plR
    rw [if_neg hne]
    have key : ∀ R : GSet ν, (∀ y ∈ R, y.1 = x.1 → y = x) → x ∈ R → ∀ a b : ν × Nat, (a :: b :: R.flatMap fun x => (List.range (madeX x)).map fun n => (x.1, n))[firstR R i.1 + i.2]? = some i := by
      intro R
      induction R with
      | nil => intro _ h; cases h
      | cons y R ih =>
        intro hu hm a b
        by_cases hy : y.1 = i.1
        · have hyx : y = x := hu y List.mem_cons_self (by rw [hy, h1])
          subst hyx
          have e1 : firstR (y :: R) i.1 = 2 := if_pos hy
          rw [e1, show 2 + i.2 = i.2 + 1 + 1 by omega, List.getElem?_cons_succ, List.getElem?_cons_succ, List.flatMap_cons, List.getElem?_append_left (by simp; exact h2), List.getElem?_map, List.getElem?_range (show i.2 < madeX y from h2)]
          show some (y.1, i.2) = some i
          rw [← h1]
        · have e1 : firstR (y :: R) i.1 = madeX y + firstR R i.1 := if_neg hy
          have hm' : x ∈ R := by
            rcases List.mem_cons.1 hm with e2 | h
            · subst e2; exact absurd h1.symm hy
            · exact h
          have h3 := ih (fun z hz => hu z (List.mem_cons_of_mem _ hz)) hm' a b
          have hge : 2 ≤ firstR R i.1 := by
            clear h3 hm' hu hm ih e1
            induction R with
            | nil => exact Nat.le_refl _
            | cons z R ih =>
              unfold firstR
              split
              · exact Nat.le_refl _
              · omega
          rw [e1]
          obtain ⟨d, hd⟩ : ∃ d, firstR R i.1 + i.2 = d + 2 := ⟨firstR R i.1 + i.2 - 2, by omega⟩
          rw [hd, List.getElem?_cons_succ, List.getElem?_cons_succ] at h3
          rw [show madeX y + firstR R i.1 + i.2 = (madeX y + d) + 1 + 1 by omega, List.getElem?_cons_succ, List.getElem?_cons_succ, List.flatMap_cons]
          rw [List.getElem?_append_right (by simp), List.length_map, List.length_range, Nat.add_sub_cancel_left]
          exact h3
    exact key R (fun y hy e1 => hM.one y hy x hx e1) hx (e, 0) (e, 1)
theorem plR_step {e : ν} {R : GSet ν} (hM : Tame e R) {x : ν × List (GOp ν)} (hx : x ∈ R) (n : Nat) : plR e R (x.1, n) = plR e R (x.1, 0) + n := by
  unfold plR
  rw [if_neg (hM.some x hx), if_neg (hM.some x hx)]
  rfl
end
section
variable {α : Type}
end
end Go.Proofs.YtojnagonhihknaaGreatDoor
set_option linter.unusedVariables false
set_option linter.unusedSimpArgs false
namespace Go.Proofs.YtojnagonhihknaaGreatDoor

section
variable {ν : Type}
theorem idsR_take {e : ν} {R : GSet ν} {j : Nat} {x : ν × List (GOp ν)} (h : R[j]? = some x) : idsR e (R.take (j + 1)) = idsR e (R.take j) ++ (List.range (madeX x)).map fun n => (x.1, n) := by
  unfold idsR
  rw [List.take_add_one, h]
  simp only [Option.toList_some, List.flatMap_append, List.flatMap_singleton, List.cons_append]
theorem idsR_len (e : ν) (R : GSet ν) : (idsR e R).length = 2 + (R.map madeX).sum := by
  unfold idsR
  rw [List.length_cons, List.length_cons, List.length_flatMap]
  have : (R.map fun a => ((List.range (madeX a)).map fun n => (a.1, n)).length) = R.map madeX := List.map_congr_left fun a _ => by simp
  rw [this]
  omega
end
section
variable {ν : Type} [DecidableEq ν]
theorem firstR_len (e : ν) : ∀ {R : GSet ν} {j : Nat} {x : ν × List (GOp ν)}, (R.map (·.1)).Nodup → R[j]? = some x → firstR R x.1 = (idsR e (R.take j)).length
  | [], j, x, _, h => by simp at h
  | y :: R, 0, x, _, h => by
    simp at h; subst h
    simp [firstR, idsR]
  | y :: R, j + 1, x, hn, h => by
    rw [List.getElem?_cons_succ] at h
    rw [List.map_cons, List.nodup_cons] at hn
    have hne : ¬ y.1 = x.1 := fun e1 => hn.1 (by rw [e1]; exact List.mem_map.2 ⟨x, List.mem_of_getElem? h, rfl⟩)
    have ih := firstR_len e hn.2 h
    unfold firstR
    rw [if_neg hne, ih, List.take_succ_cons, idsR_len, idsR_len, List.map_cons, List.sum_cons]
    omega
end
section
variable {ν : Type}
theorem tame_of {e : ν} {R : GSet ν} (hn : (R.map (·.1)).Nodup) (he : ∀ x ∈ R, x.1 ≠ e) : Tame e R := by
  refine ⟨?_, he⟩
  clear he
  induction R with
  | nil => intro x hx; cases hx
  | cons z R ih =>
    rw [List.map_cons, List.nodup_cons] at hn
    have key : ∀ x ∈ R, x.1 ≠ z.1 := fun x hx h => hn.1 (by rw [← h]; exact List.mem_map.2 ⟨x, hx, rfl⟩)
    intro x hx y hy h
    rcases List.mem_cons.1 hx with e1 | hx
    · rcases List.mem_cons.1 hy with e2 | hy
      · rw [e1, e2]
      · exact absurd (by rw [← h, e1]) (key y hy)
    · rcases List.mem_cons.1 hy with e2 | hy
      · exact absurd (by rw [h, e2]) (key x hx)
      · exact ih hn.2 x hx y hy h
end
section
variable {ν : Type}
theorem tame_perm {e : ν} {R M : GSet ν} (hp : M.Perm R) (h : Tame e R) : Tame e M := ⟨fun x hx y hy => h.one x (hp.mem_iff.1 hx) y (hp.mem_iff.1 hy), fun x hx => h.some x (hp.mem_iff.1 hx)⟩
theorem isId_perm {e : ν} {R M : GSet ν} (hp : M.Perm R) (i : ν × Nat) : isId e M i ↔ isId e R i := by
  unfold isId
  constructor
  · rintro (h | h | ⟨x, hx, h⟩)
    · exact .inl h
    · exact .inr (.inl h)
    · exact .inr (.inr ⟨x, hp.mem_iff.1 hx, h⟩)
  · rintro (h | h | ⟨x, hx, h⟩)
    · exact .inl h
    · exact .inr (.inl h)
    · exact .inr (.inr ⟨x, hp.mem_iff.2 hx, h⟩)
end
end Go.Proofs.YtojnagonhihknaaGreatDoor
set_option linter.unusedVariables false
set_option linter.unusedSimpArgs false
namespace Go.Proofs.YtojnagonhihknaaGreatDoor

section
variable {ν : Type}
structure DInv (e : ν) (ids : List (ν × Nat)) (pl : ν × Nat → Nat) (L : List (GEv ν)) (V : List (GVx ν)) (P : List (Nat × Nat)) (wt : Nat × Nat → Int) : Prop where
  id : V.map (·.id) = ids
  att : GrAtt e V (asgL pl L)
  del : ∀ k v, V[k]? = some v → v.del = delE pl L k
  put : P = putE pl L
  wt : ∀ p, wt p = wtE pl L p
def vs0 (e : ν) (ids : List (ν × Nat)) : List (GVx ν) := ids.map fun i => ⟨i, ⟨#[]⟩, (e, 0), (e, 0), 0⟩
theorem DInv.start (e : ν) (ids : List (ν × Nat)) (pl : ν × Nat → Nat) : DInv e ids pl [] (vs0 e ids) [] (fun _ => 0) := by
  refine ⟨by unfold vs0; rw [List.map_map]; exact List.map_id _, fun k v hv => .inr ?_, fun k v hv => ?_, rfl, fun p => rfl⟩
  · obtain ⟨i, _, rfl⟩ := Option.map_eq_some_iff.1 (by unfold vs0 at hv; rwa [List.getElem?_map] at hv)
    exact ⟨fun q hq => (by cases hq), rfl, rfl, rfl⟩
  · obtain ⟨i, _, rfl⟩ := Option.map_eq_some_iff.1 (by unfold vs0 at hv; rwa [List.getElem?_map] at hv)
    rfl
theorem asgL_snoc (pl : ν × Nat → Nat) (L : List (GEv ν)) (v : GEv ν) : asgL pl (L ++ [v]) = asgL pl L ++ asgO (pl (v.nm, v.m)) v.o := by unfold asgL; rw [List.flatMap_append, List.flatMap_singleton]
theorem putE_snoc (pl : ν × Nat → Nat) (L : List (GEv ν)) (v : GEv ν) : putE pl (L ++ [v]) = putE pl L ++ putO pl v := by unfold putE; rw [List.flatMap_append, List.flatMap_singleton]
theorem delE_snoc (pl : ν × Nat → Nat) (L : List (GEv ν)) (v : GEv ν) (k : Nat) : delE pl (L ++ [v]) k = delE pl L k + delO pl k v.o := by unfold delE; simp
theorem wtE_snoc (pl : ν × Nat → Nat) (L : List (GEv ν)) (v : GEv ν) (p : Nat × Nat) : wtE pl (L ++ [v]) p = wtE pl L p + wtO pl p v.o := by unfold wtE; simp
theorem delO_none {pl : ν × Nat → Nat} {k : Nat} {o : GOp ν} (h4 : o.kind ≠ 4) (h5 : o.kind ≠ 5) : delO pl k o = 0 := by unfold delO; rw [if_neg (fun h => h4 h.1), if_neg (fun h => h5 h.1)]
theorem wtO_none {pl : ν × Nat → Nat} {p : Nat × Nat} {o : GOp ν} (h2 : o.kind ≠ 2) (h3 : o.kind ≠ 3) : wtO pl p o = 0 := by unfold wtO; rw [if_neg (fun h => h2 h.1), if_neg (fun h => h3 h.1)]
theorem putO_none {pl : ν × Nat → Nat} {v : GEv ν} (h : v.o.kind ≠ 1) : putO pl v = [] := by unfold putO; rw [if_neg h]
theorem asgO_none {n : Nat} {o : GOp ν} (h : o.kind ≠ 1) : asgO n o = [] := by unfold asgO; rw [if_neg h]
theorem delE_le (pl : ν × Nat → Nat) (k : Nat) : ∀ L : List (GEv ν), -(L.length : Int) ≤ delE pl L k ∧ delE pl L k ≤ L.length
  | [] => ⟨by simp [delE], by simp [delE]⟩
  | v :: L => by
    have ih := delE_le pl k L
    have h : -1 ≤ delO pl k v.o ∧ delO pl k v.o ≤ 1 := by unfold delO; split <;> (try split) <;> omega
    have e : delE pl (v :: L) k = delO pl k v.o + delE pl L k := by unfold delE; simp
    rw [e, List.length_cons]
    omega
theorem wtE_le (pl : ν × Nat → Nat) (p : Nat × Nat) : ∀ L : List (GEv ν), -(L.length : Int) ≤ wtE pl L p ∧ wtE pl L p ≤ L.length
  | [] => ⟨by simp [wtE], by simp [wtE]⟩
  | v :: L => by
    have ih := wtE_le pl p L
    have h : -1 ≤ wtO pl p v.o ∧ wtO pl p v.o ≤ 1 := by unfold wtO; split <;> (try split) <;> omega
    have e : wtE pl (v :: L) p = wtO pl p v.o + wtE pl L p := by unfold wtE; simp
    rw [e, List.length_cons]
    omega
def lnG (A B : ν × Nat) (next : Nat) (ls : List ByteArray) (V : List (GVx ν)) : List (GVx ν) := V.mapIdx fun j v => if next ≤ j then (match ls[j - next]? with | some l => { v with line := l, above := A, below := B } | none => v) else v
theorem lnG_at (A B : ν × Nat) (next : Nat) (ls : List ByteArray) (V : List (GVx ν)) (j : Nat) : (lnG A B next ls V)[j]? = V[j]?.map fun v => if next ≤ j then (match ls[j - next]? with | some l => { v with line := l, above := A, below := B } | none => v) else v := by unfold lnG; rw [List.getElem?_mapIdx]
theorem lnG_id (A B : ν × Nat) (next : Nat) (ls : List ByteArray) (V : List (GVx ν)) : (lnG A B next ls V).map (·.id) = V.map (·.id) := by
  apply List.ext_getElem?
  intro j
  rw [List.getElem?_map, List.getElem?_map, lnG_at]
  cases V[j]? with
  | none => rfl
  | some v =>
    simp only [Option.map_some]
    split
    · split <;> rfl
    · rfl
theorem DInv.new {e : ν} {ids : List (ν × Nat)} {pl : ν × Nat → Nat} {L : List (GEv ν)} {V : List (GVx ν)} {P : List (Nat × Nat)} {wt : Nat × Nat → Int} (h : DInv e ids pl L V P wt) (v : GEv ν) (hk : v.o.kind = 1) :
    DInv e ids pl (L ++ [v]) (lnG v.o.a v.o.b (pl (v.nm, v.m)) v.o.lines V) (P ++ chainI (pl v.o.a) ((List.range v.o.lines.length).map fun k => pl (v.nm, v.m) + k) (pl v.o.b)) wt := by
  refine ⟨by rw [lnG_id, h.id], fun k u hu => ?_, fun k u hu => ?_, ?_, fun p => ?_⟩
  · rw [lnG_at] at hu
    obtain ⟨u0, h0, rfl⟩ := Option.map_eq_some_iff.1 hu
    rw [asgL_snoc]
    have eO : asgO (pl (v.nm, v.m)) v.o = (v.o.lines.zipIdx (pl (v.nm, v.m))).map fun q => (q.2, (q.1, v.o.a, v.o.b)) := by unfold asgO; rw [if_pos hk]
    have hmemO : ∀ q, q ∈ asgO (pl (v.nm, v.m)) v.o → pl (v.nm, v.m) ≤ q.1 ∧ v.o.lines[q.1 - pl (v.nm, v.m)]? = some q.2.1 := fun q hq => by
      rw [eO] at hq
      obtain ⟨⟨l, j⟩, hz, rfl⟩ := List.mem_map.1 hq
      exact List.mem_zipIdx_iff_le_and_getElem?_sub.1 hz
    by_cases hn : pl (v.nm, v.m) ≤ k
    · rw [if_pos hn]
      cases hl : v.o.lines[k - pl (v.nm, v.m)]? with
      | some l =>
        refine .inl ⟨(k, (l, v.o.a, v.o.b)), List.mem_append.2 (.inr ?_), rfl, rfl⟩
        rw [eO]
        exact List.mem_map.2 ⟨(l, k), List.mem_zipIdx_iff_le_and_getElem?_sub.2 ⟨hn, hl⟩, rfl⟩
      | none =>
        rcases h.att k u0 h0 with ⟨q, hq, q1, q2⟩ | ⟨hno, hr⟩
        · exact .inl ⟨q, List.mem_append.2 (.inl hq), q1, q2⟩
        · refine .inr ⟨fun q hq => ?_, hr⟩
          rcases List.mem_append.1 hq with hq | hq
          · exact hno q hq
          · obtain ⟨_, h2⟩ := hmemO q hq
            intro e1
            rw [e1, hl] at h2
            cases h2
    · rw [if_neg hn]
      rcases h.att k u0 h0 with ⟨q, hq, q1, q2⟩ | ⟨hno, hr⟩
      · exact .inl ⟨q, List.mem_append.2 (.inl hq), q1, q2⟩
      · refine .inr ⟨fun q hq => ?_, hr⟩
        rcases List.mem_append.1 hq with hq | hq
        · exact hno q hq
        · obtain ⟨h1, _⟩ := hmemO q hq
          intro e1
          rw [e1] at h1
          exact hn h1
  · rw [lnG_at] at hu
    obtain ⟨u0, h0, rfl⟩ := Option.map_eq_some_iff.1 hu
    rw [delE_snoc, delO_none (by omega) (by omega), Int.add_zero, ← h.del k u0 h0]
    split
    · split <;> rfl
    · rfl
  · rw [putE_snoc, h.put]
    congr 1
    unfold putO
    rw [if_pos hk]
  · rw [wtE_snoc, wtO_none (by omega) (by omega), Int.add_zero, h.wt]
theorem DInv.join {e : ν} {ids : List (ν × Nat)} {pl : ν × Nat → Nat} {L : List (GEv ν)} {V : List (GVx ν)} {P : List (Nat × Nat)} {wt : Nat × Nat → Int} (h : DInv e ids pl L V P wt) (v : GEv ν) {c : Int} (hk : (v.o.kind = 2 ∧ c = 1) ∨ (v.o.kind = 3 ∧ c = -1)) {wt' : Nat × Nat → Int} (hw : ∀ p, wt' p = if p = (pl v.o.a, pl v.o.b) then wt p + c else wt p) :
    DInv e ids pl (L ++ [v]) V P wt' := by
  have hk1 : v.o.kind ≠ 1 := by omega
  refine ⟨h.id, fun k u hu => ?_, fun k u hu => ?_, ?_, fun p => ?_⟩
  · rw [asgL_snoc, asgO_none hk1, List.append_nil]
    exact h.att k u hu
  · rw [delE_snoc, delO_none (by omega) (by omega), Int.add_zero, h.del k u hu]
  · rw [putE_snoc, putO_none hk1, List.append_nil, h.put]
  · rw [wtE_snoc, hw, h.wt]
    unfold wtO
    by_cases e1 : p = (pl v.o.a, pl v.o.b)
    · rw [if_pos e1]
      rcases hk with ⟨h1, h2⟩ | ⟨h1, h2⟩
      · rw [if_pos ⟨h1, e1.symm⟩, h2]
      · rw [if_neg (fun h => by have := h.1; omega), if_pos ⟨h1, e1.symm⟩, h2]
    · rw [if_neg e1, if_neg (fun h => e1 h.2.symm), if_neg (fun h => e1 h.2.symm), Int.add_zero]
theorem DInv.delete {e : ν} {ids : List (ν × Nat)} {pl : ν × Nat → Nat} {L : List (GEv ν)} {V : List (GVx ν)} {P : List (Nat × Nat)} {wt : Nat × Nat → Int} (h : DInv e ids pl L V P wt) (v : GEv ν) {c : Int} (hk : (v.o.kind = 4 ∧ c = 1) ∨ (v.o.kind = 5 ∧ c = -1)) {u0 : GVx ν} (hu0 : V[pl v.o.a]? = some u0) :
    DInv e ids pl (L ++ [v]) (V.set (pl v.o.a) { u0 with del := u0.del + c }) P wt := by
  have hk1 : v.o.kind ≠ 1 := by omega
  have hlt := (List.getElem?_eq_some_iff.1 hu0).1
  have key : ∀ k u, (V.set (pl v.o.a) { u0 with del := u0.del + c })[k]? = some u → ∃ u1, V[k]? = some u1 ∧ u.id = u1.id ∧ u.line = u1.line ∧ u.above = u1.above ∧ u.below = u1.below ∧ u.del = u1.del + (if pl v.o.a = k then c else 0) := fun k u hu => by
    rw [List.getElem?_set] at hu
    by_cases e1 : pl v.o.a = k
    · rw [if_pos e1, if_pos hlt] at hu
      injection hu with hu
      subst hu
      rw [if_pos e1]
      exact ⟨u0, by rw [← e1]; exact hu0, rfl, rfl, rfl, rfl, rfl⟩
    · rw [if_neg e1] at hu
      rw [if_neg e1]
      exact ⟨u, hu, rfl, rfl, rfl, rfl, (Int.add_zero _).symm⟩
  refine ⟨?_, fun k u hu => ?_, fun k u hu => ?_, ?_, fun p => ?_⟩
  · rw [← h.id, List.map_set]
    apply List.ext_getElem?
    intro k
    rw [List.getElem?_set, List.length_map]
    by_cases e1 : pl v.o.a = k
    · rw [if_pos e1, if_pos hlt, List.getElem?_map, ← e1, hu0]; rfl
    · rw [if_neg e1]
  · obtain ⟨u1, h1, _, e2, e3, e4, _⟩ := key k u hu
    rw [asgL_snoc, asgO_none hk1, List.append_nil, e2, e3, e4]
    exact h.att k u1 h1
  · obtain ⟨u1, h1, _, _, _, _, e5⟩ := key k u hu
    rw [e5, delE_snoc, h.del k u1 h1]
    congr 1
    unfold delO
    by_cases e1 : pl v.o.a = k
    · rw [if_pos e1]
      rcases hk with ⟨h1, h2⟩ | ⟨h1, h2⟩
      · rw [if_pos ⟨h1, e1⟩, h2]
      · rw [if_neg (fun h => by have := h.1; omega), if_pos ⟨h1, e1⟩, h2]
    · rw [if_neg e1, if_neg (fun h => e1 h.2), if_neg (fun h => e1 h.2)]
  · rw [putE_snoc, putO_none hk1, List.append_nil, h.put]
  · rw [wtE_snoc, wtO_none (by omega) (by omega), Int.add_zero, h.wt]
def costE (L : List (GEv ν)) : Nat := (L.map fun v => v.o.lines.length + 1).sum
theorem costE_snoc (L : List (GEv ν)) (v : GEv ν) : costE (L ++ [v]) = costE L + (v.o.lines.length + 1) := by unfold costE; simp
theorem len_cost (L : List (GEv ν)) : L.length ≤ costE L := by
  unfold costE
  induction L with
  | nil => simp
  | cons v L ih => simp only [List.length_cons, List.map_cons, List.sum_cons]; omega
end
end Go.Proofs.YtojnagonhihknaaGreatDoor
set_option linter.unusedVariables false
set_option linter.unusedSimpArgs false
namespace Go.Proofs.YtojnagonhihknaaGreatDoor

abbrev nil0 : ByteArray := ⟨#[]⟩
def idR (nm : ByteArray) (deps : Lb) (r : Rf) : ByteArray × Nat := (if r.at_ = -1 then nil0 else whoR nm deps r, r.n.toNat)
def gop (nm : ByteArray) (deps : Lb) (o : Opp) : GOp ByteArray := ⟨o.kind, idR nm deps o.a, idR nm deps o.b, o.lines⟩
def gpt (x : ByteArray × Pt) : ByteArray × List (GOp ByteArray) := (x.1, x.2.ops.map (gop x.1 x.2.deps))
def gsetS (S : SetP) : GSet ByteArray := S.map gpt
theorem news_len (nm : ByteArray) (deps : Lb) (ops : List Opp) : (newsL (ops.map (gop nm deps))).length = madeN ops := by
  unfold newsL
  induction ops with
  | nil => rfl
  | cons o r ih =>
    rw [List.map_cons, List.flatMap_cons, List.length_append, ih, madeN]
    congr 1
    show (if o.kind = 1 then _ else _ : List _).length = _
    split
    · rw [List.length_map]; rfl
    · rfl
theorem madeX_gpt (x : ByteArray × Pt) : madeX (gpt x) = madeN x.2.ops := news_len _ _ _
theorem evP_take {nm : ByteArray} {deps : Lb} {ops : List Opp} {k : Nat} {o : Opp} (h : ops[k]? = some o) (m : Nat) : evP nm m ((ops.take (k + 1)).map (gop nm deps)) = evP nm m ((ops.take k).map (gop nm deps)) ++ [⟨nm, m + madeN (ops.take k), gop nm deps o⟩] := by
  induction ops generalizing k m with
  | nil => simp at h
  | cons y r ih =>
    cases k with
    | zero =>
      simp at h; subst h
      simp [evP, madeN]
    | succ k =>
      rw [List.getElem?_cons_succ] at h
      have := ih h (m + if (gop nm deps y).kind = 1 then (gop nm deps y).lines.length else 0)
      rw [List.take_succ_cons, List.map_cons, List.take_succ_cons, List.map_cons]
      show _ :: evP nm _ _ = _ :: (evP nm _ _ ++ _)
      rw [this, madeN]
      show _ = _ :: (_ ++ [(⟨nm, m + ((if y.kind = 1 then y.lines.length else 0) + madeN (r.take k)), gop nm deps o⟩ : GEv ByteArray)])
      rw [← Nat.add_assoc]
      rfl
def vxG (v : GVx ByteArray) : Vx := ⟨v.id.1, (v.id.2 : Int), v.line, v.del, v.above.1, (v.above.2 : Int), v.below.1, (v.below.2 : Int)⟩
def prI (L : List (Nat × Nat)) : List (Int × Int) := L.map fun p => ((p.1 : Int), (p.2 : Int))
theorem prI_app (L M : List (Nat × Nat)) : prI (L ++ M) = prI L ++ prI M := by unfold prI; rw [List.map_append]
structure RefD (R : GSet ByteArray) (nm : ByteArray) (deps : Lb) (r : Rf) : Prop where
  at_ : r.at_ = -1 ∨ r.at_ = -2 ∨ (0 ≤ r.at_ ∧ r.at_ < deps.length)
  n0 : 0 ≤ r.n
  n1 : r.n ≤ 1000000000000
  id : isId nil0 R (idR nm deps r)
  who : r.at_ ≠ -1 → whoR nm deps r ∈ R.map (·.1) ∧ (whoR nm deps r).size ≤ 140737488355328
def fR (R : GSet ByteArray) (x : ByteArray) : Int := (firstR R x : Int)
theorem firstR_le : ∀ (R : GSet ByteArray) (x : ByteArray), firstR R x ≤ (idsR nil0 R).length
  | [], x => by simp [firstR, idsR]
  | y :: R, x => by
    have ih := firstR_le R x
    have e : (idsR nil0 (y :: R)).length = madeX y + (idsR nil0 R).length := by simp [idsR]; omega
    rw [e]
    unfold firstR
    split
    · have : 2 ≤ (idsR nil0 R).length := by simp [idsR]
      omega
    · omega
theorem RefD.refG {R : GSet ByteArray} {nm : ByteArray} {deps : Lb} {r : Rf} (h : RefD R nm deps r) (hb : (idsR nil0 R).length ≤ 1000000000) : RefG (R.map (·.1)) (fR R) nm deps r :=
  ⟨h.at_, fun hne => ⟨(h.who hne).1, (h.who hne).2, by unfold fR; omega, by unfold fR; have := firstR_le R (whoR nm deps r); omega, h.n0, h.n1⟩⟩
theorem RefD.plG {R : GSet ByteArray} (hM : Tame nil0 R) {nm : ByteArray} {deps : Lb} {r : Rf} (h : RefD R nm deps r) : plG (fR R) nm deps r = ((plR nil0 R (idR nm deps r) : Nat) : Int) := by
  have hn := h.n0
  unfold Go.Proofs.YtojnagonhihknaaGreatDoor.plG plR idR
  by_cases e : r.at_ = -1
  · rw [if_pos e, if_pos e, if_pos rfl]
    show r.n = ((r.n.toNat : Nat) : Int)
    omega
  · rw [if_neg e, if_neg e]
    have hne : whoR nm deps r ≠ nil0 := by
      obtain ⟨x, hx, e2⟩ := List.mem_map.1 (h.who e).1
      rw [← e2]
      exact hM.some x hx
    rw [if_neg hne]
    show (firstR R (whoR nm deps r) : Int) + r.n = ((firstR R (whoR nm deps r) + r.n.toNat : Nat) : Int)
    omega
theorem RefD.lt {R : GSet ByteArray} (hM : Tame nil0 R) {nm : ByteArray} {deps : Lb} {r : Rf} (h : RefD R nm deps r) : plR nil0 R (idR nm deps r) < (idsR nil0 R).length := (List.getElem?_eq_some_iff.1 (idsR_at hM h.id)).1
structure SkD (R : GSet ByteArray) (L : List (GEv ByteArray)) (S : Sk) : Prop where
  ks : S.ks = R.map (·.1)
  f : S.f = fR R
  ex : ∃ V P wt, DInv nil0 (idsR nil0 R) (plR nil0 R) L V P wt ∧ S.vs = V.map vxG ∧ S.put = prI P ∧ (∀ a b : Nat, S.wt ((a : Int), (b : Int)) = wt (a, b)) ∧ (∀ q ∈ S.js, ∃ a b : Nat, q = ((a : Int), (b : Int)) ∧ a < (idsR nil0 R).length ∧ b < (idsR nil0 R).length) ∧ S.c ≤ costE L ∧ P.length ≤ costE L ∧ S.js.length ≤ costE L
theorem SkD.vlen {R : GSet ByteArray} {L : List (GEv ByteArray)} {S : Sk} (h : SkD R L S) : S.vs.length = (idsR nil0 R).length := by
  obtain ⟨V, P, wt, hD, hv, _⟩ := h.ex
  rw [hv, List.length_map, ← hD.id, List.length_map]
theorem SkD.plen {R : GSet ByteArray} {L : List (GEv ByteArray)} {S : Sk} (h : SkD R L S) : S.put.length ≤ costE L := by
  obtain ⟨V, P, wt, hD, hv, hp, _, _, _, h2, _⟩ := h.ex
  rw [hp]; unfold prI; rw [List.length_map]; exact h2
theorem SkD.at {R : GSet ByteArray} {L : List (GEv ByteArray)} {S : Sk} (h : SkD R L S) {i : ByteArray × Nat} {k : Nat} (hk : (idsR nil0 R)[k]? = some i) : ∃ x, S.vs[k]? = some x ∧ x.pn = i.1 ∧ x.n = (i.2 : Int) ∧ -(costE L : Int) ≤ x.del ∧ x.del ≤ costE L := by
  obtain ⟨V, P, wt, hD, hv, _⟩ := h.ex
  rw [← hD.id, List.getElem?_map] at hk
  obtain ⟨v, hvk, rfl⟩ := Option.map_eq_some_iff.1 hk
  have h1 := hD.del k v hvk
  have h2 := delE_le (plR nil0 R) k L
  have h3 := len_cost L
  refine ⟨vxG v, by rw [hv, List.getElem?_map, hvk]; rfl, rfl, rfl, ?_, ?_⟩
  · show _ ≤ v.del; omega
  · show v.del ≤ _; omega
theorem lnV_lnG (A B : ByteArray × Nat) (next : Nat) (ls : Lb) (V : List (GVx ByteArray)) : lnV (A.1, (A.2 : Int)) (B.1, (B.2 : Int)) next ls (V.map vxG) = (lnG A B next ls V).map vxG := by
  apply List.ext_getElem?
  intro j
  rw [lnV_at, List.getElem?_map, List.getElem?_map, lnG_at]
  cases V[j]? with
  | none => rfl
  | some v =>
    simp only [Option.map_some]
    by_cases h : next ≤ j
    · rw [if_pos h, if_pos h]
      cases ls[j - next]? <;> rfl
    · rw [if_neg h, if_neg h]
theorem cpN_chain (ea next eb : Nat) : ∀ n : Nat, cpN ea next n ++ [((ahdN ea next n : Int), (eb : Int))] = prI (chainI ea ((List.range n).map fun k => next + k) eb) := by
  have key : ∀ (l : List Nat) (a b c : Nat), chainI a (l ++ [b]) c = (chainI a l b) ++ [(b, c)] := by
    intro l
    induction l with
    | nil => intro a b c; rfl
    | cons x l ih => intro a b c; simp [chainI, ih]
  intro n
  induction n generalizing eb with
  | zero => simp [cpN, ahdN, chainI, prI]
  | succ n ih =>
    rw [cpN_step, ahdN_step, List.range_succ, List.map_append, List.map_singleton, key, prI_app, ← ih (next + n)]
    rfl
theorem chain_len {β : Type} : ∀ (a : β) (l : List β) (b : β), (chainI a l b).length = l.length + 1
  | a, [], b => rfl
  | a, x :: l, b => by simp [chainI, chain_len x l b]
theorem SkD.new {R : GSet ByteArray} {L : List (GEv ByteArray)} {S : Sk} (h : SkD R L S) (hM : Tame nil0 R) {nm : ByteArray} {deps : Lb} {m : Nat} {o : Opp} (hk : o.kind = 1) (ha : RefD R nm deps o.a) (hb : RefD R nm deps o.b) {next ea eb : Nat} {xa xb : Vx} (hn : next = plR nil0 R (nm, m)) (hea : ea = plR nil0 R (idR nm deps o.a)) (heb : eb = plR nil0 R (idR nm deps o.b)) (hxa : S.vs[ea]? = some xa) (hxb : S.vs[eb]? = some xb) :
    SkD R (L ++ [⟨nm, m, gop nm deps o⟩]) { S with vs := lnV (xa.pn, xa.n) (xb.pn, xb.n) next o.lines S.vs, put := S.put ++ cpN ea next o.lines.length ++ [((ahdN ea next o.lines.length : Int), (eb : Int))] } := by
  subst hn hea heb
  obtain ⟨V, P, wt, hD, hv, hp, hw, hj, hc, hpl, hjl⟩ := h.ex
  obtain ⟨ya, h1, h2, h3, _⟩ := h.at (idsR_at hM ha.id)
  obtain ⟨yb, h4, h5, h6, _⟩ := h.at (idsR_at hM hb.id)
  rw [hxa] at h1
  rw [hxb] at h4
  injection h1 with h1
  injection h4 with h4
  subst h1 h4
  have hD2 := hD.new ⟨nm, m, gop nm deps o⟩ hk
  refine ⟨h.ks, h.f, _, _, _, hD2, ?_, ?_, hw, hj, ?_, ?_, ?_⟩
  · show lnV _ _ _ _ S.vs = _
    rw [h2, h3, h5, h6, hv]
    exact lnV_lnG _ _ _ _ _
  · show S.put ++ _ ++ _ = _
    rw [List.append_assoc, cpN_chain, hp, prI_app]
    rfl
  · show S.c ≤ _; rw [costE_snoc]; omega
  · rw [List.length_append, chain_len, costE_snoc, List.length_map, List.length_range]
    show _ + (o.lines.length + 1) ≤ _ + (o.lines.length + 1)
    omega
  · show S.js.length ≤ _; rw [costE_snoc]; omega
theorem SkD.join {R : GSet ByteArray} {L : List (GEv ByteArray)} {S : Sk} (h : SkD R L S) (hM : Tame nil0 R) {nm : ByteArray} {deps : Lb} {m : Nat} {o : Opp} {c : Int} (hk : (o.kind = 2 ∧ c = 1) ∨ (o.kind = 3 ∧ c = -1)) (ha : RefD R nm deps o.a) (hb : RefD R nm deps o.b) {ea eb : Nat} (hea : ea = plR nil0 R (idR nm deps o.a)) (heb : eb = plR nil0 R (idR nm deps o.b)) :
    SkD R (L ++ [⟨nm, m, gop nm deps o⟩]) { S with js := if ((ea : Int), (eb : Int)) ∈ S.js then S.js else S.js ++ [((ea : Int), (eb : Int))], wt := fun q => if q = ((ea : Int), (eb : Int)) then S.wt ((ea : Int), (eb : Int)) + c else S.wt q, c := S.c + 1 } := by
  subst hea heb
  obtain ⟨V, P, wt, hD, hv, hp, hw, hj, hc, hpl, hjl⟩ := h.ex
  have hla := ha.lt hM
  have hlb := hb.lt hM
  have hD2 := hD.join ⟨nm, m, gop nm deps o⟩ (c := c) hk (wt' := fun p => if p = (plR nil0 R (idR nm deps o.a), plR nil0 R (idR nm deps o.b)) then wt p + c else wt p) (fun p => rfl)
  refine ⟨h.ks, h.f, _, _, _, hD2, hv, hp, fun a b => ?_, fun q hq => ?_, ?_, ?_, ?_⟩
  · show (if _ then _ else _) = (if _ then _ else _)
    by_cases e : a = plR nil0 R (idR nm deps o.a) ∧ b = plR nil0 R (idR nm deps o.b)
    · obtain ⟨rfl, rfl⟩ := e
      rw [if_pos rfl, if_pos rfl, hw]
    · rw [if_neg (fun h => e (by injection h with h1 h2; exact ⟨by omega, by omega⟩)), if_neg (fun h => e (by injection h with h1 h2; exact ⟨h1, h2⟩)), hw]
  · simp only at hq
    split at hq
    · exact hj q hq
    · rcases List.mem_append.1 hq with hq | hq
      · exact hj q hq
      · exact ⟨_, _, List.mem_singleton.1 hq, hla, hlb⟩
  · show S.c + 1 ≤ _; rw [costE_snoc]; omega
  · rw [costE_snoc]; omega
  · show (if _ then _ else _ : List _).length ≤ _
    rw [costE_snoc]
    split
    · omega
    · rw [List.length_append, List.length_singleton]; omega
theorem SkD.delete {R : GSet ByteArray} {L : List (GEv ByteArray)} {S : Sk} (h : SkD R L S) (hM : Tame nil0 R) {nm : ByteArray} {deps : Lb} {m : Nat} {o : Opp} {c : Int} (hk : (o.kind = 4 ∧ c = 1) ∨ (o.kind = 5 ∧ c = -1)) (ha : RefD R nm deps o.a) {ea : Nat} {x : Vx} (hea : ea = plR nil0 R (idR nm deps o.a)) (hx : S.vs[ea]? = some x) :
    SkD R (L ++ [⟨nm, m, gop nm deps o⟩]) { S with vs := S.vs.set ea { x with del := x.del + c } } := by
  subst hea
  obtain ⟨V, P, wt, hD, hv, hp, hw, hj, hc, hpl, hjl⟩ := h.ex
  rw [hv, List.getElem?_map] at hx
  obtain ⟨u, hu, rfl⟩ := Option.map_eq_some_iff.1 hx
  have hD2 := hD.delete ⟨nm, m, gop nm deps o⟩ (c := c) hk hu
  refine ⟨h.ks, h.f, _, _, _, hD2, ?_, hp, hw, hj, ?_, ?_, ?_⟩
  · show S.vs.set _ _ = _
    rw [hv, List.map_set]
    rfl
  · show S.c ≤ _; rw [costE_snoc]; omega
  · rw [costE_snoc]; omega
  · show S.js.length ≤ _; rw [costE_snoc]; omega
theorem okP_nat {a b : Nat} (ha : a ≤ 1000000000) (hb : b ≤ 1000000000) : okP ((a : Int), (b : Int)) := by unfold okP; simp only; omega
end Go.Proofs.YtojnagonhihknaaGreatDoor
