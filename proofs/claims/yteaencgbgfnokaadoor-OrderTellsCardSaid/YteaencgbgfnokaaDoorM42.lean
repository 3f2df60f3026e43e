/- Mathematics: the document's order of patches: the least that can be told, the past as it grows, the heads. -/
import Derived.Test.YteaencgbgfnokaaDoorM27
import Derived.Test.YteaencgbgfnokaaDoorM28
import Derived.Test.YteaencgbgfnokaaDoorM4
set_option linter.unusedVariables false
namespace Go.Proofs.YteaencgbgfnokaaDoor

theorem bsOf_inj {x y : ByteArray} (h : bsOf x = bsOf y) : x = y := by
  rw [← tx_data x, ← tx_data y]
  exact congrArg tx h
theorem mem_bs {x : ByteArray} {l : Lb} : bsOf x ∈ l.map bsOf ↔ x ∈ l := by
  rw [List.mem_map]
  constructor
  · rintro ⟨y, hy, e⟩
    rw [← bsOf_inj e]; exact hy
  · exact fun h => ⟨x, h, rfl⟩
abbrev nmL (S : SetB) : Lb := S.map fun p => p.1
theorem nm_ns {S : SetB} {x : ByteArray} : bsOf x ∈ nsB S ↔ x ∈ nmL S := by
  rw [nsB_mem, List.mem_map]
  constructor
  · rintro ⟨p, hp, e⟩
    exact ⟨p, hp, bsOf_inj e⟩
  · rintro ⟨p, hp, e⟩
    exact ⟨p, hp, by rw [e]⟩
theorem take_mem {α : Type} {l : List α} {k : Nat} {p q : α} (h : l[k]? = some p) : q ∈ l.take (k + 1) ↔ q ∈ l.take k ∨ q = p := by
  rw [List.take_add_one, h]
  simp

def inB (l : Lb) (x : ByteArray) : Bool := decide (0 ≤ Lib.idxOfS l x)
theorem inB_iff {l : Lb} {x : ByteArray} : inB l x = true ↔ x ∈ l := by rw [inB, decide_eq_true_iff]; exact idx_mem
theorem inB_true {l : Lb} {x : ByteArray} (h : x ∈ l) : inB l x = true := inB_iff.2 h
theorem inB_false {l : Lb} {x : ByteArray} (h : x ∉ l) : inB l x = false := Bool.eq_false_iff.2 fun e => h (inB_iff.1 e)

def canP (told : Lb) (p : ByteArray × Lb) : Bool := !inB told p.1 && p.2.all fun d => inB told d
theorem canP_iff {told : Lb} {p : ByteArray × Lb} : canP told p = true ↔ p.1 ∉ told ∧ ∀ d ∈ p.2, d ∈ told := by
  unfold canP
  rw [Bool.and_eq_true, Bool.not_eq_true', List.all_eq_true]
  constructor
  · rintro ⟨h1, h2⟩
    exact ⟨fun h => (by rw [inB_true h] at h1; cases h1), fun d hd => inB_iff.1 (h2 d hd)⟩
  · rintro ⟨h1, h2⟩
    exact ⟨inB_false h1, fun d hd => inB_true (h2 d hd)⟩
def LeastQ (S : SetB) (told : Lb) (s : ByteArray) (ok : Bool) : Prop :=
  (ok = false ∧ ∀ p ∈ S, canP told p = false) ∨ (ok = true ∧ (∃ p ∈ S, p.1 = s ∧ canP told p = true) ∧ ∀ q ∈ S, canP told q = true → ¬ bsOf q.1 < bsOf s)
theorem leastq_begin (told : Lb) (S : SetB) : LeastQ (S.take 0) told ByteArray.empty false := .inl ⟨rfl, fun p h => by simp at h⟩
theorem bs_irr (a : Bs) : ¬ a < a := fun h => (bs_lt.1 h).2 rfl
theorem leastq_take {S : SetB} {told : Lb} {b : ByteArray} {f : Bool} {k : Nat} {p : ByteArray × Lb} (h : LeastQ (S.take k) told b f) (hp : S[k]? = some p) (hc : canP told p = true) (hl : f = false ∨ bsOf p.1 < bsOf b) : LeastQ (S.take (k + 1)) told p.1 true := by
  refine .inr ⟨rfl, ⟨p, (take_mem hp).2 (.inr rfl), rfl, hc⟩, fun q hq hcq => ?_⟩
  rcases (take_mem hp).1 hq with hq | rfl
  · rcases h with ⟨rfl, h⟩ | ⟨rfl, _, h⟩
    · rw [h q hq] at hcq; cases hcq
    · rcases hl with hl | hl
      · cases hl
      · exact fun hlt => h q hq hcq (bs_lt_trans hlt hl)
  · exact bs_irr _
theorem leastq_skip {S : SetB} {told : Lb} {b : ByteArray} {f : Bool} {k : Nat} {p : ByteArray × Lb} (h : LeastQ (S.take k) told b f) (hp : S[k]? = some p) (hc : canP told p = false ∨ (f = true ∧ ¬ bsOf p.1 < bsOf b)) : LeastQ (S.take (k + 1)) told b f := by
  rcases h with ⟨rfl, h⟩ | ⟨rfl, ⟨q0, hq0, e0, c0⟩, h⟩
  · refine .inl ⟨rfl, fun q hq => ?_⟩
    rcases (take_mem hp).1 hq with hq | rfl
    · exact h q hq
    · rcases hc with hc | ⟨hc, _⟩
      · exact hc
      · cases hc
  · refine .inr ⟨rfl, ⟨q0, (take_mem hp).2 (.inl hq0), e0, c0⟩, fun q hq hcq => ?_⟩
    rcases (take_mem hp).1 hq with hq | rfl
    · exact h q hq hcq
    · rcases hc with hc | ⟨_, hc⟩
      · rw [hc] at hcq; cases hcq
      · exact hc
theorem can_canR {S : SetB} {told : Lb} {s : Bs} : canR (s6 S) (told.map bsOf) s ↔ ∃ p ∈ S, bsOf p.1 = s ∧ canP told p = true := by
  unfold canR s6
  constructor
  · rintro ⟨q, hq, h1, h2, h3⟩
    obtain ⟨p, hp, rfl⟩ := List.mem_map.1 hq
    simp only at h1 h2 h3
    refine ⟨p, hp, h1, canP_iff.2 ⟨fun h => h2 (by rw [← h1]; exact mem_bs.2 h), fun d hd => mem_bs.1 (h3 _ (List.mem_map.2 ⟨d, hd, rfl⟩))⟩⟩
  · rintro ⟨p, hp, h1, hc⟩
    obtain ⟨c1, c2⟩ := canP_iff.1 hc
    refine ⟨_, List.mem_map.2 ⟨p, hp, rfl⟩, h1, fun h => c1 (mem_bs.1 (by rw [h1]; exact h)), fun d hd => ?_⟩
    obtain ⟨x, hx, rfl⟩ := List.mem_map.1 hd
    exact mem_bs.2 (c2 x hx)
structure ToldQ (S : SetB) (told : Lb) : Prop where
  nd : (nmL S).Nodup
  sub : ∀ x ∈ told, x ∈ nmL S
  reach : ReachK (needS S) (nsB S).length ((told.map bsOf).map (placeB (nsB S)))
theorem nd_bs {S : SetB} (h : (nmL S).Nodup) : (S.map fun p => bsOf p.1).Nodup := by
  have e : (S.map fun p => bsOf p.1) = (nmL S).map bsOf := by rw [List.map_map]; rfl
  rw [e, List.Nodup, List.pairwise_map]
  exact h.imp fun hab e => hab (bsOf_inj e)
theorem s6_names (S : SetB) : (s6 S).map (·.1) = S.map fun p => bsOf p.1 := by unfold s6; rw [List.map_map]; rfl
theorem toldq_begin {S : SetB} (h : (nmL S).Nodup) : ToldQ S [] := ⟨h, fun x hx => (by cases hx), .nil⟩
theorem toldq_hm (S : SetB) : ∀ x, x ∈ nsB S ↔ x ∈ (s6 S).map (·.1) := fun x => by rw [s6_names, nsB_mem, List.mem_map]
theorem toldq_step {S : SetB} {told : Lb} {s : ByteArray} (h : ToldQ S told) (hl : LeastQ S told s true) : ToldQ S (told ++ [s]) := by
  rcases hl with ⟨e, _⟩ | ⟨_, ⟨p, hp, rfl, hc⟩, hmin⟩
  · cases e
  refine ⟨h.nd, fun x hx => ?_, ?_⟩
  · rcases List.mem_append.1 hx with hx | hx
    · exact h.sub x hx
    · rw [List.mem_singleton.1 hx]
      exact List.mem_map.2 ⟨p, hp, rfl⟩
  · have ht : ∀ t ∈ told.map bsOf, t ∈ nsB S := fun t ht => by
      obtain ⟨x, hx, rfl⟩ := List.mem_map.1 ht
      exact nm_ns.2 (h.sub x hx)
    have := least_step (nsB_spec S).1 (toldq_hm S) (by rw [s6_names]; exact nd_bs h.nd) ht h.reach (can_canR.2 ⟨p, hp, rfl, hc⟩) (fun x hx => Classical.byContradiction fun hle => by
      obtain ⟨q, hq, rfl, hcq⟩ := can_canR.1 hx
      exact hmin q hq hcq (bs_not_le.1 hle))
    have h1 := this.1
    rw [List.map_append]
    exact h1
theorem toldq_none {S : SetB} {told : Lb} {s : ByteArray} (h : ToldQ S told) (hl : LeastQ S told s false) (hlt : told.length < S.length) : LinR S [] 11 := by
  have hn : nextK (needS S) (nsB S).length ((told.map bsOf).map (placeB (nsB S))) = none := by
    refine least_none (nsB_spec S).1 (toldq_hm S) (by rw [s6_names]; exact nd_bs h.nd) (fun t ht => ?_) fun x hx => ?_
    · obtain ⟨y, hy, rfl⟩ := List.mem_map.1 ht
      exact nm_ns.2 (h.sub y hy)
    · obtain ⟨q, hq, rfl, hcq⟩ := can_canR.1 hx
      rcases hl with ⟨_, hl⟩ | ⟨e, _⟩
      · rw [hl q hq] at hcq; cases hcq
      · cases e
  exact .inr ⟨nsB_full (nd_bs h.nd), _, h.reach, hn, .inl ⟨by simpa using hlt, rfl, rfl⟩⟩
theorem ns_back {S : SetB} {x : ByteArray} (hx : x ∈ nmL S) : (nsOf S).getD (placeB (nsB S) (bsOf x)).toNat ByteArray.empty = x := by
  obtain ⟨u, hu, h1, h2⟩ := place_in (nm_ns.2 hx)
  rw [h1]
  apply bsOf_inj
  rw [Int.toNat_natCast, nsOf_getD, List.getD_eq_getElem?_getD, List.getElem?_eq_getElem hu]
  exact h2
theorem toldq_full {S : SetB} {told : Lb} (h : ToldQ S told) (hl : told.length = S.length) : LinR S told 0 := by
  have hf := nsB_full (nd_bs h.nd)
  refine .inr ⟨hf, _, h.reach, reach_full h.reach (by simpa [hf] using hl), .inr ⟨by simpa using hl, ?_, rfl⟩⟩
  rw [List.map_map, List.map_map]
  refine (List.map_id told).symm.trans (List.map_congr_left fun x hx => ?_)
  exact (ns_back (h.sub x hx)).symm
theorem twice_lin {S : SetB} (h : ¬ (nmL S).Nodup) : LinR S [] 12 := by
  refine .inl ⟨?_, rfl, rfl⟩
  have hle : (nsB S).length ≤ S.length := by
    have := nodup_sub (nsB_nodup S) (m := S.map fun p => bsOf p.1) (fun x hx => by
      obtain ⟨p, hp, e⟩ := nsB_mem.1 hx
      exact List.mem_map.2 ⟨p, hp, e⟩)
    simpa using this
  rcases Nat.lt_or_eq_of_le hle with h1 | h1
  · exact h1
  · refine absurd ?_ h
    have h2 := nodup_eqlen (nsB_nodup S) (m := S.map fun p => bsOf p.1) (fun x hx => by
      obtain ⟨p, hp, e⟩ := nsB_mem.1 hx
      exact List.mem_map.2 ⟨p, hp, e⟩) (by simpa using h1.symm)
    have e : (S.map fun p => bsOf p.1) = (nmL S).map bsOf := by rw [List.map_map]; rfl
    rw [e, List.Nodup, List.pairwise_map] at h2
    exact h2.imp fun hab e => hab (by rw [e])
theorem nodup_take {l : Lb} {k : Nat} {x : ByteArray} (h : (l.take k).Nodup) (hx : l[k]? = some x) (hn : x ∉ l.take k) : (l.take (k + 1)).Nodup := by
  rw [List.take_add_one, hx]
  rw [List.nodup_append]
  exact ⟨h, by simp, fun a ha b hb e => by
    have : b = x := by simpa using hb
    rw [← this, ← e] at hn
    exact hn ha⟩
theorem nodup_not {l : Lb} {k : Nat} {x : ByteArray} (hx : l[k]? = some x) (hn : x ∈ l.take k) : ¬ l.Nodup := fun h => by
  obtain ⟨j, hj⟩ := List.getElem?_of_mem hn
  have hlt : j < k := by
    have := (List.getElem?_eq_some_iff.1 hj).1
    rw [List.length_take] at this
    omega
  rw [List.getElem?_take_of_lt hlt] at hj
  have := (List.getElem?_inj (List.getElem?_eq_some_iff.1 hj).1 h).1 (hj.trans hx.symm)
  omega

theorem only_mem {S : SetB} {pred : Nat → Bool} {x : ByteArray} : x ∈ onlyL (nsOf S) pred (nsB S).length ↔ x ∈ nmL S ∧ pred (placeB (nsB S) (bsOf x)).toNat = true := by
  unfold onlyL
  rw [List.mem_map]
  constructor
  · rintro ⟨u, hu, e⟩
    obtain ⟨h1, h2⟩ := List.mem_filter.1 hu
    have hun := List.mem_range.1 h1
    have hb : bsOf x = (nsB S)[u] := by
      rw [← e, nsOf_getD, List.getD_eq_getElem?_getD, List.getElem?_eq_getElem hun]; rfl
    refine ⟨nm_ns.1 (by rw [hb]; exact List.getElem_mem hun), ?_⟩
    rw [hb, place_at (nsB_spec S).1 hun]
    exact h2
  · rintro ⟨hx, hp⟩
    obtain ⟨u, hu, h1, h2⟩ := place_in (nm_ns.2 hx)
    rw [h1, Int.toNat_natCast] at hp
    refine ⟨u, List.mem_filter.2 ⟨List.mem_range.2 hu, hp⟩, ?_⟩
    have := ns_back hx
    rw [h1, Int.toNat_natCast] at this
    exact this
theorem only_asc (S : SetB) (pred : Nat → Bool) : AscB (onlyL (nsOf S) pred (nsB S).length) := by
  unfold AscB Asc onlyL
  rw [List.map_map, List.pairwise_map]
  have h1 : ((List.range (nsB S).length).filter pred).Pairwise (· < ·) := (List.pairwise_lt_range).filter _
  refine h1.imp_of_mem fun {a b} ha hb hab => ?_
  have ha' := List.mem_range.1 (List.mem_filter.1 ha).1
  have hb' := List.mem_range.1 (List.mem_filter.1 hb).1
  show bsOf ((nsOf S).getD a ByteArray.empty) < bsOf ((nsOf S).getD b ByteArray.empty)
  rw [nsOf_getD, nsOf_getD, List.getD_eq_getElem?_getD, List.getD_eq_getElem?_getD, List.getElem?_eq_getElem ha', List.getElem?_eq_getElem hb']
  exact List.pairwise_iff_getElem.1 (nsB_spec S).1 a b ha' hb' hab
def headB (S : SetB) (x : ByteArray) : Bool := !S.any fun q => inB q.2 x
theorem heads_is {S : SetB} {out l : Lb} (h : HeadR S out) (h1 : AscB l) (h2 : ∀ x, x ∈ l ↔ x ∈ nmL S ∧ headB S x = true) : out = l := by
  obtain ⟨pred, hp, rfl⟩ := h
  refine ascB_unique (only_asc S pred) h1 fun x => ?_
  rw [only_mem, h2]
  refine and_congr_right fun hx => ?_
  obtain ⟨u, hu, e1, e2⟩ := place_in (nm_ns.2 hx)
  rw [e1, Int.toNat_natCast, hp u hu]
  unfold headB
  rw [Bool.not_eq_true', List.any_eq_false]
  constructor
  · intro h q hq hd
    have hd := inB_iff.1 hd
    obtain ⟨v, hv, f1, _⟩ := place_in (nm_ns.2 (List.mem_map.2 ⟨q, hq, rfl⟩ : q.1 ∈ nmL S))
    have := need_mem hq hd
    rw [f1, e1] at this
    exact h v hv this
  · intro h v hv hd
    have hx2 : (nsB S)[v] ∈ nsB S := List.getElem_mem hv
    have hpl := place_at (nsB_spec S).1 hv
    rw [← hpl] at hd
    obtain ⟨q, hq, _, d, hdq, e⟩ := need_of hx2 hd
    have hxd : x = d := bsOf_inj (place_inj (nm_ns.2 hx) (by rw [e1, e]))
    exact h q hq (inB_true (by rw [hxd]; exact hdq))

structure PastQ (S : SetB) (nm : ByteArray) (l : Lb) : Prop where
  asc : AscB l
  mem : ∀ x ∈ l, x ∈ nmL S ∧ PastK (needS S) (placeB (nsB S) (bsOf nm)) (placeB (nsB S) (bsOf x))
structure MoreQ (S : SetB) (nm : ByteArray) (l more : Lb) : Prop where
  asc : AscB more
  mem : ∀ x ∈ more, x ∈ nmL S ∧ x ∉ l ∧ PastK (needS S) (placeB (nsB S) (bsOf nm)) (placeB (nsB S) (bsOf x))
def CovQ (S : SetB) (nm : ByteArray) (l more : Lb) (i : Nat) : Prop := ∀ p ∈ S.take i, (p.1 = nm ∨ p.1 ∈ l) → ∀ d ∈ p.2, d ∈ nmL S → d ∈ l ∨ d ∈ more
theorem ascB_nil : AscB [] := List.Pairwise.nil
theorem ascB_nodup {l : Lb} (h : AscB l) : l.Nodup := by
  have h2 : (l.map bsOf).Nodup := asc_nodup h
  rw [List.Nodup, List.pairwise_map] at h2
  exact h2.imp fun hab e => hab (by rw [e])
theorem cov_begin (S : SetB) (nm : ByteArray) (l more : Lb) : CovQ S nm l more 0 := fun p hp => by simp at hp
theorem cov_more {S : SetB} {nm : ByteArray} {l more more' : Lb} {i : Nat} (h : CovQ S nm l more i) (hm : ∀ x ∈ more, x ∈ more') : CovQ S nm l more' i := fun p hp ho d hd hn => (h p hp ho d hd hn).imp id (hm d)
theorem cov_step {S : SetB} {nm : ByteArray} {l more : Lb} {i : Nat} {p : ByteArray × Lb} (h : CovQ S nm l more i) (hp : S[i]? = some p) (hq : (p.1 = nm ∨ p.1 ∈ l) → ∀ d ∈ p.2, d ∈ nmL S → d ∈ l ∨ d ∈ more) : CovQ S nm l more (i + 1) := fun q hq' ho => by
  rcases (take_mem hp).1 hq' with hq' | rfl
  · exact h q hq' ho
  · exact hq ho
theorem pastk_of {S : SetB} {nm : ByteArray} {l : Lb} (h : PastQ S nm l) {p : ByteArray × Lb} (hp : p ∈ S) (ho : p.1 = nm ∨ p.1 ∈ l) {d : ByteArray} (hd : d ∈ p.2) (hn : d ∈ nmL S) : PastK (needS S) (placeB (nsB S) (bsOf nm)) (placeB (nsB S) (bsOf d)) := by
  have h1 := need_mem hp hd
  obtain ⟨u, hu, e1, _⟩ := place_in (nm_ns.2 hn)
  have h0 : (0 : Int) ≤ placeB (nsB S) (bsOf d) := by rw [e1]; omega
  rcases ho with rfl | ho
  · exact .one h1 h0
  · exact .more (h.mem _ ho).2 h1 h0
theorem pastq_begin (S : SetB) (nm : ByteArray) : PastQ S nm [] := ⟨ascB_nil, fun x hx => by cases hx⟩
theorem moreq_begin (S : SetB) (nm : ByteArray) (l : Lb) : MoreQ S nm l [] := ⟨ascB_nil, fun x hx => by cases hx⟩
theorem moreq_add {S : SetB} {nm : ByteArray} {l more : Lb} (h : MoreQ S nm l more) {d : ByteArray} (hn : d ∈ nmL S) (hl : d ∉ l) (hk : PastK (needS S) (placeB (nsB S) (bsOf nm)) (placeB (nsB S) (bsOf d))) : MoreQ S nm l (addB more d) :=
  ⟨addB_asc d h.asc, fun x hx => by
    rcases (addB_mem more d x).1 hx with rfl | hx
    · exact ⟨hn, hl, hk⟩
    · exact h.mem x hx⟩
theorem pastq_add {S : SetB} {nm : ByteArray} {l : Lb} (h : PastQ S nm l) {d : ByteArray} (hd : d ∈ nmL S ∧ PastK (needS S) (placeB (nsB S) (bsOf nm)) (placeB (nsB S) (bsOf d))) : PastQ S nm (addB l d) :=
  ⟨addB_asc d h.asc, fun x hx => by
    rcases (addB_mem l d x).1 hx with rfl | hx
    · exact hd
    · exact h.mem x hx⟩
theorem pastq_len {S : SetB} {nm : ByteArray} {l : Lb} (h : PastQ S nm l) : l.length ≤ S.length := by
  have := nodup_sub (ascB_nodup h.asc) (m := nmL S) (fun x hx => (h.mem x hx).1)
  simpa using this
theorem moreq_len {S : SetB} {nm : ByteArray} {l more : Lb} (h : MoreQ S nm l more) : more.length ≤ S.length := by
  have := nodup_sub (ascB_nodup h.asc) (m := nmL S) (fun x hx => (h.mem x hx).1)
  simpa using this
theorem added_mem : ∀ (more l : Lb) (x : ByteArray), x ∈ more.foldl addB l ↔ x ∈ l ∨ x ∈ more
  | [], l, x => by simp
  | m :: more, l, x => by
    rw [List.foldl_cons, added_mem more (addB l m) x, addB_mem]
    simp only [List.mem_cons]
    constructor
    · rintro ((h | h) | h)
      · exact .inr (.inl h)
      · exact .inl h
      · exact .inr (.inr h)
    · rintro (h | h | h)
      · exact .inl (.inr h)
      · exact .inl (.inl h)
      · exact .inr h
theorem added_step {more l : Lb} {k : Nat} {x : ByteArray} (h : more[k]? = some x) : (more.take (k + 1)).foldl addB l = addB ((more.take k).foldl addB l) x := by
  rw [List.take_add_one, h, List.foldl_append]
  rfl
theorem added_q {S : SetB} {nm : ByteArray} {l more : Lb} (h : PastQ S nm l) (hm : MoreQ S nm l more) : ∀ k, PastQ S nm ((more.take k).foldl addB l)
  | 0 => by simpa using h
  | k + 1 => by
    cases hx : more[k]? with
    | none =>
      have h1 : more.take (k + 1) = more := List.take_of_length_le (by have := List.getElem?_eq_none_iff.1 hx; omega)
      have h2 : more.take k = more := List.take_of_length_le (List.getElem?_eq_none_iff.1 hx)
      have := added_q h hm k
      rw [h2] at this
      rw [h1]; exact this
    | some x =>
      rw [added_step hx]
      have := hm.mem x (List.mem_of_getElem? hx)
      exact pastq_add (added_q h hm k) ⟨this.1, this.2.2⟩
theorem added_more {S : SetB} {nm : ByteArray} {l more : Lb} (h : PastQ S nm l) (hm : MoreQ S nm l more) (hp : 0 < more.length) : l.length + 1 ≤ (more.foldl addB l).length := by
  obtain ⟨m, hm0⟩ : ∃ m, more[0]? = some m := ⟨more[0], by simp⟩
  have hmm := List.mem_of_getElem? hm0
  have h1 : (m :: l).Nodup := List.nodup_cons.2 ⟨(hm.mem m hmm).2.1, ascB_nodup h.asc⟩
  have := nodup_sub h1 (m := more.foldl addB l) (fun x hx => by
    rcases List.mem_cons.1 hx with rfl | hx
    · exact (added_mem _ _ _).2 (.inr hmm)
    · exact (added_mem _ _ _).2 (.inl hx))
  simpa using this
theorem need_neg (S : SetB) : needS S (-1) = [] := by
  refine List.eq_nil_iff_forall_not_mem.2 fun d hd => ?_
  obtain ⟨p, hp, _⟩ := List.mem_flatMap.1 hd
  obtain ⟨h1, h2⟩ := List.mem_filter.1 hp
  obtain ⟨q, hq, rfl⟩ := List.mem_map.1 h1
  obtain ⟨u, _, e, _⟩ := place_in (nm_ns.2 (List.mem_map.2 ⟨q, hq, rfl⟩ : q.1 ∈ nmL S))
  have := beq_iff_eq.1 h2
  simp only at this
  rw [e] at this
  omega
theorem past_no {S : SetB} {d : Int} (h : PastK (needS S) (-1) d) : False := by
  induction h with
  | one h h0 => rw [need_neg] at h; cases h
  | more _ _ _ ih => exact ih
theorem past_eq {S : SetB} {nm : ByteArray} {out l : Lb} (h : PastR S (bsOf nm) out) (hl : PastQ S nm l) (hc : CovQ S nm l [] S.length) : out = l := by
  obtain ⟨pred, hp, rfl⟩ := h
  by_cases hn : bsOf nm ∈ nsB S
  · rw [if_pos hn]
    refine ascB_unique (only_asc S pred) hl.asc fun x => ?_
    rw [only_mem]
    have hin : ∀ {d : Int} {y : ByteArray}, 0 ≤ d → d = placeB (nsB S) (bsOf y) → y ∈ nmL S := fun {d y} h0 e => by
      by_cases hy : bsOf y ∈ nsB S
      · exact nm_ns.1 hy
      · rw [place_out hy] at e; omega
    have hcov : ∀ p ∈ S, (p.1 = nm ∨ p.1 ∈ l) → ∀ d ∈ p.2, d ∈ nmL S → d ∈ l := fun p hps ho d hd hdn => by
      rcases hc p (by rw [List.take_length]; exact hps) ho d hd hdn with h | h
      · exact h
      · cases h
    have key := past_is (need := needS S) (a := placeB (nsB S) (bsOf nm)) (P := fun d => ∃ y ∈ l, placeB (nsB S) (bsOf y) = d)
      (fun d ⟨y, hy, e⟩ => e ▸ (hl.mem y hy).2)
      (fun d hd h0 => by
        obtain ⟨p, hps, e1, y, hy, e⟩ := need_of hn hd
        exact ⟨y, hcov p hps (.inl (bsOf_inj e1)) y hy (hin h0 e), e.symm⟩)
      (fun i ⟨z, hz, ez⟩ d hd h0 => by
        obtain ⟨p, hps, e1, y, hy, e⟩ := need_of (nm_ns.2 (hl.mem z hz).1) (by rw [ez]; exact hd)
        exact ⟨y, hcov p hps (.inr (by rw [bsOf_inj e1]; exact hz)) y hy (hin h0 e), e.symm⟩)
    constructor
    · rintro ⟨hx, hpx⟩
      obtain ⟨u, hu, e1, _⟩ := place_in (nm_ns.2 hx)
      rw [e1, Int.toNat_natCast] at hpx
      obtain ⟨y, hy, e⟩ := (key _).2 ((hp u).1 hpx)
      have : x = y := bsOf_inj (place_inj (nm_ns.2 hx) (by rw [e1, e]))
      rw [this]; exact hy
    · intro hx
      obtain ⟨h1, h2⟩ := hl.mem x hx
      obtain ⟨u, hu, e1, _⟩ := place_in (nm_ns.2 h1)
      rw [e1] at h2
      rw [e1, Int.toNat_natCast]
      exact ⟨h1, (hp u).2 h2⟩
  · rw [if_neg hn]
    symm
    refine List.eq_nil_iff_forall_not_mem.2 fun x hx => ?_
    have := (hl.mem x hx).2
    rw [place_out hn] at this
    exact past_no this
end Go.Proofs.YteaencgbgfnokaaDoor
