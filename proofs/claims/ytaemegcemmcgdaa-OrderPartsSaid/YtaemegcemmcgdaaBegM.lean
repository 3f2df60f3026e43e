import Derived.Test.YtaemegcemmcgdaaOrdL
import Derived.Test.YtaemegcemmcgdaaPartF
import Derived.Test.YtaemegcemmcgdaaAddM
/- The mathematics of OrderBegins: which parts are closed. -/
set_option linter.unusedVariables false
namespace Go.Proofs.Ytaemegcemmcgdaa

theorem listed_part (S : SetB) (ls : Lb) : listedS S ls S.length = partS S (fun b => b ∈ ls.map bsOf) := by
  unfold listedS partS
  rw [List.take_length]
  refine List.filter_congr fun p _ => ?_
  have h : 0 ≤ Lib.idxOfS ls p.1 ↔ bsOf p.1 ∈ ls.map bsOf := by
    rw [idx_mem, List.mem_map]
    exact ⟨fun h => ⟨_, h, rfl⟩, fun ⟨x, hx, e⟩ => bs_of_eq e ▸ hx⟩
  rw [Bool.eq_iff_iff, decide_eq_true_iff, @decide_eq_true_iff _ (Classical.propDecidable _)]
  exact h
theorem small_part {S : SetB} {Q : Bs → Prop} (h : SmallS S) : SmallS (partS S Q) := by
  have h1 : (partS S Q).Sublist S := List.filter_sublist
  refine ⟨Nat.le_trans h1.length_le h.1, Nat.le_trans ?_ h.2⟩
  have h2 := h1.map fun p => p.2.length
  clear h
  generalize (partS S Q).map (fun p => p.2.length) = a at h2
  generalize S.map (fun p => p.2.length) = b at h2
  induction h2 with
  | slnil => exact Nat.le_refl _
  | cons x _ ih => rw [List.sum_cons]; omega
  | cons_cons x _ ih => rw [List.sum_cons, List.sum_cons]; omega
theorem onlyL_mem {S : SetB} {pred : Nat → Bool} {b : Bs} : b ∈ (onlyL (nsOf S) pred (nsB S).length).map bsOf ↔ ∃ u, ∃ h : u < (nsB S).length, pred u = true ∧ b = (nsB S)[u] := by
  unfold onlyL
  rw [List.map_map, List.mem_map]
  constructor
  · rintro ⟨u, hu, rfl⟩
    obtain ⟨h1, h2⟩ := List.mem_filter.1 hu
    have h1' := List.mem_range.1 h1
    refine ⟨u, h1', h2, ?_⟩
    show bsOf ((nsOf S).getD u ByteArray.empty) = _
    rw [nsOf_getD, List.getD_eq_getElem?_getD, List.getElem?_eq_getElem h1']
    rfl
  · rintro ⟨u, h1, h2, rfl⟩
    refine ⟨u, List.mem_filter.2 ⟨List.mem_range.2 h1, h2⟩, ?_⟩
    show bsOf ((nsOf S).getD u ByteArray.empty) = _
    rw [nsOf_getD, List.getD_eq_getElem?_getD, List.getElem?_eq_getElem h1]
    rfl
theorem onlyL_nodup (S : SetB) (pred : Nat → Bool) : ((onlyL (nsOf S) pred (nsB S).length).map bsOf).Nodup := by
  unfold onlyL
  rw [List.map_map, List.nodup_iff_pairwise_ne, List.pairwise_map]
  refine List.Pairwise.imp_of_mem ?_ (List.Pairwise.filter _ List.pairwise_lt_range)
  intro a b ha hb hab e
  have ha' := List.mem_range.1 (List.mem_filter.1 ha).1
  have hb' := List.mem_range.1 (List.mem_filter.1 hb).1
  have e' : bsOf ((nsOf S).getD a ByteArray.empty) = bsOf ((nsOf S).getD b ByteArray.empty) := e
  rw [nsOf_getD, nsOf_getD, List.getD_eq_getElem?_getD, List.getD_eq_getElem?_getD, List.getElem?_eq_getElem ha', List.getElem?_eq_getElem hb'] at e'
  have := List.pairwise_iff_getElem.1 (nsB_spec S).1 a b ha' hb' hab
  have e2 : (nsB S)[a] = (nsB S)[b] := e'
  rw [e2] at this
  exact List.lt_irrefl _ this
/-- A beginning is closed. -/
theorem closed_take {S : SetB} {lb : List Bs} (h : LinOk S lb) (n : Nat) : ∀ p ∈ S, bsOf p.1 ∈ lb.take n → ∀ d ∈ p.2, bsOf d ∈ lb.take n := fun p hp hm d hd => by
  obtain ⟨k, hk, he⟩ := List.getElem_of_mem hm
  rw [List.length_take] at hk
  rw [List.getElem_take] at he
  have hb := h.behind k (by omega) p hp he.symm d hd
  exact (List.take_prefix_take_left (by omega : k ≤ n)).subset hb
theorem all_in {S : SetB} {lb : List Bs} (h : LinOk S lb) {p : ByteArray × Lb} (hp : p ∈ S) {d : ByteArray} (hd : d ∈ p.2) : bsOf d ∈ nsB S := by
  obtain ⟨k, hk, he⟩ := List.getElem_of_mem ((h.mem _).2 (nsB_mem.2 ⟨p, hp, rfl⟩))
  exact (h.mem _).1 (List.mem_of_mem_take (h.behind k hk p hp he.symm d hd))
theorem past_mem {S : SetB} {nm : Bs} {out : Lb} (h : PastR S nm out) (hn : nm ∈ nsB S) (b : Bs) : b ∈ out.map bsOf ↔ b ∈ nsB S ∧ PastK (needS S) (placeB (nsB S) nm) (placeB (nsB S) b) := by
  obtain ⟨pred, hp, rfl⟩ := h
  rw [if_pos hn, onlyL_mem]
  constructor
  · rintro ⟨u, hu, h1, rfl⟩
    exact ⟨List.getElem_mem hu, by rw [place_at (nsB_spec S).1 hu]; exact (hp u).1 h1⟩
  · rintro ⟨h1, h2⟩
    obtain ⟨u, hu, e1, e2⟩ := place_in h1
    rw [e1] at h2
    exact ⟨u, hu, (hp u).2 h2, e2.symm⟩
theorem closed_past {S : SetB} {lb : List Bs} (h : LinOk S lb) {nm : Bs} {out : Lb} (hr : PastR S nm out) (hn : nm ∈ nsB S) : ∀ p ∈ S, bsOf p.1 ∈ out.map bsOf → ∀ d ∈ p.2, bsOf d ∈ out.map bsOf := fun p hp hm d hd => by
  obtain ⟨h1, h2⟩ := (past_mem hr hn _).1 hm
  have h3 := all_in h hp hd
  refine (past_mem hr hn _).2 ⟨h3, .more h2 (need_mem hp hd) ?_⟩
  obtain ⟨u, hu, e1, _⟩ := place_in h3
  rw [e1]; omega
theorem past_not {S : SetB} {lb : List Bs} (h : LinOk S lb) {n : Nat} (hn : n < lb.length) {out : Lb} (hr : PastR S lb[n] out) : lb[n] ∉ out.map bsOf := fun hm => by
  have hin := (h.mem _).1 (List.getElem_mem hn)
  obtain ⟨_, h2⟩ := (past_mem hr hin _).1 hm
  have hnl : n < (lb.map (placeB (nsB S))).length := by rw [List.length_map]; exact hn
  have hpa := past_ahead h.reach n hnl (placeB (nsB S) lb[n]) (by rw [List.getElem_map]; exact h2)
  rw [← List.map_take] at hpa
  have hx := (place_mem (ns := nsB S) (fun t ht => (h.mem t).1 (List.mem_of_mem_take ht)) lb[n]).1 hpa
  obtain ⟨k, hk, he⟩ := List.getElem_of_mem hx
  rw [List.length_take] at hk
  rw [List.getElem_take] at he
  have := (List.nodup_iff_pairwise_ne.1 h.nodup)
  exact List.pairwise_iff_getElem.1 this k n (by omega) hn (by omega) he
theorem past_count {S : SetB} {lb : List Bs} (h : LinOk S lb) {nm : Bs} {out : Lb} (hr : PastR S nm out) (hn : nm ∈ nsB S) : (partS S (fun b => b ∈ out.map bsOf)).length = out.length := by
  have hnd : (out.map bsOf).Nodup := by
    obtain ⟨pred, hp, rfl⟩ := hr
    rw [if_pos hn]
    exact onlyL_nodup S pred
  have h1 := nodup_sub (part_uniq (Q := fun b => b ∈ out.map bsOf) h.uniq) (m := out.map bsOf) (fun x hx => by
    obtain ⟨p, hp, rfl⟩ := List.mem_map.1 hx
    exact (mem_part.1 hp).2)
  have h2 := nodup_sub hnd (m := (partS S (fun b => b ∈ out.map bsOf)).map fun p => bsOf p.1) (fun x hx => by
    obtain ⟨p, hp, he⟩ := nsB_mem.1 ((past_mem hr hn x).1 hx).1
    exact List.mem_map.2 ⟨p, mem_part.2 ⟨hp, by rw [he]; exact hx⟩, he⟩)
  rw [List.length_map, List.length_map] at h1 h2
  omega
theorem head_mem {S : SetB} {out : Lb} (h : HeadR S out) (b : Bs) : b ∈ out.map bsOf ↔ b ∈ nsB S ∧ ∀ p ∈ S, ∀ d ∈ p.2, bsOf d ≠ b := by
  obtain ⟨pred, hp, rfl⟩ := h
  rw [onlyL_mem]
  have hasc := (nsB_spec S).1
  constructor
  · rintro ⟨u, hu, h1, rfl⟩
    refine ⟨List.getElem_mem hu, fun p hpS d hd e => ?_⟩
    obtain ⟨v, hv, e1, _⟩ := place_in (nsB_mem.2 ⟨p, hpS, rfl⟩)
    have hm := need_mem hpS hd
    rw [e, place_at hasc hu, e1] at hm
    exact (hp u hu).1 h1 v hv hm
  · rintro ⟨h1, h2⟩
    obtain ⟨u, hu, e1, e2⟩ := place_in h1
    refine ⟨u, hu, (hp u hu).2 (fun v hv hm => ?_), e2.symm⟩
    rw [← place_at hasc hv] at hm
    obtain ⟨p, hpS, _, d, hd, he⟩ := need_of (List.getElem_mem hv) hm
    have hd' : bsOf d ∈ nsB S := by
      rcases place_range (nsB S) (bsOf d) with h | ⟨w, hw, h⟩
      · rw [h] at he; omega
      · rcases Classical.em (bsOf d ∈ nsB S) with k | k
        · exact k
        · rw [place_out k] at h; omega
    refine h2 p hpS d hd (place_inj hd' ?_)
    rw [← he, e1]
theorem head_some {S : SetB} {lb : List Bs} (h : LinOk S lb) (h0 : 0 < lb.length) {out : Lb} (hr : HeadR S out) : 0 < out.length := by
  have hlast : lb[lb.length - 1] ∈ out.map bsOf := (head_mem hr _).2 ⟨(h.mem _).1 (List.getElem_mem _), fun p hp d hd e => by
    obtain ⟨k, hk, he⟩ := List.getElem_of_mem ((h.mem _).2 (nsB_mem.2 ⟨p, hp, rfl⟩))
    have hb := h.behind k hk p hp he.symm d hd
    rw [e] at hb
    obtain ⟨j, hj, hje⟩ := List.getElem_of_mem hb
    rw [List.length_take] at hj
    rw [List.getElem_take] at hje
    exact List.pairwise_iff_getElem.1 (List.nodup_iff_pairwise_ne.1 h.nodup) j (lb.length - 1) (by omega) (by omega) (by omega) hje⟩
  have := List.length_pos_of_mem hlast
  rwa [List.length_map] at this
theorem closed_rest {S : SetB} {lb : List Bs} (h : LinOk S lb) {out : Lb} (hr : HeadR S out) {x : Bs} (hx : x ∈ out.map bsOf) : ∀ p ∈ S, bsOf p.1 ∈ lb.filter (fun b => decide (b ≠ x)) → ∀ d ∈ p.2, bsOf d ∈ lb.filter (fun b => decide (b ≠ x)) := fun p hp _ d hd => by
  refine List.mem_filter.2 ⟨(h.mem _).2 (all_in h hp hd), ?_⟩
  rw [decide_eq_true_iff]
  exact ((head_mem hr x).1 hx).2 p hp d hd
end Go.Proofs.Ytaemegcemmcgdaa
