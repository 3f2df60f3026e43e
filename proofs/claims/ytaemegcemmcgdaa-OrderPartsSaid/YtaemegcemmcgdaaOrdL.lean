import Derived.Test.YtaemegcemmcgdaaHeadsF
/- The mathematics of package order's laws: what an order that tells all says by names; closed parts. -/
set_option linter.unusedVariables false
namespace Go.Proofs.Ytaemegcemmcgdaa

theorem nodup_sub {α : Type} [DecidableEq α] : ∀ {l m : List α}, l.Nodup → (∀ x ∈ l, x ∈ m) → l.length ≤ m.length := by
  intro l
  induction l with
  | nil => intro m _ _; exact Nat.zero_le _
  | cons x l ih =>
    intro m hd hs
    obtain ⟨hx, hd⟩ := List.nodup_cons.1 hd
    have hxm := hs x (by simp)
    have h1 := ih (m := m.erase x) hd (fun y hy => (List.mem_erase_of_ne (fun e => hx (by rw [← e]; exact hy))).2 (hs y (by simp [hy])))
    have h2 := List.length_erase_of_mem hxm
    have h3 := List.length_pos_of_mem hxm
    simp only [List.length_cons]
    omega
theorem nodup_eqlen {α : Type} [DecidableEq α] : ∀ {l m : List α}, l.Nodup → (∀ x ∈ l, x ∈ m) → m.length = l.length → m.Nodup := by
  intro l
  induction l with
  | nil =>
    intro m _ _ hl
    obtain rfl : m = [] := List.length_eq_zero_iff.1 hl
    exact List.nodup_nil
  | cons x l ih =>
    intro m hd hs hl
    have hdc := hd
    obtain ⟨hx, hd⟩ := List.nodup_cons.1 hd
    have hxm := hs x (by simp)
    have h2 := List.length_erase_of_mem hxm
    have hsub : ∀ y ∈ l, y ∈ m.erase x := fun y hy => (List.mem_erase_of_ne (fun e => hx (by rw [← e]; exact hy))).2 (hs y (by simp [hy]))
    have h1 := ih (m := m.erase x) hd hsub (by rw [h2, hl]; simp)
    have hnx : x ∉ m.erase x := fun hm => by
      have := nodup_sub (m := m.erase x) hdc (fun y hy => by
        rcases List.mem_cons.1 hy with rfl | hy
        · exact hm
        · exact hsub y hy)
      rw [h2, hl] at this
      simp only [List.length_cons] at this
      omega
    exact (List.perm_cons_erase hxm).nodup_iff.2 (List.nodup_cons.2 ⟨hnx, h1⟩)
theorem nodup_all {α : Type} [DecidableEq α] {l m : List α} (hd : l.Nodup) (hs : ∀ x ∈ l, x ∈ m) (hl : m.length ≤ l.length) : ∀ x ∈ m, x ∈ l := fun x hx => by
  rcases Classical.em (x ∈ l) with h | h
  · exact h
  · have := nodup_sub (l := x :: l) (m := m) (List.nodup_cons.2 ⟨h, hd⟩) (fun y hy => by
      rcases List.mem_cons.1 hy with rfl | hy
      · exact hx
      · exact hs y hy)
    simp at this
    omega

/-- An order that tells all, by names. -/
structure LinOk (S : SetB) (lb : List Bs) : Prop where
  uniq : (S.map fun p => bsOf p.1).Nodup
  len : lb.length = S.length
  nodup : lb.Nodup
  mem : ∀ x, x ∈ lb ↔ x ∈ nsB S
  reach : ReachK (needS S) (nsB S).length (lb.map (placeB (nsB S)))
  behind : ∀ k (hk : k < lb.length), ∀ p ∈ S, bsOf p.1 = lb[k] → ∀ d ∈ p.2, bsOf d ∈ lb.take k
theorem nsB_nodup (S : SetB) : (nsB S).Nodup := asc_nodup (nsB_spec S).1
theorem nsB_mem {S : SetB} {x : Bs} : x ∈ nsB S ↔ ∃ p ∈ S, bsOf p.1 = x := by
  rw [(nsB_spec S).2, List.mem_map]
theorem need_mem {S : SetB} {p : ByteArray × Lb} (hp : p ∈ S) {d : ByteArray} (hd : d ∈ p.2) : placeB (nsB S) (bsOf d) ∈ needS S (placeB (nsB S) (bsOf p.1)) := by
  unfold needS needB
  refine List.mem_flatMap.2 ⟨(bsOf p.1, p.2.map bsOf), List.mem_filter.2 ⟨List.mem_map.2 ⟨p, hp, rfl⟩, by simp⟩, ?_⟩
  exact List.mem_map.2 ⟨bsOf d, List.mem_map.2 ⟨d, hd, rfl⟩, rfl⟩
theorem need_of {S : SetB} {x : Bs} {e : Int} (hx : x ∈ nsB S) (h : e ∈ needS S (placeB (nsB S) x)) : ∃ p ∈ S, bsOf p.1 = x ∧ ∃ d ∈ p.2, e = placeB (nsB S) (bsOf d) := by
  unfold needS needB at h
  obtain ⟨q, hq, he⟩ := List.mem_flatMap.1 h
  obtain ⟨hq1, hq2⟩ := List.mem_filter.1 hq
  obtain ⟨p, hp, rfl⟩ := List.mem_map.1 hq1
  obtain ⟨b, hb, rfl⟩ := List.mem_map.1 he
  obtain ⟨d, hd, rfl⟩ := List.mem_map.1 hb
  refine ⟨p, hp, ?_, d, hd, rfl⟩
  exact place_inj (nsB_mem.2 ⟨p, hp, rfl⟩) (by simpa using hq2)
theorem nsOf_getD (S : SetB) (u : Nat) : bsOf ((nsOf S).getD u ByteArray.empty) = (nsB S).getD u [] := by
  rw [List.getD_eq_getElem?_getD, List.getD_eq_getElem?_getD]
  unfold nsOf
  rw [List.getElem?_map]
  cases (nsB S)[u]? with
  | none => rfl
  | some b => rfl
theorem lin_ok {S : SetB} {out : Lb} (h : LinR S out 0) : LinOk S (out.map bsOf) := by
  rcases h with ⟨_, _, h⟩ | ⟨hlen, told, hre, hnx, ⟨_, _, h⟩ | ⟨htl, rfl, _⟩⟩
  · exact absurd h (by decide)
  · exact absurd h (by decide)
  · have hasc := (nsB_spec S).1
    obtain ⟨htd, htm⟩ := reach_tame hre
    have huniq : (S.map fun p => bsOf p.1).Nodup := nodup_eqlen (nsB_nodup S) (fun x hx => ((nsB_spec S).2 x).1 hx) (by rw [List.length_map, hlen])
    have hlb : (told.map fun u => (nsOf S).getD u.toNat ByteArray.empty).map bsOf = told.map fun u => (nsB S).getD u.toNat [] := by
      rw [List.map_map]
      exact List.map_congr_left fun u _ => nsOf_getD S _
    rw [hlb]
    have hat : ∀ u ∈ told, ∃ k : Nat, ∃ hk : k < (nsB S).length, u = (k : Int) ∧ (nsB S).getD u.toNat [] = (nsB S)[k] := fun u hu => by
      obtain ⟨k, hk, rfl⟩ := htm u hu
      refine ⟨k, hk, rfl, ?_⟩
      rw [List.getD_eq_getElem?_getD, Int.toNat_natCast, List.getElem?_eq_getElem hk]
      rfl
    have hpl : (told.map fun u => (nsB S).getD u.toNat []).map (placeB (nsB S)) = told := by
      rw [List.map_map]
      conv => rhs; rw [← List.map_id told]
      refine List.map_congr_left fun u hu => ?_
      obtain ⟨k, hk, rfl, e⟩ := hat u hu
      simp only [Function.comp]
      rw [e, place_at hasc hk]
      rfl
    have hmemlb : ∀ x ∈ told.map (fun u => (nsB S).getD u.toNat []), x ∈ nsB S := fun x hx => by
      obtain ⟨u, hu, rfl⟩ := List.mem_map.1 hx
      obtain ⟨k, hk, rfl, e⟩ := hat u hu
      rw [e]
      exact List.getElem_mem hk
    have hnd : (told.map fun u => (nsB S).getD u.toNat []).Nodup := by
      have h1 : ((told.map fun u => (nsB S).getD u.toNat []).map (placeB (nsB S))).Nodup := by rw [hpl]; exact htd
      exact List.Pairwise.of_map _ (fun a b hab e => hab (by rw [e])) h1
    refine ⟨huniq, by rw [List.length_map]; exact htl, hnd, fun x => ⟨hmemlb x, nodup_all hnd hmemlb (by rw [List.length_map, htl, hlen]; exact Nat.le_refl _) x⟩, by rw [hpl]; exact hre, fun k hk p hp he d hd => ?_⟩
    have hk' : k < told.length := by rw [List.length_map] at hk; exact hk
    have hkk : told[k] = placeB (nsB S) (bsOf p.1) := by
      rw [he]
      have : (told.map fun u => (nsB S).getD u.toNat [])[k] = (nsB S).getD told[k].toNat [] := by simp
      rw [this]
      obtain ⟨q, hq, e1, e2⟩ := hat told[k] (List.getElem_mem hk')
      rw [e2, place_at hasc hq, e1]
    have hb := reach_behind hre k hk' (placeB (nsB S) (bsOf d)) (by rw [hkk]; exact need_mem hp hd)
    have : told.take k = ((told.map fun u => (nsB S).getD u.toNat []).take k).map (placeB (nsB S)) := by rw [List.map_take, hpl]
    rw [this] at hb
    exact (place_mem (ns := nsB S) (fun t ht => hmemlb t (List.mem_of_mem_take ht)) (bsOf d)).1 hb

/-- A part of a set. -/
noncomputable def partS (S : SetB) (Q : Bs → Prop) : SetB := S.filter fun p => @decide (Q (bsOf p.1)) (Classical.propDecidable _)
theorem mem_part {S : SetB} {Q : Bs → Prop} {p : ByteArray × Lb} : p ∈ partS S Q ↔ p ∈ S ∧ Q (bsOf p.1) := by
  unfold partS
  rw [List.mem_filter]
  simp
theorem part_uniq {S : SetB} {Q : Bs → Prop} (h : (S.map fun p => bsOf p.1).Nodup) : ((partS S Q).map fun p => bsOf p.1).Nodup := by
  unfold partS
  exact List.Pairwise.sublist (List.Sublist.map _ (List.filter_sublist)) h
theorem nsB_full {S : SetB} (h : (S.map fun p => bsOf p.1).Nodup) : (nsB S).length = S.length := by
  have h1 := nodup_sub h (m := nsB S) (fun x hx => ((nsB_spec S).2 x).2 hx)
  have h2 := nsB_len S
  rw [List.length_map] at h1
  omega
/-- A closed part of a set that can be told whole can be told whole. -/
theorem part_lin {S : SetB} {lb : List Bs} {Q : Bs → Prop} (h : LinOk S lb) (hQ : ∀ p ∈ S, Q (bsOf p.1) → ∀ d ∈ p.2, Q (bsOf d)) {out : Lb} {k : Int} (hr : LinR (partS S Q) out k) : k = 0 := by
  have hu := part_uniq (Q := Q) h.uniq
  have hf := nsB_full hu
  rcases hr with ⟨hlt, _, _⟩ | ⟨_, told, hre, hnx, ⟨htl, _, _⟩ | ⟨_, _, hk⟩⟩
  · omega
  · exfalso
    have hasc := (nsB_spec (partS S Q)).1
    obtain ⟨htd, htm⟩ := reach_tame hre
    have hs6 : (s6 (partS S Q)).map (·.1) = (partS S Q).map fun p => bsOf p.1 := by simp [s6]
    -- what is told, by names
    obtain ⟨tn, htn⟩ : ∃ tn, tn = told.map fun u => (nsB (partS S Q)).getD u.toNat [] := ⟨_, rfl⟩
    have hat : ∀ u ∈ told, ∃ k : Nat, ∃ hk : k < (nsB (partS S Q)).length, u = (k : Int) ∧ (nsB (partS S Q)).getD u.toNat [] = (nsB (partS S Q))[k] := fun u hu => by
      obtain ⟨k, hk, rfl⟩ := htm u hu
      refine ⟨k, hk, rfl, ?_⟩
      rw [List.getD_eq_getElem?_getD, Int.toNat_natCast, List.getElem?_eq_getElem hk]
      rfl
    have hpl : tn.map (placeB (nsB (partS S Q))) = told := by
      rw [htn, List.map_map]
      conv => rhs; rw [← List.map_id told]
      refine List.map_congr_left fun u hu => ?_
      obtain ⟨k, hk, rfl, e⟩ := hat u hu
      simp only [Function.comp]
      rw [e, place_at hasc hk]
      rfl
    have htns : ∀ x ∈ tn, x ∈ nsB (partS S Q) := fun x hx => by
      rw [htn] at hx
      obtain ⟨u, hu, rfl⟩ := List.mem_map.1 hx
      obtain ⟨k, hk, rfl, e⟩ := hat u hu
      rw [e]
      exact List.getElem_mem hk
    have hnone := next_none (ns := nsB (partS S Q)) (set := s6 (partS S Q)) (told := tn) hasc (fun x => by rw [hs6]; exact (nsB_spec (partS S Q)).2 x) (by rw [hs6]; exact hu) htns (by rw [hpl]; exact hnx)
    -- the first of the whole's order that is of the part and isn't told
    have key : ∀ i, ∀ (hi : i < lb.length), Q lb[i] → lb[i] ∈ tn := by
      intro i
      induction i using Nat.strongRecOn with
      | _ i ih =>
        intro hi hq
        rcases Classical.em (lb[i] ∈ tn) with h1 | h1
        · exact h1
        · exfalso
          obtain ⟨p, hp, hpe⟩ := nsB_mem.1 ((h.mem lb[i]).1 (List.getElem_mem hi))
          have hpp : p ∈ partS S Q := mem_part.2 ⟨hp, by rw [hpe]; exact hq⟩
          refine hnone lb[i] ⟨(bsOf p.1, p.2.map bsOf), List.mem_map.2 ⟨p, hpp, rfl⟩, hpe, h1, fun d hd => ?_⟩
          obtain ⟨d0, hd0, rfl⟩ := List.mem_map.1 hd
          have hb := h.behind i hi p hp hpe d0 hd0
          obtain ⟨j, hj, hje⟩ := List.getElem_of_mem hb
          rw [List.length_take] at hj
          rw [List.getElem_take] at hje
          have := ih j (by omega) (by omega) (by rw [hje]; exact hQ p hp (by rw [hpe]; exact hq) d0 hd0)
          rw [hje] at this
          exact this
    have hall : ∀ x ∈ (partS S Q).map (fun p => bsOf p.1), x ∈ tn := fun x hx => by
      obtain ⟨p, hp, rfl⟩ := List.mem_map.1 hx
      obtain ⟨hp1, hp2⟩ := mem_part.1 hp
      obtain ⟨i, hi, hie⟩ := List.getElem_of_mem ((h.mem (bsOf p.1)).2 (nsB_mem.2 ⟨p, hp1, rfl⟩))
      rw [← hie]
      exact key i hi (by rw [hie]; exact hp2)
    have := nodup_sub hu hall
    rw [List.length_map, htn, List.length_map] at this
    omega
  · exact hk
end Go.Proofs.Ytaemegcemmcgdaa
