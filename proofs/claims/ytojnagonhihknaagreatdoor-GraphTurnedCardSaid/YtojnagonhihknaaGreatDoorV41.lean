/- Linear and Check, walked.   -/
import Derived.Test.YtojnagonhihknaaGreatDoorV40
set_option linter.unusedVariables false
namespace Go.Proofs.YtojnagonhihknaaGreatDoor
open Go.ChangeShapes Go.WideShapes Go.ChangeAt Go.RowKit

noncomputable abbrev needS (S : SetB) : Int → List Int := needB (nsB S) (s6 S)
def LinR (S : SetB) (out : Lb) (k : Int) : Prop :=
  ((nsB S).length < S.length ∧ out = [] ∧ k = 12) ∨
  ((nsB S).length = S.length ∧ ∃ told : List Int, ReachK (needS S) (nsB S).length told ∧ nextK (needS S) (nsB S).length told = none ∧ ((told.length < S.length ∧ out = [] ∧ k = 11) ∨ (told.length = S.length ∧ out = told.map (fun u => (nsOf S).getD u.toNat ByteArray.empty) ∧ k = 0)))
def errO (k : Int) : Value := if k = 0 then .nilIface else .iface 67 (.int .i64 k)
def SmallS (S : SetB) : Prop := S.length ≤ 60 ∧ (S.map fun p => p.2.length).sum ≤ 400
theorem s6_sum (S : SetB) : ((s6 S).map fun p => p.2.length).sum = (S.map fun p => p.2.length).sum := by
  unfold s6
  rw [List.map_map]
  congr 1
  exact List.map_congr_left fun p _ => by simp
theorem needS_len {S : SetB} (h : SmallS S) (u : Int) : (needS S u).length ≤ 400 := by
  have h1 := needB_sum (nsB S) u (s6 S)
  rw [s6_sum] at h1
  exact Nat.le_trans h1 h.2
theorem needS_range {S : SetB} (u : Nat) : ∀ d ∈ needS S (u : Int), d = -1 ∨ ∃ v : Nat, v < (nsB S).length ∧ d = (v : Int) := fun d hd => needB_range hd
theorem gridB_eq (S : SetB) : gridB (nsB S) (s6 S) = (List.range (nsB S).length).map fun u : Nat => needS S (u : Int) := rfl
set_option maxHeartbeats 600000 in
set_option maxRecDepth 100000 in
theorem linear_any (S : SetB) (v : Value) (w : World) (hS : SReads w v S) (hsm : SmallS S) :
    Calls Tryz.prog 43 #[v] w fun e w' => ∃ ov out k, e = .returned (.tuple #[ov, errO k]) ∧ LinR S out k ∧ Reads w' ov out ∧ Below w.heap.size w w' := by
  have WV := weave_any S v w hS hsm.1 hsm.2
  obtain ⟨sa, sc, rfl, _⟩ := hS.form
  obtain ⟨n, hnn⟩ : ∃ n, n = S.length := ⟨_, rfl⟩
  have hn60 : n ≤ 60 := by rw [hnn]; exact hsm.1
  rw [← hnn] at WV ⊢
  have HWV := Lib.hid WV
  have HN := Lib.hid hnn
  have HSM := Lib.hid hsm
  clear WV hS hnn hsm
  go_enter Tryz.func43, Tryz.ntmps43
  go_wp2_with fail
  refine HWV.out.mono ?_
  rintro e w1 ⟨nv, gv, rfl, hweb, hb1⟩
  obtain ⟨m, hm⟩ : ∃ m, m = (nsB S).length := ⟨_, rfl⟩
  have hnl : (nsOf S).length = m := by rw [nsOf_len, hm]
  obtain ⟨na, nc, hnv, _⟩ := hweb.names.form
  obtain ⟨gb, gs, gc, hgv, _⟩ := hweb.rows
  rw [hnl] at hnv hgv
  subst hnv; subst hgv
  have hmn : m ≤ n := by rw [hm, HN.out]; exact nsB_len S
  have hbx : Below w1.heap.size w1 (w1.alloc (.cells #[.slice na m nc, .slice (some ⟨gb, 0, none⟩) m gc] 148)) := (Below.refl _ _).alloc (Nat.le_refl _) _
  have LI := line_any (nsOf S) m (needS S) _ _ _ (by have := hweb.below hbx; rw [gridB_eq, ← hm] at this; exact this) hnl (by omega) (fun u => needS_len HSM.out u) (fun u hu => by have := needS_range (S := S) u; rw [← hm] at this; exact this)
  have HLI := Lib.hid LI
  have HB2 := Lib.hid (hb1.trans (hbx.mono hb1.size))
  have HM := Lib.hid hm
  clear LI hweb hb1 hbx hm hnl
  by_cases hlt : m < n
  · have HRES : Hid (LinR S [] 12) := Lib.hid (.inl ⟨by rw [← HM.out, ← HN.out]; exact hlt, rfl, rfl⟩)
    go_wp2_with fail
    go_ret2
    exact ⟨_, [], 12, rfl, HRES.out, .inl ⟨rfl, none, 0, rfl⟩, HB2.out⟩
  · have hme : m = n := by omega
    have HME := Lib.hid hme
    clear hme
    go_wp2_with fail
    refine HLI.out.mono ?_
    rintro e w3 ⟨ov, told, rfl, hre, hnx, hrow, hb3⟩
    obtain ⟨q, hq⟩ : ∃ q, q = told.length := ⟨_, rfl⟩
    obtain ⟨oa, oc, hov⟩ := hrow.form
    rw [← hq] at hov
    subst hov
    have hqm : q ≤ m := by rw [hq]; exact reach_len hre
    have HRD := Lib.hid (row_reads (xs := told.map fun u => (nsOf S).getD u.toNat ByteArray.empty) (by rw [List.map_map]; exact hrow))
    have HQ := Lib.hid hq
    have HRE := Lib.hid (HM.out ▸ hre)
    have HNX := Lib.hid (HM.out ▸ hnx)
    have HB3 := Lib.hid (HB2.out.trans (hb3.mono HB2.out.size))
    clear hre hnx hrow hb3 hq
    by_cases hlt2 : q < n
    · have HRES : Hid (LinR S [] 11) := Lib.hid (.inr ⟨by rw [← HM.out, HME.out, HN.out], told, HRE.out, HNX.out, .inl ⟨by rw [← HQ.out, ← HN.out]; exact hlt2, rfl, rfl⟩⟩)
      go_wp2_with fail
      go_ret2
      exact ⟨_, [], 11, rfl, HRES.out, .inl ⟨rfl, none, 0, rfl⟩, HB3.out⟩
    · have HRES : Hid (LinR S (told.map fun u => (nsOf S).getD u.toNat ByteArray.empty) 0) := Lib.hid (.inr ⟨by rw [← HM.out, HME.out, HN.out], told, HRE.out, HNX.out, .inr ⟨by rw [← HQ.out, ← HN.out]; have := HME.out; omega, rfl, rfl⟩⟩)
      go_wp2_with fail
      go_ret2
      exact ⟨_, _, 0, rfl, HRES.out, HRD.out, HB3.out⟩
set_option maxHeartbeats 600000 in
theorem check_any (S : SetB) (v : Value) (w : World) (hS : SReads w v S) (hsm : SmallS S) :
    Calls Tryz.prog 22 #[v] w fun e w' => ∃ out k, e = .returned (errO k) ∧ LinR S out k ∧ Below w.heap.size w w' := by
  have HL := Lib.hid (linear_any S v w hS hsm)
  clear hS
  go_enter Tryz.func22, Tryz.ntmps22
  go_wp2_with fail
  refine HL.out.mono ?_
  rintro e w1 ⟨ov, out, k, rfl, hlin, hrd, hb⟩
  obtain ⟨ev, hev⟩ : ∃ ev, ev = errO k := ⟨_, rfl⟩
  rw [← hev]
  have HEV := Lib.hid hev
  clear hev hrd
  go_wp2_with fail
  go_ret
  exact ⟨out, k, by rw [← HEV.out]; rfl, hlin, hb⟩
end Go.Proofs.YtojnagonhihknaaGreatDoor
/- The mathematics of package order's laws: what an order that tells all says by names; closed parts. -/
set_option linter.unusedVariables false
namespace Go.Proofs.YtojnagonhihknaaGreatDoor

theorem nodup_sub {α : Type} [DecidableEq α] : ∀ {l m : List α}, l.Nodup → (∀ x ∈ l, x ∈ m) → l.length ≤ m.length := by
  intro l
  induction l with
  | nil => intro m _ _; exact Nat.zero_le _
  | cons x l ih =>
    intro m hd hs
    obtain ⟨hx, hd⟩ := List.nodup_cons.1 hd
    have hxm := hs x (by simp)
    have h1 := ih (m := m.erase x) hd (fun y hy => (List.mem_erase_of_ne (fun e => hx (by rw [← e]; exact hy))).2 (hs y (by simp [hy])))
    have h2 := List.length_erase_of_mem hxm
    have h3 := List.length_pos_of_mem hxm
    simp only [List.length_cons]
    omega
theorem nodup_eqlen {α : Type} [DecidableEq α] : ∀ {l m : List α}, l.Nodup → (∀ x ∈ l, x ∈ m) → m.length = l.length → m.Nodup := by
  intro l
  induction l with
  | nil =>
    intro m _ _ hl
    obtain rfl : m = [] := List.length_eq_zero_iff.1 hl
    exact List.nodup_nil
  | cons x l ih =>
    intro m hd hs hl
    have hdc := hd
    obtain ⟨hx, hd⟩ := List.nodup_cons.1 hd
    have hxm := hs x (by simp)
    have h2 := List.length_erase_of_mem hxm
    have hsub : ∀ y ∈ l, y ∈ m.erase x := fun y hy => (List.mem_erase_of_ne (fun e => hx (by rw [← e]; exact hy))).2 (hs y (by simp [hy]))
    have h1 := ih (m := m.erase x) hd hsub (by rw [h2, hl]; simp)
    have hnx : x ∉ m.erase x := fun hm => by
      have := nodup_sub (m := m.erase x) hdc (fun y hy => by
        rcases List.mem_cons.1 hy with rfl | hy
        · exact hm
        · exact hsub y hy)
      rw [h2, hl] at this
      simp only [List.length_cons] at this
      omega
    exact (List.perm_cons_erase hxm).nodup_iff.2 (List.nodup_cons.2 ⟨hnx, h1⟩)
theorem nodup_all {α : Type} [DecidableEq α] {l m : List α} (hd : l.Nodup) (hs : ∀ x ∈ l, x ∈ m) (hl : m.length ≤ l.length) : ∀ x ∈ m, x ∈ l := fun x hx => by
  rcases Classical.em (x ∈ l) with h | h
  · exact h
  · have := nodup_sub (l := x :: l) (m := m) (List.nodup_cons.2 ⟨h, hd⟩) (fun y hy => by
      rcases List.mem_cons.1 hy with rfl | hy
      · exact hx
      · exact hs y hy)
    simp at this
    omega

structure LinOk (S : SetB) (lb : List Bs) : Prop where
  uniq : (S.map fun p => bsOf p.1).Nodup
  len : lb.length = S.length
  nodup : lb.Nodup
  mem : ∀ x, x ∈ lb ↔ x ∈ nsB S
  reach : ReachK (needS S) (nsB S).length (lb.map (placeB (nsB S)))
  behind : ∀ k (hk : k < lb.length), ∀ p ∈ S, bsOf p.1 = lb[k] → ∀ d ∈ p.2, bsOf d ∈ lb.take k
theorem nsB_nodup (S : SetB) : (nsB S).Nodup := asc_nodup (nsB_spec S).1
theorem nsB_mem {S : SetB} {x : Bs} : x ∈ nsB S ↔ ∃ p ∈ S, bsOf p.1 = x := by
  rw [(nsB_spec S).2, List.mem_map]
theorem need_mem {S : SetB} {p : ByteArray × Lb} (hp : p ∈ S) {d : ByteArray} (hd : d ∈ p.2) : placeB (nsB S) (bsOf d) ∈ needS S (placeB (nsB S) (bsOf p.1)) := by
  unfold needS needB
  refine List.mem_flatMap.2 ⟨(bsOf p.1, p.2.map bsOf), List.mem_filter.2 ⟨List.mem_map.2 ⟨p, hp, rfl⟩, by simp⟩, ?_⟩
  exact List.mem_map.2 ⟨bsOf d, List.mem_map.2 ⟨d, hd, rfl⟩, rfl⟩
theorem need_of {S : SetB} {x : Bs} {e : Int} (hx : x ∈ nsB S) (h : e ∈ needS S (placeB (nsB S) x)) : ∃ p ∈ S, bsOf p.1 = x ∧ ∃ d ∈ p.2, e = placeB (nsB S) (bsOf d) := by
  unfold needS needB at h
  obtain ⟨q, hq, he⟩ := List.mem_flatMap.1 h
  obtain ⟨hq1, hq2⟩ := List.mem_filter.1 hq
  obtain ⟨p, hp, rfl⟩ := List.mem_map.1 hq1
  obtain ⟨b, hb, rfl⟩ := List.mem_map.1 he
  obtain ⟨d, hd, rfl⟩ := List.mem_map.1 hb
  refine ⟨p, hp, ?_, d, hd, rfl⟩
  exact place_inj (nsB_mem.2 ⟨p, hp, rfl⟩) (by simpa using hq2)
theorem nsOf_getD (S : SetB) (u : Nat) : bsOf ((nsOf S).getD u ByteArray.empty) = (nsB S).getD u [] := by
  rw [List.getD_eq_getElem?_getD, List.getD_eq_getElem?_getD]
  unfold nsOf
  rw [List.getElem?_map]
  cases (nsB S)[u]? with
  | none => rfl
  | some b => rfl
theorem lin_ok {S : SetB} {out : Lb} (h : LinR S out 0) : LinOk S (out.map bsOf) := by
  rcases h with ⟨_, _, h⟩ | ⟨hlen, told, hre, hnx, ⟨_, _, h⟩ | ⟨htl, rfl, _⟩⟩
  · exact absurd h (by decide)
  · exact absurd h (by decide)
  · have hasc := (nsB_spec S).1
    obtain ⟨htd, htm⟩ := reach_tame hre
    have huniq : (S.map fun p => bsOf p.1).Nodup := nodup_eqlen (nsB_nodup S) (fun x hx => ((nsB_spec S).2 x).1 hx) (by rw [List.length_map, hlen])
    have hlb : (told.map fun u => (nsOf S).getD u.toNat ByteArray.empty).map bsOf = told.map fun u => (nsB S).getD u.toNat [] := by
      rw [List.map_map]
      exact List.map_congr_left fun u _ => nsOf_getD S _
    rw [hlb]
    have hat : ∀ u ∈ told, ∃ k : Nat, ∃ hk : k < (nsB S).length, u = (k : Int) ∧ (nsB S).getD u.toNat [] = (nsB S)[k] := fun u hu => by
      obtain ⟨k, hk, rfl⟩ := htm u hu
      refine ⟨k, hk, rfl, ?_⟩
      rw [List.getD_eq_getElem?_getD, Int.toNat_natCast, List.getElem?_eq_getElem hk]
      rfl
    have hpl : (told.map fun u => (nsB S).getD u.toNat []).map (placeB (nsB S)) = told := by
      rw [List.map_map]
      conv => rhs; rw [← List.map_id told]
      refine List.map_congr_left fun u hu => ?_
      obtain ⟨k, hk, rfl, e⟩ := hat u hu
      simp only [Function.comp]
      rw [e, place_at hasc hk]
      rfl
    have hmemlb : ∀ x ∈ told.map (fun u => (nsB S).getD u.toNat []), x ∈ nsB S := fun x hx => by
      obtain ⟨u, hu, rfl⟩ := List.mem_map.1 hx
      obtain ⟨k, hk, rfl, e⟩ := hat u hu
      rw [e]
      exact List.getElem_mem hk
    have hnd : (told.map fun u => (nsB S).getD u.toNat []).Nodup := by
      have h1 : ((told.map fun u => (nsB S).getD u.toNat []).map (placeB (nsB S))).Nodup := by rw [hpl]; exact htd
      exact List.Pairwise.of_map _ (fun a b hab e => hab (by rw [e])) h1
    refine ⟨huniq, by rw [List.length_map]; exact htl, hnd, fun x => ⟨hmemlb x, nodup_all hnd hmemlb (by rw [List.length_map, htl, hlen]; exact Nat.le_refl _) x⟩, by rw [hpl]; exact hre, fun k hk p hp he d hd => ?_⟩
    have hk' : k < told.length := by rw [List.length_map] at hk; exact hk
    have hkk : told[k] = placeB (nsB S) (bsOf p.1) := by
      rw [he]
      have : (told.map fun u => (nsB S).getD u.toNat [])[k] = (nsB S).getD told[k].toNat [] := by simp
      rw [this]
      obtain ⟨q, hq, e1, e2⟩ := hat told[k] (List.getElem_mem hk')
      rw [e2, place_at hasc hq, e1]
    have hb := reach_behind hre k hk' (placeB (nsB S) (bsOf d)) (by rw [hkk]; exact need_mem hp hd)
    have : told.take k = ((told.map fun u => (nsB S).getD u.toNat []).take k).map (placeB (nsB S)) := by rw [List.map_take, hpl]
    rw [this] at hb
    exact (place_mem (ns := nsB S) (fun t ht => hmemlb t (List.mem_of_mem_take ht)) (bsOf d)).1 hb

noncomputable def partS (S : SetB) (Q : Bs → Prop) : SetB := S.filter fun p => @decide (Q (bsOf p.1)) (Classical.propDecidable _)
theorem mem_part {S : SetB} {Q : Bs → Prop} {p : ByteArray × Lb} : p ∈ partS S Q ↔ p ∈ S ∧ Q (bsOf p.1) := by
  unfold partS
  rw [List.mem_filter]
  simp
theorem part_uniq {S : SetB} {Q : Bs → Prop} (h : (S.map fun p => bsOf p.1).Nodup) : ((partS S Q).map fun p => bsOf p.1).Nodup := by
  unfold partS
  exact List.Pairwise.sublist (List.Sublist.map _ (List.filter_sublist)) h
theorem nsB_full {S : SetB} (h : (S.map fun p => bsOf p.1).Nodup) : (nsB S).length = S.length := by
  have h1 := nodup_sub h (m := nsB S) (fun x hx => ((nsB_spec S).2 x).2 hx)
  have h2 := nsB_len S
  rw [List.length_map] at h1
  omega
theorem part_lin {S : SetB} {lb : List Bs} {Q : Bs → Prop} (h : LinOk S lb) (hQ : ∀ p ∈ S, Q (bsOf p.1) → ∀ d ∈ p.2, Q (bsOf d)) {out : Lb} {k : Int} (hr : LinR (partS S Q) out k) : k = 0 := by
  have hu := part_uniq (Q := Q) h.uniq
  have hf := nsB_full hu
  rcases hr with ⟨hlt, _, _⟩ | ⟨_, told, hre, hnx, ⟨htl, _, _⟩ | ⟨_, _, hk⟩⟩
  · omega
  · exfalso
    have hasc := (nsB_spec (partS S Q)).1
    obtain ⟨htd, htm⟩ := reach_tame hre
    have hs6 : (s6 (partS S Q)).map (·.1) = (partS S Q).map fun p => bsOf p.1 := by simp [s6]
    -- what is told, by names
    obtain ⟨tn, htn⟩ : ∃ tn, tn = told.map fun u => (nsB (partS S Q)).getD u.toNat [] := ⟨_, rfl⟩
    have hat : ∀ u ∈ told, ∃ k : Nat, ∃ hk : k < (nsB (partS S Q)).length, u = (k : Int) ∧ (nsB (partS S Q)).getD u.toNat [] = (nsB (partS S Q))[k] := fun u hu => by
      obtain ⟨k, hk, rfl⟩ := htm u hu
      refine ⟨k, hk, rfl, ?_⟩
      rw [List.getD_eq_getElem?_getD, Int.toNat_natCast, List.getElem?_eq_getElem hk]
      rfl
    have hpl : tn.map (placeB (nsB (partS S Q))) = told := by
      rw [htn, List.map_map]
      conv => rhs; rw [← List.map_id told]
      refine List.map_congr_left fun u hu => ?_
      obtain ⟨k, hk, rfl, e⟩ := hat u hu
      simp only [Function.comp]
      rw [e, place_at hasc hk]
      rfl
    have htns : ∀ x ∈ tn, x ∈ nsB (partS S Q) := fun x hx => by
      rw [htn] at hx
      obtain ⟨u, hu, rfl⟩ := List.mem_map.1 hx
      obtain ⟨k, hk, rfl, e⟩ := hat u hu
      rw [e]
      exact List.getElem_mem hk
    have hnone := next_none (ns := nsB (partS S Q)) (set := s6 (partS S Q)) (told := tn) hasc (fun x => by rw [hs6]; exact (nsB_spec (partS S Q)).2 x) (by rw [hs6]; exact hu) htns (by rw [hpl]; exact hnx)
    -- the first of the whole's order that is of the part and isn't told
    have key : ∀ i, ∀ (hi : i < lb.length), Q lb[i] → lb[i] ∈ tn := by
      intro i
      induction i using Nat.strongRecOn with
      | _ i ih =>
        intro hi hq
        rcases Classical.em (lb[i] ∈ tn) with h1 | h1
        · exact h1
        · exfalso
          obtain ⟨p, hp, hpe⟩ := nsB_mem.1 ((h.mem lb[i]).1 (List.getElem_mem hi))
          have hpp : p ∈ partS S Q := mem_part.2 ⟨hp, by rw [hpe]; exact hq⟩
          refine hnone lb[i] ⟨(bsOf p.1, p.2.map bsOf), List.mem_map.2 ⟨p, hpp, rfl⟩, hpe, h1, fun d hd => ?_⟩
          obtain ⟨d0, hd0, rfl⟩ := List.mem_map.1 hd
          have hb := h.behind i hi p hp hpe d0 hd0
          obtain ⟨j, hj, hje⟩ := List.getElem_of_mem hb
          rw [List.length_take] at hj
          rw [List.getElem_take] at hje
          have := ih j (by omega) (by omega) (by rw [hje]; exact hQ p hp (by rw [hpe]; exact hq) d0 hd0)
          rw [hje] at this
          exact this
    have hall : ∀ x ∈ (partS S Q).map (fun p => bsOf p.1), x ∈ tn := fun x hx => by
      obtain ⟨p, hp, rfl⟩ := List.mem_map.1 hx
      obtain ⟨hp1, hp2⟩ := mem_part.1 hp
      obtain ⟨i, hi, hie⟩ := List.getElem_of_mem ((h.mem (bsOf p.1)).2 (nsB_mem.2 ⟨p, hp1, rfl⟩))
      rw [← hie]
      exact key i hi (by rw [hie]; exact hp2)
    have := nodup_sub hu hall
    rw [List.length_map, htn, List.length_map] at this
    omega
  · exact hk
end Go.Proofs.YtojnagonhihknaaGreatDoor
/- A set told in another order: the same order. -/
set_option linter.unusedVariables false
namespace Go.Proofs.YtojnagonhihknaaGreatDoor

theorem nsB_perm {S T : SetB} (h : S.Perm T) : nsB S = nsB T :=
  asc_unique (nsB_spec S).1 (nsB_spec T).1 (fun x => by rw [(nsB_spec S).2, (nsB_spec T).2]; exact (h.map fun p => bsOf p.1).mem_iff)
theorem need_perm {S T : SetB} (h : S.Perm T) (u : Int) : (needS S u).Perm (needS T u) := by
  unfold needS needB
  rw [nsB_perm h]
  exact ((h.map fun p => (bsOf p.1, p.2.map bsOf)).filter _).flatMap_right _
theorem wait_perm {S T : SetB} (h : S.Perm T) (told : List Int) (u : Int) : waitK (needS S) told u = waitK (needS T) told u := (need_perm h u).countP_eq _
theorem next_perm {S T : SetB} (h : S.Perm T) (n : Nat) (told : List Int) : nextK (needS S) n told = nextK (needS T) n told := by
  unfold nextK
  congr 1
  funext u
  unfold canB
  rw [wait_perm h]
theorem reach_perm {S T : SetB} (h : S.Perm T) {n : Nat} {told : List Int} (hr : ReachK (needS S) n told) : ReachK (needS T) n told := by
  induction hr with
  | nil => exact .nil
  | step _ hu ih => exact .step ih (by rw [← next_perm h]; exact hu)
theorem lin_perm {S T : SetB} (h : S.Perm T) {a b : Lb} {k l : Int} (ha : LinR S a k) (hb : LinR T b l) : a = b ∧ k = l := by
  have hn := nsB_perm h
  have hl := h.length_eq
  have ho : nsOf S = nsOf T := by unfold nsOf; rw [hn]
  rcases ha with ⟨h1, rfl, rfl⟩ | ⟨h1, t, r1, n1, hx⟩
  · rcases hb with ⟨_, rfl, rfl⟩ | ⟨h2, _⟩
    · exact ⟨rfl, rfl⟩
    · rw [hn] at h1; omega
  · rcases hb with ⟨h2, _, _⟩ | ⟨h2, t', r2, n2, hy⟩
    · rw [← hn] at h2; omega
    · have r1' := reach_perm h r1
      rw [hn] at r1' n1
      rw [next_perm h] at n1
      have e := reach_end r1' r2 n1 n2
      subst e
      rcases hx with ⟨x1, rfl, rfl⟩ | ⟨x1, rfl, rfl⟩ <;> rcases hy with ⟨y1, rfl, rfl⟩ | ⟨y1, rfl, rfl⟩
      · exact ⟨rfl, rfl⟩
      · omega
      · omega
      · exact ⟨by rw [ho], rfl⟩
theorem small_perm {S T : SetB} (h : S.Perm T) (hs : SmallS S) : SmallS T := by
  refine ⟨by rw [← h.length_eq]; exact hs.1, ?_⟩
  have := (h.map fun p => p.2.length).sum_nat
  rw [← this]; exact hs.2
def turnS {α : Type} (S : List α) (k t : Nat) : List α := (List.range t).filterMap fun i => S[(S.length - 1 - i + k) % S.length]?
theorem turnS_step {α : Type} {S : List α} {k t : Nat} {p : α} (hp : S[(S.length - 1 - t + k) % S.length]? = some p) : turnS S k (t + 1) = turnS S k t ++ [p] := by
  unfold turnS
  rw [List.range_succ, List.filterMap_append]
  simp [hp]
theorem turnS_perm {α : Type} {S : List α} {k : Nat} (hk : k < S.length) : (turnS S k S.length).Perm S := by
  have e : turnS S k S.length = (S.drop k ++ S.take k).reverse := by
    have h1 : ∀ t, t ≤ S.length → turnS S k t = ((S.drop k ++ S.take k).reverse).take t := by
      intro t
      induction t with
      | zero => intro _; simp [turnS]
      | succ t ih =>
        intro ht
        have hlen : (S.drop k ++ S.take k).length = S.length := by rw [List.length_append, List.length_drop, List.length_take]; omega
        have hi : (S.length - 1 - t + k) % S.length < S.length := Nat.mod_lt _ (by omega)
        have hg : ((S.drop k ++ S.take k).reverse)[t]? = some (S[(S.length - 1 - t + k) % S.length]'hi) := by
          rw [List.getElem?_reverse (by rw [hlen]; omega), hlen]
          by_cases h : S.length - 1 - t < S.length - k
          · rw [List.getElem?_append_left (by rw [List.length_drop]; exact h), List.getElem?_drop]
            rw [List.getElem?_eq_getElem (by omega)]
            congr 1
            have : (S.length - 1 - t + k) % S.length = k + (S.length - 1 - t) := by rw [Nat.mod_eq_of_lt (by omega)]; omega
            simp only [this]
          · rw [List.getElem?_append_right (by rw [List.length_drop]; omega), List.length_drop, List.getElem?_take, if_pos (by omega)]
            rw [List.getElem?_eq_getElem (by omega)]
            congr 1
            have : (S.length - 1 - t + k) % S.length = S.length - 1 - t - (S.length - k) := by
              rw [Nat.mod_eq_sub_mod (by omega), Nat.mod_eq_of_lt (by omega)]; omega
            simp only [this]
        rw [turnS_step (p := S[(S.length - 1 - t + k) % S.length]'hi) (by rw [List.getElem?_eq_getElem hi]), ih (by omega), List.take_add_one, hg]
        rfl
    rw [h1 _ (Nat.le_refl _)]
    refine List.take_of_length_le ?_
    rw [List.length_reverse, List.length_append, List.length_drop, List.length_take]; omega
  rw [e]
  refine (List.reverse_perm _).trans (List.perm_append_comm.trans ?_)
  rw [List.take_append_drop]
end Go.Proofs.YtojnagonhihknaaGreatDoor
