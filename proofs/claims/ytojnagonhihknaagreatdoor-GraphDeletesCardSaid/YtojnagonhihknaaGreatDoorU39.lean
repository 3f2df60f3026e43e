/- Linear and Check, walked.   The contract of the laws' Small. -/
import Derived.Test.YtojnagonhihknaaGreatDoorU38
set_option linter.unusedVariables false
namespace Go.Proofs.YtojnagonhihknaaGreatDoor
open Go.ChangeShapes Go.WideShapes Go.ChangeAt Go.RowKit

noncomputable abbrev needS (S : SetB) : Int → List Int := needB (nsB S) (s6 S)
def LinR (S : SetB) (out : Lb) (k : Int) : Prop :=
  ((nsB S).length < S.length ∧ out = [] ∧ k = 12) ∨
  ((nsB S).length = S.length ∧ ∃ told : List Int, ReachK (needS S) (nsB S).length told ∧ nextK (needS S) (nsB S).length told = none ∧ ((told.length < S.length ∧ out = [] ∧ k = 11) ∨ (told.length = S.length ∧ out = told.map (fun u => (nsOf S).getD u.toNat ByteArray.empty) ∧ k = 0)))
def errO (k : Int) : Value := if k = 0 then .nilIface else .iface 67 (.int .i64 k)
def SmallS (S : SetB) : Prop := S.length ≤ 60 ∧ (S.map fun p => p.2.length).sum ≤ 400
def SmallW (S : SetB) : Prop := S.length ≤ 61 ∧ (S.map fun p => p.2.length).sum ≤ 401
theorem SmallS.wide {S : SetB} (h : SmallS S) : SmallW S := ⟨Nat.le_trans h.1 (by decide), Nat.le_trans h.2 (by decide)⟩
instance {S : SetB} : Coe (SmallS S) (SmallW S) := ⟨SmallS.wide⟩
theorem s6_sum (S : SetB) : ((s6 S).map fun p => p.2.length).sum = (S.map fun p => p.2.length).sum := by
  unfold s6
  rw [List.map_map]
  congr 1
  exact List.map_congr_left fun p _ => by simp
theorem needS_len {S : SetB} (h : SmallW S) (u : Int) : (needS S u).length ≤ 401 := by
  have h1 := needB_sum (nsB S) u (s6 S)
  rw [s6_sum] at h1
  exact Nat.le_trans h1 h.2
theorem needS_range {S : SetB} (u : Nat) : ∀ d ∈ needS S (u : Int), d = -1 ∨ ∃ v : Nat, v < (nsB S).length ∧ d = (v : Int) := fun d hd => needB_range hd
theorem gridB_eq (S : SetB) : gridB (nsB S) (s6 S) = (List.range (nsB S).length).map fun u : Nat => needS S (u : Int) := rfl
set_option maxHeartbeats 600000 in
set_option maxRecDepth 100000 in
theorem linear_any (S : SetB) (v : Value) (w : World) (hS : SReads w v S) (hsm : SmallW S) :
    Calls Tryz.prog 43 #[v] w fun e w' => ∃ ov out k, e = .returned (.tuple #[ov, errO k]) ∧ LinR S out k ∧ Reads w' ov out ∧ Below w.heap.size w w' := by
  have WV := weave_any S v w hS hsm.1 hsm.2
  obtain ⟨sa, sc, rfl, _⟩ := hS.form
  obtain ⟨n, hnn⟩ : ∃ n, n = S.length := ⟨_, rfl⟩
  have hn60 : n ≤ 61 := by rw [hnn]; exact hsm.1
  rw [← hnn] at WV ⊢
  have HWV := Lib.hid WV
  have HN := Lib.hid hnn
  have HSM := Lib.hid hsm
  clear WV hS hnn hsm
  go_enter Tryz.func43, Tryz.ntmps43
  go_wp2_with fail
  refine HWV.out.mono ?_
  rintro e w1 ⟨nv, gv, rfl, hweb, hb1⟩
  obtain ⟨m, hm⟩ : ∃ m, m = (nsB S).length := ⟨_, rfl⟩
  have hnl : (nsOf S).length = m := by rw [nsOf_len, hm]
  obtain ⟨na, nc, hnv, _⟩ := hweb.names.form
  obtain ⟨gb, gs, gc, hgv, _⟩ := hweb.rows
  rw [hnl] at hnv hgv
  subst hnv; subst hgv
  have hmn : m ≤ n := by rw [hm, HN.out]; exact nsB_len S
  have hbx : Below w1.heap.size w1 (w1.alloc (.cells #[.slice na m nc, .slice (some ⟨gb, 0, none⟩) m gc] 148)) := (Below.refl _ _).alloc (Nat.le_refl _) _
  have LI := line_any (nsOf S) m (needS S) _ _ _ (by have := hweb.below hbx; rw [gridB_eq, ← hm] at this; exact this) hnl (by omega) (fun u => needS_len HSM.out u) (fun u hu => by have := needS_range (S := S) u; rw [← hm] at this; exact this)
  have HLI := Lib.hid LI
  have HB2 := Lib.hid (hb1.trans (hbx.mono hb1.size))
  have HM := Lib.hid hm
  clear LI hweb hb1 hbx hm hnl
  by_cases hlt : m < n
  · have HRES : Hid (LinR S [] 12) := Lib.hid (.inl ⟨by rw [← HM.out, ← HN.out]; exact hlt, rfl, rfl⟩)
    go_wp2_with fail
    go_ret2
    exact ⟨_, [], 12, rfl, HRES.out, .inl ⟨rfl, none, 0, rfl⟩, HB2.out⟩
  · have hme : m = n := by omega
    have HME := Lib.hid hme
    clear hme
    go_wp2_with fail
    refine HLI.out.mono ?_
    rintro e w3 ⟨ov, told, rfl, hre, hnx, hrow, hb3⟩
    obtain ⟨q, hq⟩ : ∃ q, q = told.length := ⟨_, rfl⟩
    obtain ⟨oa, oc, hov⟩ := hrow.form
    rw [← hq] at hov
    subst hov
    have hqm : q ≤ m := by rw [hq]; exact reach_len hre
    have HRD := Lib.hid (row_reads (xs := told.map fun u => (nsOf S).getD u.toNat ByteArray.empty) (by rw [List.map_map]; exact hrow))
    have HQ := Lib.hid hq
    have HRE := Lib.hid (HM.out ▸ hre)
    have HNX := Lib.hid (HM.out ▸ hnx)
    have HB3 := Lib.hid (HB2.out.trans (hb3.mono HB2.out.size))
    clear hre hnx hrow hb3 hq
    by_cases hlt2 : q < n
    · have HRES : Hid (LinR S [] 11) := Lib.hid (.inr ⟨by rw [← HM.out, HME.out, HN.out], told, HRE.out, HNX.out, .inl ⟨by rw [← HQ.out, ← HN.out]; exact hlt2, rfl, rfl⟩⟩)
      go_wp2_with fail
      go_ret2
      exact ⟨_, [], 11, rfl, HRES.out, .inl ⟨rfl, none, 0, rfl⟩, HB3.out⟩
    · have HRES : Hid (LinR S (told.map fun u => (nsOf S).getD u.toNat ByteArray.empty) 0) := Lib.hid (.inr ⟨by rw [← HM.out, HME.out, HN.out], told, HRE.out, HNX.out, .inr ⟨by rw [← HQ.out, ← HN.out]; have := HME.out; omega, rfl, rfl⟩⟩)
      go_wp2_with fail
      go_ret2
      exact ⟨_, _, 0, rfl, HRES.out, HRD.out, HB3.out⟩
set_option maxHeartbeats 600000 in
theorem check_any (S : SetB) (v : Value) (w : World) (hS : SReads w v S) (hsm : SmallW S) :
    Calls Tryz.prog 22 #[v] w fun e w' => ∃ out k, e = .returned (errO k) ∧ LinR S out k ∧ Below w.heap.size w w' := by
  have HL := Lib.hid (linear_any S v w hS hsm)
  clear hS
  go_enter Tryz.func22, Tryz.ntmps22
  go_wp2_with fail
  refine HL.out.mono ?_
  rintro e w1 ⟨ov, out, k, rfl, hlin, hrd, hb⟩
  obtain ⟨ev, hev⟩ : ∃ ev, ev = errO k := ⟨_, rfl⟩
  rw [← hev]
  have HEV := Lib.hid hev
  clear hev hrd
  go_wp2_with fail
  go_ret
  exact ⟨out, k, by rw [← HEV.out]; rfl, hlin, hb⟩
end Go.Proofs.YtojnagonhihknaaGreatDoor
/- The mathematics of package order's laws: what an order that tells all says by names; closed parts. -/
set_option linter.unusedVariables false
namespace Go.Proofs.YtojnagonhihknaaGreatDoor

theorem nodup_sub {α : Type} [DecidableEq α] : ∀ {l m : List α}, l.Nodup → (∀ x ∈ l, x ∈ m) → l.length ≤ m.length := by
  intro l
  induction l with
  | nil => intro m _ _; exact Nat.zero_le _
  | cons x l ih =>
    intro m hd hs
    obtain ⟨hx, hd⟩ := List.nodup_cons.1 hd
    have hxm := hs x (by simp)
    have h1 := ih (m := m.erase x) hd (fun y hy => (List.mem_erase_of_ne (fun e => hx (by rw [← e]; exact hy))).2 (hs y (by simp [hy])))
    have h2 := List.length_erase_of_mem hxm
    have h3 := List.length_pos_of_mem hxm
    simp only [List.length_cons]
    omega
theorem nodup_eqlen {α : Type} [DecidableEq α] : ∀ {l m : List α}, l.Nodup → (∀ x ∈ l, x ∈ m) → m.length = l.length → m.Nodup := by
  intro l
  induction l with
  | nil =>
    intro m _ _ hl
    obtain rfl : m = [] := List.length_eq_zero_iff.1 hl
    exact List.nodup_nil
  | cons x l ih =>
    intro m hd hs hl
    have hdc := hd
    obtain ⟨hx, hd⟩ := List.nodup_cons.1 hd
    have hxm := hs x (by simp)
    have h2 := List.length_erase_of_mem hxm
    have hsub : ∀ y ∈ l, y ∈ m.erase x := fun y hy => (List.mem_erase_of_ne (fun e => hx (by rw [← e]; exact hy))).2 (hs y (by simp [hy]))
    have h1 := ih (m := m.erase x) hd hsub (by rw [h2, hl]; simp)
    have hnx : x ∉ m.erase x := fun hm => by
      have := nodup_sub (m := m.erase x) hdc (fun y hy => by
        rcases List.mem_cons.1 hy with rfl | hy
        · exact hm
        · exact hsub y hy)
      rw [h2, hl] at this
      simp only [List.length_cons] at this
      omega
    exact (List.perm_cons_erase hxm).nodup_iff.2 (List.nodup_cons.2 ⟨hnx, h1⟩)
theorem nodup_all {α : Type} [DecidableEq α] {l m : List α} (hd : l.Nodup) (hs : ∀ x ∈ l, x ∈ m) (hl : m.length ≤ l.length) : ∀ x ∈ m, x ∈ l := fun x hx => by
  rcases Classical.em (x ∈ l) with h | h
  · exact h
  · have := nodup_sub (l := x :: l) (m := m) (List.nodup_cons.2 ⟨h, hd⟩) (fun y hy => by
      rcases List.mem_cons.1 hy with rfl | hy
      · exact hx
      · exact hs y hy)
    simp at this
    omega

structure LinOk (S : SetB) (lb : List Bs) : Prop where
  uniq : (S.map fun p => bsOf p.1).Nodup
  len : lb.length = S.length
  nodup : lb.Nodup
  mem : ∀ x, x ∈ lb ↔ x ∈ nsB S
  reach : ReachK (needS S) (nsB S).length (lb.map (placeB (nsB S)))
  behind : ∀ k (hk : k < lb.length), ∀ p ∈ S, bsOf p.1 = lb[k] → ∀ d ∈ p.2, bsOf d ∈ lb.take k
theorem nsB_nodup (S : SetB) : (nsB S).Nodup := asc_nodup (nsB_spec S).1
theorem nsB_mem {S : SetB} {x : Bs} : x ∈ nsB S ↔ ∃ p ∈ S, bsOf p.1 = x := by
  rw [(nsB_spec S).2, List.mem_map]
theorem need_mem {S : SetB} {p : ByteArray × Lb} (hp : p ∈ S) {d : ByteArray} (hd : d ∈ p.2) : placeB (nsB S) (bsOf d) ∈ needS S (placeB (nsB S) (bsOf p.1)) := by
  unfold needS needB
  refine List.mem_flatMap.2 ⟨(bsOf p.1, p.2.map bsOf), List.mem_filter.2 ⟨List.mem_map.2 ⟨p, hp, rfl⟩, by simp⟩, ?_⟩
  exact List.mem_map.2 ⟨bsOf d, List.mem_map.2 ⟨d, hd, rfl⟩, rfl⟩
theorem nsOf_getD (S : SetB) (u : Nat) : bsOf ((nsOf S).getD u ByteArray.empty) = (nsB S).getD u [] := by
  rw [List.getD_eq_getElem?_getD, List.getD_eq_getElem?_getD]
  unfold nsOf
  rw [List.getElem?_map]
  cases (nsB S)[u]? with
  | none => rfl
  | some b => rfl
theorem lin_ok {S : SetB} {out : Lb} (h : LinR S out 0) : LinOk S (out.map bsOf) := by
  rcases h with ⟨_, _, h⟩ | ⟨hlen, told, hre, hnx, ⟨_, _, h⟩ | ⟨htl, rfl, _⟩⟩
  · exact absurd h (by decide)
  · exact absurd h (by decide)
  · have hasc := (nsB_spec S).1
    obtain ⟨htd, htm⟩ := reach_tame hre
    have huniq : (S.map fun p => bsOf p.1).Nodup := nodup_eqlen (nsB_nodup S) (fun x hx => ((nsB_spec S).2 x).1 hx) (by rw [List.length_map, hlen])
    have hlb : (told.map fun u => (nsOf S).getD u.toNat ByteArray.empty).map bsOf = told.map fun u => (nsB S).getD u.toNat [] := by
      rw [List.map_map]
      exact List.map_congr_left fun u _ => nsOf_getD S _
    rw [hlb]
    have hat : ∀ u ∈ told, ∃ k : Nat, ∃ hk : k < (nsB S).length, u = (k : Int) ∧ (nsB S).getD u.toNat [] = (nsB S)[k] := fun u hu => by
      obtain ⟨k, hk, rfl⟩ := htm u hu
      refine ⟨k, hk, rfl, ?_⟩
      rw [List.getD_eq_getElem?_getD, Int.toNat_natCast, List.getElem?_eq_getElem hk]
      rfl
    have hpl : (told.map fun u => (nsB S).getD u.toNat []).map (placeB (nsB S)) = told := by
      rw [List.map_map]
      conv => rhs; rw [← List.map_id told]
      refine List.map_congr_left fun u hu => ?_
      obtain ⟨k, hk, rfl, e⟩ := hat u hu
      simp only [Function.comp]
      rw [e, place_at hasc hk]
      rfl
    have hmemlb : ∀ x ∈ told.map (fun u => (nsB S).getD u.toNat []), x ∈ nsB S := fun x hx => by
      obtain ⟨u, hu, rfl⟩ := List.mem_map.1 hx
      obtain ⟨k, hk, rfl, e⟩ := hat u hu
      rw [e]
      exact List.getElem_mem hk
    have hnd : (told.map fun u => (nsB S).getD u.toNat []).Nodup := by
      have h1 : ((told.map fun u => (nsB S).getD u.toNat []).map (placeB (nsB S))).Nodup := by rw [hpl]; exact htd
      exact List.Pairwise.of_map _ (fun a b hab e => hab (by rw [e])) h1
    refine ⟨huniq, by rw [List.length_map]; exact htl, hnd, fun x => ⟨hmemlb x, nodup_all hnd hmemlb (by rw [List.length_map, htl, hlen]; exact Nat.le_refl _) x⟩, by rw [hpl]; exact hre, fun k hk p hp he d hd => ?_⟩
    have hk' : k < told.length := by rw [List.length_map] at hk; exact hk
    have hkk : told[k] = placeB (nsB S) (bsOf p.1) := by
      rw [he]
      have : (told.map fun u => (nsB S).getD u.toNat [])[k] = (nsB S).getD told[k].toNat [] := by simp
      rw [this]
      obtain ⟨q, hq, e1, e2⟩ := hat told[k] (List.getElem_mem hk')
      rw [e2, place_at hasc hq, e1]
    have hb := reach_behind hre k hk' (placeB (nsB S) (bsOf d)) (by rw [hkk]; exact need_mem hp hd)
    have : told.take k = ((told.map fun u => (nsB S).getD u.toNat []).take k).map (placeB (nsB S)) := by rw [List.map_take, hpl]
    rw [this] at hb
    exact (place_mem (ns := nsB S) (fun t ht => hmemlb t (List.mem_of_mem_take ht)) (bsOf d)).1 hb

theorem nsB_full {S : SetB} (h : (S.map fun p => bsOf p.1).Nodup) : (nsB S).length = S.length := by
  have h1 := nodup_sub h (m := nsB S) (fun x hx => ((nsB_spec S).2 x).2 hx)
  have h2 := nsB_len S
  rw [List.length_map] at h1
  omega
end Go.Proofs.YtojnagonhihknaaGreatDoor
/- A set told in another order: the same order. -/
set_option linter.unusedVariables false
namespace Go.Proofs.YtojnagonhihknaaGreatDoor

end Go.Proofs.YtojnagonhihknaaGreatDoor
set_option linter.unusedVariables false
namespace Go.Proofs.YtojnagonhihknaaGreatDoor
open Go.ChangeShapes Go.WideShapes Go.ChangeAt Go.RowKit

theorem sum_snoc {S : SetB} {k : Nat} {p : ByteArray × Lb} (h : S[k]? = some p) : ((S.take (k + 1)).map fun p => p.2.length).sum = ((S.take k).map fun p => p.2.length).sum + p.2.length := by
  rw [List.take_add_one, h, List.map_append, List.sum_append]
  simp
theorem sum_room {S : SetB} (hD : ∀ p ∈ S, p.2.length ≤ 140737488355328) : ∀ k, ((S.take k).map fun p => p.2.length).sum ≤ k * 140737488355328 := by
  intro k
  induction k with
  | zero => simp
  | succ k ih =>
    cases h : S[k]? with
    | none =>
      have e : S.take k = S := List.take_of_length_le (List.getElem?_eq_none_iff.1 h)
      have e2 : S.take (k + 1) = S := List.take_of_length_le (by have := List.getElem?_eq_none_iff.1 h; omega)
      rw [e] at ih
      rw [e2, Nat.succ_mul]
      exact Nat.le_trans ih (Nat.le_add_right _ _)
    | some p =>
      rw [sum_snoc h, Nat.succ_mul]
      exact Nat.add_le_add ih (hD p (List.mem_of_getElem? h))
def SmallP (S : SetB) (w : World) (e : Ending) (w' : World) : Prop := ∃ b, e = .returned (.bool b) ∧ (b = true ↔ SmallS S) ∧ Below w.heap.size w w'
set_option maxHeartbeats 600000 in
set_option maxRecDepth 100000 in
theorem small_any (S : SetB) (v : Value) (w : World) (hS : SReads w v S) (hD : ∀ p ∈ S, p.2.length ≤ 140737488355328) (hn9 : S.length ≤ 140737488355328) :
    Calls Tryz.prog 20 #[v] w (SmallP S w) := by
  obtain ⟨sa, sc, rfl, _⟩ := hS.form
  obtain ⟨n, hnn⟩ : ∃ n, n = S.length := ⟨_, rfl⟩
  rw [← hnn] at hS hn9 ⊢
  have HS := Lib.hid hS
  have HN := Lib.hid hnn
  have HD := Lib.hid hD
  have HR := Lib.hid (sum_room hD)
  clear hS hnn hD
  have cells : ∀ k, k < n → ∀ W, Below w.heap.size w W → ∃ sb so nm nt da dl dc oa ol oc, sa = some ⟨sb, so, none⟩ ∧ W.cell? ⟨sb, so + k * 4, none⟩ = some (.string nm) ∧ W.cell? ⟨sb, so + k * 4 + 1, none⟩ = some (.string nt) ∧ W.cell? ⟨sb, so + k * 4 + 2, none⟩ = some (.slice da dl dc) ∧ W.cell? ⟨sb, so + k * 4 + 3, none⟩ = some (.slice oa ol oc) ∧ dl ≤ 140737488355328 ∧ ((S.take (k + 1)).map fun p => p.2.length).sum = ((S.take k).map fun p => p.2.length).sum + dl := fun k hk W hW => by
    obtain ⟨p, hp⟩ : ∃ p, S[k]? = some p := ⟨S[k]'(by rw [← HN.out]; exact hk), by simp⟩
    obtain ⟨sb, so, rfl, hsl, hat⟩ := HS.out.at hp
    obtain ⟨nt, dv, oa, ol, oc, c0, c1, c2, c3, hdr⟩ := hat.below hW hsl
    obtain ⟨da, dc, hdv, _⟩ := hdr.form
    subst hdv
    exact ⟨sb, so, p.1, nt, da, _, dc, oa, ol, oc, rfl, c0, c1, c2, c3, HD.out p (List.mem_of_getElem? hp), sum_snoc hp⟩
  have HC := Lib.hid cells
  clear cells
  by_cases hn : n ≤ 60
  · go_enter Tryz.func20, Tryz.ntmps20
    go_wp2_with fail
    go_loopw [3, 8] (fun tv jv wr => ∃ k t : Nat, jv = .int .i64 (k : Nat) ∧ k ≤ n ∧ tv = .int .i64 (t : Nat) ∧ t ≤ k * 140737488355328 ∧ Hid (t = ((S.take k).map fun p => p.2.length).sum) ∧ Hid (Below w.heap.size w wr)) (fun _ jv _ => n - (intOf jv).toNat)
    case atStart => exact ⟨0, 0, rfl, Nat.zero_le _, rfl, Nat.zero_le _, Lib.hid (by simp), Lib.hid (Below.refl _ _)⟩
    case round =>
      obtain ⟨k, t, rfl, hk, rfl, ht, HT, HB⟩ := hrel
      by_cases hlt : k < n
      · obtain ⟨sb, so, nm, nt, da, dl, dc, oa, ol, oc, rfl, c0, c1, c2, c3, hdl, hsum⟩ := HC.out k hlt wr HB.out
        have HSM := Lib.hid hsum
        have HB2 := Lib.hid (HB.out.alloc HB.out.size (.cells #[.string nm, .string nt, .slice da dl dc, .slice oa ol oc] 49))
        clear hsum
        go_wp2_with fail
        exact ⟨⟨k + 1, t + dl, by go_num, by omega, by go_num, by omega, Lib.hid (by rw [HSM.out, HT.out]), HB2⟩, by simp [intOf]; omega⟩
      · have hke : n = k := by omega
        subst hke
        have hall : S.take n = S := List.take_of_length_le (by rw [← HN.out]; exact Nat.le_refl _)
        have hts : t = (S.map fun p => p.2.length).sum := by rw [HT.out, hall]
        have HTS := Lib.hid hts
        have HN2 : Hid (SmallS S ↔ t ≤ 400) := Lib.hid (by unfold SmallS; rw [← HN.out, ← hts]; exact ⟨fun h => h.2, fun h => ⟨hn, h⟩⟩)
        clear hts hall
        go_wp2_with fail
        go_ret
        exact ⟨_, rfl, by rw [HN2.out, decide_eq_true_iff]; omega, HB.out⟩
  · have HNS : Hid (¬ SmallS S) := Lib.hid (fun h => hn (by rw [HN.out]; exact h.1))
    go_enter Tryz.func20, Tryz.ntmps20
    go_wp2_with fail
    go_loopw [3, 8] (fun tv jv wr => ∃ (k : Nat) (t : Int), jv = .int .i64 (k : Nat) ∧ k ≤ n ∧ tv = .int .i64 t ∧ Hid (Below w.heap.size w wr)) (fun _ jv _ => n - (intOf jv).toNat)
    case atStart => exact ⟨0, 0, rfl, Nat.zero_le _, rfl, Lib.hid (Below.refl _ _)⟩
    case round =>
      obtain ⟨k, t, rfl, hk, rfl, HB⟩ := hrel
      by_cases hlt : k < n
      · obtain ⟨sb, so, nm, nt, da, dl, dc, oa, ol, oc, rfl, c0, c1, c2, c3, hdl, hsum⟩ := HC.out k hlt wr HB.out
        have HB2 := Lib.hid (HB.out.alloc HB.out.size (.cells #[.string nm, .string nt, .slice da dl dc, .slice oa ol oc] 49))
        clear hsum
        go_wp2_with fail
        exact ⟨⟨k + 1, _, by go_num, by omega, rfl, HB2⟩, by simp [intOf]; omega⟩
      · go_wp2_with fail
        go_ret
        exact ⟨false, rfl, ⟨(fun h => by cases h), (fun h => absurd h HNS.out)⟩, HB.out⟩
end Go.Proofs.YtojnagonhihknaaGreatDoor
