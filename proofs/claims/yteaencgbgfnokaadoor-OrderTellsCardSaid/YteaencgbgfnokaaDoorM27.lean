/- The contract of Heads. -/
import Derived.Test.YteaencgbgfnokaaDoorM26
set_option linter.unusedVariables false
namespace Go.Proofs.YteaencgbgfnokaaDoor
open Go.ChangeShapes Go.WideShapes Go.ChangeAt Go.RowKit

def HeadR (S : SetB) (out : Lb) : Prop :=
  ∃ pred : Nat → Bool, (∀ u : Nat, u < (nsB S).length → (pred u = true ↔ ∀ v : Nat, v < (nsB S).length → (u : Int) ∉ needS S (v : Int))) ∧ out = onlyL (nsOf S) pred (nsB S).length
theorem getD_set_true {l : List Bool} {d u : Nat} (hd : d < l.length) : (l.set d true).getD u false = true ↔ l.getD u false = true ∨ u = d := by
  rw [List.getD_eq_getElem?_getD, List.getD_eq_getElem?_getD]
  by_cases e : d = u
  · subst e; rw [List.getElem?_set_self hd]; simp
  · rw [List.getElem?_set_ne e]
    exact ⟨.inl, fun h => h.resolve_right (fun k => e k.symm)⟩
set_option maxHeartbeats 600000 in
set_option maxRecDepth 100000 in
theorem headsS_any (S : SetB) (v : Value) (w : World) (hS : SReads w v S) (hsm : SmallS S) :
    Calls Tryd.prog 15 #[v] w fun e w' => ∃ ov out, e = .returned ov ∧ HeadR S out ∧ Reads w' ov out ∧ Below w.heap.size w w' := by
  have WV := weave_any S v w hS hsm.1 hsm.2
  obtain ⟨sa, sc, rfl, _⟩ := hS.form
  obtain ⟨n, hnn⟩ : ∃ n, n = S.length := ⟨_, rfl⟩
  have hn60 : n ≤ 60 := by rw [hnn]; exact hsm.1
  rw [← hnn] at WV ⊢
  have HWV := Lib.hid WV
  have HN := Lib.hid hnn
  have HSM := Lib.hid hsm
  clear WV hS hnn hsm
  go_enter Tryd.func15, Tryd.ntmps15
  go_wp2_with fail
  refine HWV.out.mono ?_
  rintro e w1 ⟨nv, gv, rfl, hweb, hb1⟩
  obtain ⟨m, hm⟩ : ∃ m, m = (nsB S).length := ⟨_, rfl⟩
  have hnl : (nsOf S).length = m := by rw [nsOf_len, hm]
  obtain ⟨na, nc, hnv, _⟩ := hweb.names.form
  obtain ⟨gb, gs, gc, hgv, hgc, hgm, hgr⟩ := hweb.rows
  rw [hnl] at hnv hgv hgc
  subst hnv; subst hgv
  have hmn : m ≤ n := by rw [hm, HN.out]; exact nsB_len S
  have mk1 := run_make_row' (P := Tryd.prog) 66 4 (.bool false) 1 Tryd.underlying66 infoB6 rfl .i64 .i64 m (by omega) (by omega)
  obtain ⟨w2, hw2⟩ : ∃ w2, w2 = w1.alloc (.cells #[.slice na m nc, .slice (some ⟨gb, 0, none⟩) m gc] 47) := ⟨_, rfl⟩
  have s2 : w2.heap.size = w1.heap.size + 1 := by rw [hw2]; simp
  obtain ⟨w3, hw3⟩ : ∃ w3, w3 = w2.alloc (.cells (madeCells #[.bool false] m) 4) := ⟨_, rfl⟩
  have s3 : w3.heap.size = w1.heap.size + 2 := by rw [hw3]; simp [s2]
  obtain ⟨w4, hw4⟩ : ∃ w4, w4 = w3.alloc (.cells #[.slice (some ⟨w1.heap.size + 1, 0, none⟩) m m] 66) := ⟨_, rfl⟩
  have s4 : w4.heap.size = w1.heap.size + 3 := by rw [hw4]; simp [s3]
  have hb12 : Below w1.heap.size w1 w2 := by rw [hw2]; exact (Below.refl _ _).alloc (Nat.le_refl _) _
  have hb23 : Below w2.heap.size w2 w3 := by rw [hw3]; exact (Below.refl _ _).alloc (Nat.le_refl _) _
  have hb34 : Below w3.heap.size w3 w4 := by rw [hw4]; exact (Below.refl _ _).alloc (Nat.le_refl _) _
  have hb24 : Below w2.heap.size w2 w4 := hb23.trans (hb34.mono (by omega))
  have hb14 : Below w1.heap.size w1 w4 := hb12.trans (hb24.mono (by omega))
  have d0 : w4.cell? ⟨w1.heap.size, 0, none⟩ = some (.slice na m nc) := (hb24.cell (p := ⟨w1.heap.size, 0, none⟩) (by rw [s2]; exact Nat.lt_succ_self _)).trans (by rw [hw2, World.cell?_alloc_at _ _ _ _ rfl]; rfl)
  have d1 : w4.cell? ⟨w1.heap.size, 1, none⟩ = some (.slice (some ⟨gb, 0, none⟩) m gc) := (hb24.cell (p := ⟨w1.heap.size, 1, none⟩) (by rw [s2]; exact Nat.lt_succ_self _)).trans (by rw [hw2, World.cell?_alloc_at _ _ _ _ rfl]; rfl)
  have d2 : w4.cell? ⟨w1.heap.size + 1 + 1, 0, none⟩ = some (.slice (some ⟨w1.heap.size + 1, 0, none⟩) m m) := by rw [hw4, World.cell?_alloc_at _ _ _ _ s3.symm]; rfl
  have hse : Row 1 w1.heap.size w4 (.slice (some ⟨w1.heap.size + 1, 0, none⟩) m m) m (bvs (List.replicate m false)) := by
    have := made_bool (w := w2) (n := m) (by omega) (B := w1.heap.size) (by omega)
    rw [← hw3, s2] at this
    exact this.below hb34
  have LC : ∀ W, Off (fun k => k = w1.heap.size + 1) w4 W → W.cell? ⟨w1.heap.size, 0, none⟩ = some (.slice na m nc) ∧ W.cell? ⟨w1.heap.size, 1, none⟩ = some (.slice (some ⟨gb, 0, none⟩) m gc) ∧ W.cell? ⟨w1.heap.size + 1 + 1, 0, none⟩ = some (.slice (some ⟨w1.heap.size + 1, 0, none⟩) m m) ∧ Below w1.heap.size w1 W := fun W ho =>
    ⟨(ho.cell (p := ⟨w1.heap.size, 0, none⟩) (by rw [s4]; show w1.heap.size < _; omega) (by show ¬ w1.heap.size = _; omega)).trans d0, (ho.cell (p := ⟨w1.heap.size, 1, none⟩) (by rw [s4]; show w1.heap.size < _; omega) (by show ¬ w1.heap.size = _; omega)).trans d1, (ho.cell (p := ⟨w1.heap.size + 1 + 1, 0, none⟩) (by rw [s4]; show w1.heap.size + 1 + 1 < _; omega) (by show ¬ w1.heap.size + 1 + 1 = _; omega)).trans d2, hb14.trans (ho.below (B := w1.heap.size) (fun k hk => by omega) (by omega))⟩
  have HLC := Lib.hid LC
  have HSE := Lib.hid hse
  have HB1 := Lib.hid hb1
  have HM := Lib.hid hm
  have HNL := Lib.hid hnl
  have HG := Lib.hid hgr
  have hgl := hgr.lt
  have HNA := Lib.hid hweb.names
  have HW4 : Hid (w4 = ((w1.alloc (.cells #[.slice na m nc, .slice (some ⟨gb, 0, none⟩) m gc] 47)).alloc (.cells (madeCells #[.bool false] m) 4)).alloc (.cells #[.slice (some ⟨w1.heap.size + 1, 0, none⟩) m m] 66)) := Lib.hid (by rw [hw4, hw3, hw2])
  clear hweb hb1 hm hnl hgr hw2 hw3 hw4 hb12 hb23 hb34 hb24 hb14 d0 d1 d2 hse LC s2 s3 s4
  go_wp2_with fail
  rw [← HW4.out]
  go_loopw [18] (fun jv wr => ∃ (i : Nat) (seen : List Bool), jv = .int .i64 (i : Nat) ∧ i ≤ m ∧ Hid (seen.length = m ∧ ∀ u : Nat, u < m → (seen.getD u false = true ↔ ∃ v : Nat, v < i ∧ (u : Int) ∈ needS S (v : Int))) ∧ Hid (Row 1 w1.heap.size wr (.slice (some ⟨w1.heap.size + 1, 0, none⟩) m m) m (bvs seen)) ∧ Hid (Off (fun k => k = w1.heap.size + 1) w4 wr)) (fun jv _ => m - (intOf jv).toNat)
  case atStart => exact ⟨0, _, rfl, Nat.zero_le _, Lib.hid ⟨by simp, fun u hu => by simp [List.getD_eq_getElem?_getD, hu]⟩, HSE, Lib.hid (Off.refl _ _)⟩
  case round =>
    obtain ⟨i, seen, rfl, him, HSN, HSR, HOF⟩ := hrel
    obtain ⟨k0, k1, k2, hbw⟩ := HLC.out wr HOF.out
    by_cases hlt : i < m
    · obtain ⟨vi, hvi, _, hvr⟩ := HG.out.each i (needS S (i : Int)) (gridB_at (by rw [← HM.out]; exact hlt))
      obtain ⟨L, hL⟩ : ∃ L, L = (needS S (i : Int)).length := ⟨_, rfl⟩
      rw [← hL] at hvr
      have hLM : L ≤ 400 := by rw [hL]; exact needS_len HSM.out _
      obtain ⟨va, vc, hve, hLc, hcm⟩ := hvr.form'
      subst hve
      have hci : wr.cell? ⟨gb, i, none⟩ = some (.slice va L vc) := (hbw.cell (p := ⟨gb, i, none⟩) hgl).trans hvi
      have HVR := Lib.hid hvr
      have HLL := Lib.hid hL
      clear hvi hvr hL
      go_wp2_with fail
      obtain ⟨w0, hw0⟩ : ∃ w0, w0 = wr := ⟨wr, rfl⟩
      clear hw0
      go_loopw [24] (fun jv wi => ∃ (j : Nat) (seen2 : List Bool), jv = .int .i64 (j : Nat) ∧ j ≤ L ∧ Hid (seen2.length = m ∧ ∀ u : Nat, u < m → (seen2.getD u false = true ↔ (∃ v : Nat, v < i ∧ (u : Int) ∈ needS S (v : Int)) ∨ (u : Int) ∈ (needS S (i : Int)).take j)) ∧ Hid (Row 1 w1.heap.size wi (.slice (some ⟨w1.heap.size + 1, 0, none⟩) m m) m (bvs seen2)) ∧ Hid (Off (fun k => k = w1.heap.size + 1) w4 wi)) (fun jv _ => L - (intOf jv).toNat)
      case atStart => exact ⟨0, seen, rfl, Nat.zero_le _, Lib.hid ⟨HSN.out.1, fun u hu => by rw [HSN.out.2 u hu, List.take_zero]; simp⟩, HSR, HOF⟩
      case round =>
        obtain ⟨j, seen2, rfl, hjL, HSN2, HSR2, HOF2⟩ := hrel
        obtain ⟨k0', k1', k2', hbw2⟩ := HLC.out wr HOF2.out
        by_cases hlt2 : j < L
        · obtain ⟨y, hy⟩ : ∃ y, (needS S (i : Int))[j]? = some y := ⟨_, List.getElem?_eq_getElem (by rw [← HLL.out]; exact hlt2)⟩
          obtain ⟨b0, c0', hve0, _, hb0l, _, _, _, hx7⟩ := HVR.out.pos (by omega)
          injection hve0 with hve1 _ hve2
          subst hve1; subst hve2
          have hcy : wr.cell? ⟨b0, j, none⟩ = some (.int .i64 y) := (hbw2.cell (p := ⟨b0, j, none⟩) hb0l).trans (hx7 j _ (by simp [iv, hy]))
          have hyr := needS_range i y (List.mem_of_getElem? hy)
          have htk : ∀ u : Int, u ∈ (needS S (i : Int)).take (j + 1) ↔ u ∈ (needS S (i : Int)).take j ∨ u = y := fun u => by
            rw [List.take_add_one, hy, List.mem_append]
            simp
          have HTK := Lib.hid htk
          clear hy hx7 htk
          by_cases hy1 : y = -1
          · subst hy1
            have HS3 : Hid (seen2.length = m ∧ ∀ u : Nat, u < m → (seen2.getD u false = true ↔ (∃ v : Nat, v < i ∧ (u : Int) ∈ needS S (v : Int)) ∨ (u : Int) ∈ (needS S (i : Int)).take (j + 1))) := Lib.hid ⟨HSN2.out.1, fun u hu => by
              rw [HSN2.out.2 u hu, HTK.out]
              have : ¬ (u : Int) = -1 := by omega
              simp [this]⟩
            clear hyr
            go_wp2_with fail
            exact ⟨⟨j + 1, seen2, by go_num, by omega, HS3, HSR2, HOF2⟩, by simp [intOf]; omega⟩
          · obtain ⟨d, hd, rfl⟩ := hyr.resolve_left hy1
            have hd' : d < m := by rw [HM.out]; exact hd
            have e1 : ((d : Int) == (-1 : Int)) = false := by rw [beq_eq_false_iff_ne]; omega
            have hsl : seen2.length = m := HSN2.out.1
            obtain ⟨hcs, hfs, _, _, _, _⟩ := HSR2.out.cellF (j := d) (bvs_at (by rw [hsl]; exact hd'))
            have HS3 : Hid ((seen2.set d true).length = m ∧ ∀ u : Nat, u < m → ((seen2.set d true).getD u false = true ↔ (∃ v : Nat, v < i ∧ (u : Int) ∈ needS S (v : Int)) ∨ (u : Int) ∈ (needS S (i : Int)).take (j + 1))) := Lib.hid ⟨by rw [List.length_set]; exact hsl, fun u hu => by
              rw [getD_set_true (by rw [hsl]; exact hd'), HSN2.out.2 u hu, HTK.out]
              have : (u : Int) = (d : Int) ↔ u = d := by omega
              rw [this, or_assoc]⟩
            have hput := HSR2.out.put (j := d) (by rw [bvs_len, hsl]; exact hd') (.bool true)
            rw [bvs_set] at hput
            have ho5 : Off (fun k => k = w1.heap.size + 1) wr (wr.setCell ⟨w1.heap.size + 1, d, none⟩ (.bool true)) := (Off.refl (fun k => k = w1.heap.size + 1) wr).setCell (p := ⟨w1.heap.size + 1, d, none⟩) (.inr rfl) _
            have HP5 := Lib.hid hput
            have HO5 := Lib.hid (HOF2.out.trans ho5)
            clear hput ho5 hyr hsl hd
            go_wp2_with fail
            exact ⟨⟨j + 1, _, by go_num, by omega, HS3, HP5, HO5⟩, by simp [intOf]; omega⟩
        · have hje : j = L := by omega
          have HS3 : Hid (seen2.length = m ∧ ∀ u : Nat, u < m → (seen2.getD u false = true ↔ ∃ v : Nat, v < i + 1 ∧ (u : Int) ∈ needS S (v : Int))) := Lib.hid ⟨HSN2.out.1, fun u hu => by
            rw [HSN2.out.2 u hu, hje, HLL.out, List.take_length]
            constructor
            · rintro (⟨v, hv, h⟩ | h)
              · exact ⟨v, by omega, h⟩
              · exact ⟨i, by omega, h⟩
            · rintro ⟨v, hv, h⟩
              by_cases e : v = i
              · subst e; exact .inr h
              · exact .inl ⟨v, by omega, h⟩⟩
          clear k0' k1' k2' hbw2
          go_wp2_with fail
          exact ⟨⟨i + 1, seen2, by go_num, by omega, HS3, HSR2, HOF2⟩, by simp [intOf]; omega⟩
    · have hie : m = i := by omega
      subst hie
      have hsn := HSN.out
      have hres : HeadR S (onlyL (nsOf S) (fun u => !seen.getD u false) (nsB S).length) := by
        refine ⟨fun u => !seen.getD u false, fun u hu => ?_, rfl⟩
        have h := hsn.2 u (by rw [HM.out]; exact hu)
        rw [Bool.not_eq_true', Bool.eq_false_iff, ne_eq, h, ← HM.out]
        constructor
        · intro k v hv hm
          exact k ⟨v, hv, hm⟩
        · rintro k ⟨v, hv, hm⟩
          exact k v hv hm
      have HRES := Lib.hid hres
      have HSL := Lib.hid hsn.1
      have ON := onlyHeads_any (nsOf S) m (w1.heap.size + 1 + 1) (fun u => !seen.getD u false) (.slice na m nc) (.slice (some ⟨gb, 0, none⟩) m gc) wr (HNA.out.below hbw) HNL.out (by omega) (fun u hu W hW => by
        have hr := HSR.out.below hW
        obtain ⟨hc, _, _, _, h1, h2⟩ := hr.cellF (j := u) (bvs_at (by rw [HSL.out]; exact hu))
        exact heads1_any m u (w1.heap.size + 1 + 1) (w1.heap.size + 1) m seen W hu HSL.out h1 h2 ((hW.cell (p := ⟨w1.heap.size + 1 + 1, 0, none⟩) (cell_lt k2)).trans k2) hc)
      have HON := Lib.hid ON
      have HBW := Lib.hid (HB1.out.trans (hbw.mono HB1.out.size))
      clear ON hres hsn hbw
      go_wp2_with fail
      refine HON.out.mono ?_
      rintro e w6 ⟨ov, rfl, hrow, hb6⟩
      have HRD := Lib.hid (row_reads hrow)
      have HB6 := Lib.hid (HBW.out.trans (hb6.mono HBW.out.size))
      clear hrow hb6
      go_wp2_with fail
      go_ret
      exact ⟨ov, _, rfl, by rw [← HM.out] at HRES; exact HRES.out, HRD.out, HB6.out⟩
end Go.Proofs.YteaencgbgfnokaaDoor
