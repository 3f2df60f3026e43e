/- The document's Linear and Missing. -/
import Derived.Deep.RegionLaw
import Derived.Test.YteaencgbgfnokaaDoorM40
import Derived.Test.YteaencgbgfnokaaDoorM43
set_option linter.unusedVariables false
set_option linter.unusedSimpArgs false
namespace Go.Proofs.YteaencgbgfnokaaDoor
open Go.ChangeShapes Go.WideShapes Go.ChangeAt Go.RowKit

set_option maxHeartbeats 2000000 in
set_option maxRecDepth 100000 in
theorem rlinear_any (S : SetB) (v : Value) (w : World) (hS : SReads w v S) (hn9 : S.length ≤ 1000000) (hD : ∀ p ∈ S, p.2.length ≤ 1000000) :
    Calls Tryd.prog 7 #[v] w fun e w' => ∃ ov out k, e = .returned (.tuple #[ov, .int .i64 k]) ∧ LinR S out k ∧ Row 1 w.heap.size w' ov out.length (out.map .string) ∧ Below w.heap.size w w' := by
  have HNM := Lib.hid (rnames_any S v w hS hn9)
  obtain ⟨sa, sc, rfl, _⟩ := hS.form
  obtain ⟨n, hn⟩ : ∃ n, n = S.length := ⟨_, rfl⟩
  rw [← hn] at hn9 HNM ⊢
  have HLE := Lib.hid (fun (told : Lb) (tv : Value) (W : World) (h : Below w.heap.size w W) (ht : Reads W tv told) => rleast_any S told (.slice sa S.length sc) tv W (hS.below h) ht (by omega) hD)
  rw [← hn] at HLE
  have HN := Lib.hid hn
  clear hn hS hD
  go_enter Tryd.func7, Tryd.ntmps7
  go_wp2_with fail
  refine HNM.out.mono ?_
  rintro e w2 ⟨lv, rfl, hl, hb2⟩
  obtain ⟨la, lc, rfl⟩ := hl.form
  have HB2 := Lib.hid hb2
  have HLV := Lib.hid hl
  clear hl hb2 HNM
  go_wp2_with fail
  go_loopw [5] (fun jv wr => ∃ j : Nat, jv = .int .i64 (j : Nat) ∧ j ≤ n ∧ Hid (((nmL S).take j).Nodup) ∧ Hid (Below w2.heap.size w2 wr)) (fun jv _ => n - (intOf jv).toNat)
  case atStart => exact ⟨0, rfl, Nat.zero_le _, Lib.hid (by simp), Lib.hid (Below.refl _ _)⟩
  case round =>
    obtain ⟨j, rfl, hj, HD, HB⟩ := hrel
    by_cases hlt : j < n
    · obtain ⟨x, hx⟩ : ∃ x, (nmL S)[j]? = some x := ⟨(nmL S)[j]'(by rw [List.length_map, ← HN.out]; exact hlt), List.getElem?_eq_getElem _⟩
      have hrow := HLV.out.below HB.out
      obtain ⟨lb, cap, hlv, _, _, hc1, hc2, _, hcx⟩ := hrow.pos (by omega)
      injection hlv with h1 _ h3
      subst h1; subst h3
      have cx := hcx j (.string x) (by rw [List.getElem?_map, hx]; rfl)
      have hfr := hrow.front (m := j) (by omega)
      rw [← List.map_take] at hfr
      have HF := Lib.hid (row_reads hfr)
      have HIN := Lib.hid (fun W (hb : Below wr.heap.size wr W) => rin_any ((nmL S).take j) (.slice (some ⟨lb, 0, none⟩) j lc) x W (HF.out.below hb))
      have HXX := Lib.hid hx
      unfold maxLen at hc2
      have hjc : j ≤ lc := by omega
      clear hrow hcx hfr hx
      by_cases hin : x ∈ (nmL S).take j
      · have HLR : Hid (LinR S [] 12) := Lib.hid (twice_lin (nodup_not HXX.out hin))
        have hin2 : inB ((nmL S).take j) x = true := inB_true hin
        rw [hin2] at HIN
        clear hin hin2
        go_wp2_with fail
        go_region_law (go_simp; with_reducible refine (HIN.out _ (by first | exact Below.refl _ _ | exact (Below.refl _ _).drew)).mono ?_; rintro e w3 ⟨rfl, hb3⟩; have HB3 := Lib.hid hb3; clear hb3)
        all_goals
          go_wp2_with fail
          go_ret2
          exact ⟨_, [], 12, rfl, HLR.out, Row.nil _ _ _, HB2.out.trans ((HB.out.drew.trans (HB3.out.mono HB.out.drew.size)).mono HB2.out.size)⟩
      · have HD9 := Lib.hid (nodup_take HD.out HXX.out hin)
        have hin2 : inB ((nmL S).take j) x = false := inB_false hin
        rw [hin2] at HIN
        clear hin hin2
        go_wp2_with fail
        go_region_law (go_simp; with_reducible refine (HIN.out _ (by first | exact Below.refl _ _ | exact (Below.refl _ _).drew)).mono ?_; rintro e w3 ⟨rfl, hb3⟩; have HB3 := Lib.hid hb3; clear hb3)
        all_goals
          go_wp2_with fail
          exact ⟨⟨j + 1, by go_num, by omega, HD9, Lib.hid (HB.out.drew.trans (HB3.out.mono HB.out.drew.size))⟩, by simp [intOf]; omega⟩
    · have hnj : n = j := by omega
      have HTQ : Hid (ToldQ S []) := Lib.hid (toldq_begin (by
        have h := HD.out
        rw [List.take_of_length_le (by rw [List.length_map, ← HN.out]; omega)] at h
        exact h))
      have HB5 := Lib.hid (HB2.out.trans (HB.out.mono HB2.out.size))
      obtain ⟨w5, hw5⟩ : ∃ w5, w5 = wr := ⟨_, rfl⟩
      rw [← hw5] at HB5 ⊢
      subst hnj
      clear hw5 HD HB
      go_wp2_with fail
      go_loopw [6] (fun tv wr => ∃ told : Lb, told.length ≤ n ∧ Hid (Row 1 w.heap.size wr tv told.length (told.map .string)) ∧ Hid (ToldQ S told) ∧ Hid (Below w.heap.size w wr)) (fun tv _ => n - (match tv with | .slice _ k _ => k | _ => 0))
      case atStart => exact ⟨[], Nat.zero_le _, Lib.hid (Row.nil _ _ _), HTQ, HB5⟩
      case round =>
        clear HTQ HB5
        obtain ⟨told, htn, HO, HT, HB⟩ := hrel
        obtain ⟨oa, oc, rfl⟩ := HO.out.form
        have HLL := Lib.hid (HLE.out told (.slice oa told.length oc) wr HB.out (row_reads HO.out))
        obtain ⟨L, hL⟩ : ∃ L, L = told.length := ⟨_, rfl⟩
        rw [← hL] at HO htn HLL ⊢
        have HL := Lib.hid hL
        clear hL
        by_cases hlt : L < n
        · go_wp2_with fail
          refine HLL.out.mono ?_
          rintro e w6 ⟨s, ok, rfl, hq, hb6⟩
          have HB6 := Lib.hid (HB.out.trans (hb6.mono HB.out.size))
          have HO6 := Lib.hid (HO.out.below hb6)
          have HQ := Lib.hid hq
          clear hq hb6 HLL HO
          cases ok
          · have HLR : Hid (LinR S [] 11) := Lib.hid (toldq_none HT.out HQ.out (by rw [← HL.out, ← HN.out]; exact hlt))
            go_wp2_with fail
            go_ret2
            exact ⟨_, [], 11, rfl, HLR.out, Row.nil _ _ _, HB6.out⟩
          · have HT9 := Lib.hid (toldq_step HT.out HQ.out)
            have hsrc : Src Tryd.prog 1 23 (.slice (some ⟨w6.heap.size, 0, none⟩) 1 1) 1 [.string s] (w6.alloc (.cells #[.string s] 9)) := src_new Tryd.underlying23 [.string s] 1 9 1 rfl oneStr
            have HSRC := Lib.hid hsrc
            have HRA := Lib.hid (HO6.out.alloc (.cells #[.string s] 9))
            have hszw : w.heap.size ≤ (w6.alloc (.cells #[.string s] 9)).heap.size := by have := HB6.out.size; simp; omega
            have HBA := Lib.hid (HB6.out.alloc HB6.out.size (.cells #[.string s] 9))
            have HOWN := Lib.hid (fun b hb => (HO6.out.lt b hb).1)
            clear hsrc HO6
            go_wp2_with (at_builtin; refine wpList_append_row rfl (.tmp 38) (.tmp 40) 23 23 rfl 1 9 (.string ByteArray.empty) 16 Tryd.underlying23 infoSo rfl w.heap.size (.slice oa L oc) L (told.map .string) (by simp [Act.eval]) HRA.out (.slice (some ⟨w6.heap.size, 0, none⟩) 1 1) (by simp [Act.eval]) 1 [.string s] HSRC.out hszw (by omega) (by decide) ?_; intro v7 w7 hr7 ho7 hw7; obtain ⟨a7, c7, hv7⟩ := hr7.form; subst hv7; have HR7 := Lib.hid hr7; have HO7 := Lib.hid ho7; clear hr7 ho7 hw7)
            have hl9 : (told ++ [s]).length = L + 1 := by rw [List.length_append, ← HL.out]; rfl
            refine ⟨⟨told ++ [s], by omega, ?_, HT9, Lib.hid (HBA.out.trans (HO7.out.below (B := w.heap.size) HOWN.out hszw))⟩, by simp; omega⟩
            rw [hl9]
            exact Lib.hid (by rw [List.map_append]; exact HR7.out)
        · have hln : n = L := by omega
          have HLR : Hid (LinR S told 0) := Lib.hid (toldq_full HT.out (by rw [← HL.out, ← HN.out]; exact hln.symm))
          have HO9 : Hid (Row 1 w.heap.size wr (.slice oa L oc) told.length (told.map .string)) := Lib.hid (by rw [← HL.out]; exact HO.out)
          clear HO
          go_wp2_with fail
          go_ret2
          exact ⟨_, told, 0, rfl, HLR.out, HO9.out, HB.out⟩

theorem filter_take {out : Lb} {P : ByteArray → Bool} {j : Nat} {x : ByteArray} (h : out[j]? = some x) : (out.take (j + 1)).filter P = (out.take j).filter P ++ if P x then [x] else [] := by
  rw [List.take_add_one, h, List.filter_append]
  cases hp : P x <;> simp [hp]
set_option maxHeartbeats 2000000 in
set_option maxRecDepth 100000 in
theorem rmissing_any (S : SetB) (v hv : Value) (hs : Lb) (w : World) (hS : SReads w v S) (hn9 : S.length ≤ 1000000) (hD : ∀ p ∈ S, p.2.length ≤ 1000000) (hH : Reads w hv hs) :
    Calls Tryd.prog 9 #[v, hv] w fun e w' => ∃ ov out k, e = .returned (.tuple #[ov, .int .i64 k]) ∧ LinR S out k ∧ Row 1 w.heap.size w' ov (out.filter fun x => !inB hs x).length ((out.filter fun x => !inB hs x).map .string) ∧ Below w.heap.size w w' := by
  have HLI := Lib.hid (rlinear_any S v w hS hn9 hD)
  have HIN := Lib.hid (fun (x : ByteArray) (W : World) (h : Below w.heap.size w W) => rin_any hs hv x W (hH.below h))
  have HLL := Lib.hid (fun (out : Lb) (k : Int) (h : LinR S out k) => Nat.le_trans (linr_len h) hn9)
  clear hS hn9 hD hH
  go_enter Tryd.func9, Tryd.ntmps9
  go_wp2_with fail
  refine HLI.out.mono ?_
  rintro e w2 ⟨lv, out, k, rfl, hl, hr, hb2⟩
  have hln := HLL.out out k hl
  obtain ⟨la, lc, rfl⟩ := hr.form
  obtain ⟨n, hn⟩ : ∃ n, n = out.length := ⟨_, rfl⟩
  rw [← hn] at hln hr ⊢
  have HN := Lib.hid hn
  have HL := Lib.hid hl
  have HR := Lib.hid hr
  have HB2 := Lib.hid hb2
  clear hn hl hr hb2 HLI HLL
  go_wp2_with fail
  go_loopw [8, 9] (fun ov jv wr => ∃ j m : Nat, jv = .int .i64 (j : Nat) ∧ j ≤ n ∧ Hid (m = ((out.take j).filter fun x => !inB hs x).length) ∧ m ≤ j ∧ Hid (Row 1 w2.heap.size wr ov m (((out.take j).filter fun x => !inB hs x).map .string)) ∧ Hid (Below w2.heap.size w2 wr)) (fun _ jv _ => n - (intOf jv).toNat)
  case atStart => exact ⟨0, 0, rfl, Nat.zero_le _, Lib.hid (by simp), Nat.le_refl _, Lib.hid (Row.nil _ _ _), Lib.hid (Below.refl _ _)⟩
  case round =>
    obtain ⟨j, m, rfl, hj, HM, hmj, HO, HB⟩ := hrel
    obtain ⟨oa, oc, rfl⟩ := HO.out.form
    have HBW := Lib.hid (HB2.out.trans (HB.out.mono HB2.out.size))
    by_cases hlt : j < n
    · obtain ⟨x, hx⟩ : ∃ x, out[j]? = some x := ⟨out[j]'(by rw [← HN.out]; exact hlt), by simp⟩
      have HF := Lib.hid (filter_take (P := fun x => !inB hs x) hx)
      obtain ⟨lb, cap, hlv, _, _, hc1, hc2, _, hcx⟩ := (HR.out.below HB.out).pos (by omega)
      injection hlv with h1 _ h3
      subst h1; subst h3
      have cx := hcx j (.string x) (by rw [List.getElem?_map, hx]; rfl)
      have HX : Hid (∀ W, Below wr.heap.size wr W → W.cell? ⟨lb, j, none⟩ = some (.string x)) := Lib.hid (fun W hb => by
        obtain ⟨lb', cap', hlv', _, _, _, _, _, hcx'⟩ := ((HR.out.below HB.out).below hb).pos (by omega)
        injection hlv' with h1 _ h3
        injection h1 with h1
        injection h1 with h1
        subst h1
        exact hcx' j (.string x) (by rw [List.getElem?_map, hx]; rfl))
      have HI1 := Lib.hid (HIN.out x wr HBW.out)
      unfold maxLen at hc2
      clear hcx hx
      go_wp2_with fail
      refine HI1.out.mono ?_
      rintro e w3 ⟨rfl, hb3⟩
      have HB3 := Lib.hid (HB.out.trans (hb3.mono HB.out.size))
      have HO3 := Lib.hid (HO.out.below hb3)
      have c3 := HX.out w3 hb3
      obtain ⟨b, hb⟩ : ∃ b, b = inB hs x := ⟨_, rfl⟩
      have HF2 := HF.out
      rw [← hb] at HF2 ⊢
      clear hb hb3 HI1 cx HO HF
      cases b
      · have HF3 := Lib.hid (show ((out.take (j + 1)).filter fun x => !inB hs x) = ((out.take j).filter fun x => !inB hs x) ++ [x] from HF2)
        have hsrc : Src Tryd.prog 1 23 (.slice (some ⟨w3.heap.size, 0, none⟩) 1 1) 1 [.string x] (w3.alloc (.cells #[.string x] 9)) := src_new Tryd.underlying23 [.string x] 1 9 1 rfl oneStr
        have HSRC := Lib.hid hsrc
        have HRA := Lib.hid (HO3.out.alloc (.cells #[.string x] 9))
        have hszw : w2.heap.size ≤ (w3.alloc (.cells #[.string x] 9)).heap.size := by have := HB3.out.size; simp; omega
        have HBA := Lib.hid (HB3.out.alloc HB3.out.size (.cells #[.string x] 9))
        have HOWN := Lib.hid (fun b hb => (HO3.out.lt b hb).1)
        clear hsrc HO3 HF2
        go_wp2_with (at_builtin; refine wpList_append_row rfl (.tmp 28) (.tmp 33) 23 23 rfl 1 9 (.string ByteArray.empty) 16 Tryd.underlying23 infoSo rfl w2.heap.size (.slice oa m oc) m (((out.take j).filter fun x => !inB hs x).map .string) (by simp [Act.eval]) HRA.out (.slice (some ⟨w3.heap.size, 0, none⟩) 1 1) (by simp [Act.eval]) 1 [.string x] HSRC.out hszw (by omega) (by decide) ?_; intro v7 w7 hr7 ho7 hw7; obtain ⟨a7, c7, hv7⟩ := hr7.form; subst hv7; have HR7 := Lib.hid hr7; have HO7 := Lib.hid ho7; clear hr7 ho7 hw7)
        exact ⟨⟨j + 1, m + 1, by go_num, by omega, Lib.hid (by rw [HF3.out, List.length_append, ← HM.out]; rfl), by omega, Lib.hid (by rw [HF3.out, List.map_append]; exact HR7.out), Lib.hid (HBA.out.trans (HO7.out.below (B := w2.heap.size) HOWN.out hszw))⟩, by simp [intOf]; omega⟩
      · have HF3 := Lib.hid (show ((out.take (j + 1)).filter fun x => !inB hs x) = ((out.take j).filter fun x => !inB hs x) from by simpa using HF2)
        clear HF2
        go_wp2_with fail
        exact ⟨⟨j + 1, m, by go_num, by omega, Lib.hid (by rw [HF3.out]; exact HM.out), by omega, Lib.hid (by rw [HF3.out]; exact HO3.out), HB3⟩, by simp [intOf]; omega⟩
    · have hnj : n = j := by omega
      have HO9 : Hid (Row 1 w.heap.size wr (.slice oa m oc) (out.filter fun x => !inB hs x).length ((out.filter fun x => !inB hs x).map .string)) := Lib.hid (by
        have h := HO.out
        have h2 := HM.out
        rw [List.take_of_length_le (by rw [← HN.out]; omega)] at h h2
        rw [← h2]
        exact h.mono HB2.out.size)
      subst hnj
      clear HO
      go_wp2_with fail
      go_ret2
      exact ⟨_, out, k, rfl, HL.out, HO9.out, HBW.out⟩
end Go.Proofs.YteaencgbgfnokaaDoor
