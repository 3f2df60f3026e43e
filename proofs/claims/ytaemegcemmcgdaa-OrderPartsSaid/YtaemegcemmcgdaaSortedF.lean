/- slices.Collect and slices.Sorted upon slices.Values over texts. -/
import Derived.Test.YtaemegcemmcgdaaAppS
import Derived.Test.YtaemegcemmcgdaaBSearch
import Derived.Test.YtaemegcemmcgdaaShelf
set_option linter.unusedVariables false
namespace Go.Proofs.Ytaemegcemmcgdaa
open Go.ChangeShapes Go.WideShapes Go.ChangeAt Go.RowKit Go.Shelf

set_option maxHeartbeats 1000000 in
set_option maxRecDepth 100000 in
theorem collect_any (zs : Lb) (Bs : Nat) (a : Option Addr) (n c : Nat) (w : World) (hn : n = zs.length) (hnn : n ≤ 1000000) (hc : w.cell? ⟨Bs, 0, none⟩ = some (.slice a n c))
    (hI : ∀ j x, zs[j]? = some x → ∃ b o, a = some ⟨b, o, none⟩ ∧ b < w.heap.size ∧ w.cell? ⟨b, o + j, none⟩ = some (.string x)) :
    Calls Try.prog 56 #[.func (.func 57) #[] #[.pointer (some ⟨Bs, 0, none⟩)]] w fun e w' => ∃ ov, e = .returned ov ∧ OutS (w.heap.size + 1) w' ov zs ∧ Below w.heap.size w w' := by
  have AP := appendSeq_any zs Bs a n c w hn hnn hc hI
  have HAP := Lib.hid AP
  clear AP hc hI hn
  go_enter Try.func56, Try.ntmps56
  go_wp2_with fail
  refine HAP.out.mono ?_
  rintro e w1 ⟨ov, rfl, ho, hb⟩
  have HO := Lib.hid ho
  clear ho
  go_wp2_with fail
  go_ret
  exact ⟨_, rfl, HO.out, hb⟩

/-- The texts in order, doubles and all. -/
noncomputable def sortedB (zs : Lb) : Lb := ((zs.map fun s => s.data.toList).mergeSort fun x y => decide (x ≤ y)).map tx
theorem sortedB_len (zs : Lb) : (sortedB zs).length = zs.length := by simp [sortedB]
theorem sortedB_bs (zs : Lb) : (sortedB zs).map bsOf = (zs.map fun s => s.data.toList).mergeSort fun x y => decide (x ≤ y) := by
  unfold sortedB
  rw [List.map_map]
  conv => rhs; rw [← List.map_id ((zs.map fun s => s.data.toList).mergeSort fun x y => decide (x ≤ y))]
  exact List.map_congr_left fun x _ => tx_list x
theorem sortedB_pw (zs : Lb) : ((sortedB zs).map bsOf).Pairwise (· ≤ ·) := by rw [sortedB_bs]; exact sort_pairwise _
theorem sortedB_mem (zs : Lb) (x : ByteArray) : bsOf x ∈ (sortedB zs).map bsOf ↔ x ∈ zs := by
  rw [sortedB_bs, List.mem_mergeSort]
  constructor
  · intro h
    obtain ⟨y, hy, e⟩ := List.mem_map.1 h
    have : y = x := by
      have e' : y.data.toList = x.data.toList := e
      cases y with | mk yd => cases x with | mk xd =>
        simp only [ByteArray.mk.injEq]
        exact Array.toList_inj.1 e'
    rw [← this]; exact hy
  · intro h; exact List.mem_map.2 ⟨x, h, rfl⟩

set_option maxHeartbeats 1000000 in
set_option maxRecDepth 100000 in
theorem sorted_any (zs : Lb) (Bs : Nat) (a : Option Addr) (n c : Nat) (w : World) (hn : n = zs.length) (hnn : n ≤ 1000000) (hc : w.cell? ⟨Bs, 0, none⟩ = some (.slice a n c))
    (hI : ∀ j x, zs[j]? = some x → ∃ b o, a = some ⟨b, o, none⟩ ∧ b < w.heap.size ∧ w.cell? ⟨b, o + j, none⟩ = some (.string x)) :
    Calls Try.prog 33 #[.func (.func 57) #[] #[.pointer (some ⟨Bs, 0, none⟩)]] w fun e w' => ∃ ov, e = .returned ov ∧ Reads w' ov (sortedB zs) ∧ (∀ g, ov.ownBlock = some g → w.heap.size ≤ g) ∧ Below w.heap.size w w' := by
  have CO := collect_any zs Bs a n c w hn hnn hc hI
  have HCO := Lib.hid CO
  have HN := Lib.hid hn
  clear CO hc hI hn
  go_enter Try.func33, Try.ntmps33
  go_wp2_with fail
  refine HCO.out.mono ?_
  rintro e w1 ⟨ov, rfl, ho, hb⟩
  have hrow := ho.row
  rw [← HN.out] at hrow
  by_cases h0 : n = 0
  · subst h0
    obtain ⟨oa, oc, rfl⟩ := hrow.form
    have hs : sortedB zs = [] := List.length_eq_zero_iff.1 (by rw [sortedB_len]; exact HN.out.symm)
    have hz : zs = [] := List.length_eq_zero_iff.1 HN.out.symm
    have HSN := Lib.hid (Any.slices_Sort_string_none Try.lays190 oa oc w1)
    have HROW := Lib.hid (show Reads w1 (.slice oa 0 oc) (sortedB zs) by rw [hs]; rw [hz] at hrow; exact row_reads hrow)
    have HOWN := Lib.hid (show ∀ g, (Value.slice oa 0 oc).ownBlock = some g → w.heap.size ≤ g from fun g hg => by have := (hrow.lt g hg).1; omega)
    clear hrow ho hs hz
    go_wp2_with fail
    refine HSN.out.mono ?_
    rintro e w3 ⟨rfl, rfl⟩
    go_wp2_with fail
    go_ret
    exact ⟨_, rfl, HROW.out, HOWN.out, hb⟩
  · obtain ⟨b, cap, rfl, hb1, hb2, hcap, hmx, hfz, hcx⟩ := hrow.pos (by omega)
    have hHo := Holds_of_row (B := 0) hfz (by rw [← HN.out]; exact hcap) hcx
    obtain ⟨ss, hss⟩ : ∃ ss, ss = zs.map fun s => s.data.toList := ⟨_, rfl⟩
    have hsl : ss.length = n := by rw [hss, List.length_map, HN.out]
    obtain ⟨ts, hts⟩ : ∃ ts, ts = ss.mergeSort fun x y => decide (x ≤ y) := ⟨_, rfl⟩
    have htl : ts.length = n := by rw [hts, List.length_mergeSort, hsl]
    have hso : sortedB zs = ts.map tx := by rw [hts, hss]; rfl
    rw [← hss] at hHo
    have hsort := Try.slices_Sort_string b 0 cap ss w1 hHo hb2 (by omega)
    rw [hsl, ← hts] at hsort
    have hend : ∀ nn os, Reads (Go.Sort.grow (Go.Sort.putRow encStr (Go.Sort.ahead w1 nn) b 0 ts.toArray) os) (.slice (some ⟨b, 0, none⟩) n cap) (sortedB zs) ∧ Below w.heap.size w (Go.Sort.grow (Go.Sort.putRow encStr (Go.Sort.ahead w1 nn) b 0 ts.toArray) os) := fun nn os => by
      have hH2 := holds_sorted (n := nn) (os := os) hHo hb2 (by rw [htl, hsl])
      have hof := off_sorted (w := w1) (g := b) (n := nn) (os := os) ts.toArray
      have hsl2 : (sortedB zs).length = n := by rw [sortedB_len, ← HN.out]
      refine ⟨.inr ⟨fun h => by rw [h] at hsl2; exact h0 hsl2.symm, b, 0, cap, by rw [hsl2], by rw [hsl2]; exact hcap, (by unfold maxLen at hmx; omega), Nat.lt_of_lt_of_le hb2 hof.size, fun j x hx => ?_⟩, hb.trans (hof.below (fun i hi => by omega) hb.size)⟩
      have hjl : j < n := by have := (List.getElem?_eq_some_iff.1 hx).1; omega
      have h := (hH2 j (by simpa [htl] using hjl)).1
      rw [h]
      rw [hso, List.getElem?_map, List.getElem?_eq_getElem (by rw [htl]; exact hjl)] at hx
      rw [getElem!_pos _ j (by simpa [htl] using hjl)]
      injection hx with hx
      rw [← hx]
      simp
    have HSO := Lib.hid hsort
    have HEND := Lib.hid hend
    clear hsort hend hHo hcx hfz hss hts htl hso hsl ho hrow
    go_wp2_with fail
    refine HSO.out.mono ?_
    rintro e w3 ⟨rfl, nn, os, rfl⟩
    go_wp2_with fail
    go_ret
    exact ⟨_, rfl, (HEND.out nn os).1, fun g hg => by have hg : b = g := Option.some.inj hg; omega, (HEND.out nn os).2⟩
end Go.Proofs.Ytaemegcemmcgdaa
