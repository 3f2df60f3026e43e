/- The library's contracts that are used, at this program's numbers. slices.Collect and slices.Sorted upon slices.Values over texts. -/
import Derived.Shelf.Small.Bits
import Derived.Shelf.Strconv.Itoa0
import Derived.Shelf.Sort.Plain
import Derived.Shelf.Slices.CompactS
import Derived.Shelf.Slices.Cells
import Derived.Shelf.Slices.In.SortNone
import Derived.Test.YteaencgbgfnokaaDoorProg
import Derived.Test.YteaencgbgfnokaaDoorM23
import Derived.Test.YteaencgbgfnokaaDoorM6
namespace Go.Proofs
open Go.Shelf
def Tryd.lays190_ren : Go.Shelf.Ren := ⟨fun | 190 => 35 | 125 => 54 | 258 => 53 | 128 => 69 | 129 => 70 | 302 => 61 | 303 => 62 | 304 => 63 | 305 => 64 | 306 => 65 | 307 => 66 | 308 => 45 | 309 => 67 | 310 => 68 | 333 => 71 | 329 => 72 | 330 => 73 | 334 => 74 | 335 => 75 | 336 => 58 | 344 => 76 | n => n, fun | 31 => 23 | 9 => 9 | 3 => 3 | 46 => 82 | 0 => 0 | 51 => 133 | 53 => 135 | 4 => 4 | 183 => 127 | 182 => 126 | 131 => 59 | 5 => 5 | 218 => 137 | 222 => 141 | 228 => 143 | 229 => 144 | n => n, fun | n => n⟩
theorem Tryd.lays190 : Go.Proofs.Lays.n190 Tryd.prog Tryd.lays190_ren := {
  mixed := by kernel_rfl
  f125 := Tryd.func54.trans (congrArg some (by kernel_rfl))
  f128 := Tryd.func69.trans (congrArg some (by kernel_rfl))
  f129 := Tryd.func70.trans (congrArg some (by kernel_rfl))
  f190 := Tryd.func35.trans (congrArg some (by kernel_rfl))
  f258 := Tryd.func53.trans (congrArg some (by kernel_rfl))
  f302 := Tryd.func61.trans (congrArg some (by kernel_rfl))
  f303 := Tryd.func62.trans (congrArg some (by kernel_rfl))
  f304 := Tryd.func63.trans (congrArg some (by kernel_rfl))
  f305 := Tryd.func64.trans (congrArg some (by kernel_rfl))
  f306 := Tryd.func65.trans (congrArg some (by kernel_rfl))
  f307 := Tryd.func66.trans (congrArg some (by kernel_rfl))
  f308 := Tryd.func45.trans (congrArg some (by kernel_rfl))
  f309 := Tryd.func67.trans (congrArg some (by kernel_rfl))
  f310 := Tryd.func68.trans (congrArg some (by kernel_rfl))
  f329 := Tryd.func72.trans (congrArg some (by kernel_rfl))
  f330 := Tryd.func73.trans (congrArg some (by kernel_rfl))
  f333 := Tryd.func71.trans (congrArg some (by kernel_rfl))
  f334 := Tryd.func74.trans (congrArg some (by kernel_rfl))
  f335 := Tryd.func75.trans (congrArg some (by kernel_rfl))
  f336 := Tryd.func58.trans (congrArg some (by kernel_rfl))
  f344 := Tryd.func76.trans (congrArg some (by kernel_rfl))
  t0 := Tryd.underlying0
  a0 := Tryd.isAgg0
  z0 := Tryd.sizeOf0
  v0 := Tryd.zeroValue0
  t3 := Tryd.underlying3
  a3 := Tryd.isAgg3
  z3 := Tryd.sizeOf3
  v3 := Tryd.zeroValue3
  t4 := Tryd.underlying4
  a4 := Tryd.isAgg4
  z4 := Tryd.sizeOf4
  v4 := Tryd.zeroValue4
  t5 := Tryd.underlying5
  a5 := Tryd.isAgg5
  z5 := Tryd.sizeOf5
  v5 := Tryd.zeroValue5
  t9 := Tryd.underlying9
  a9 := Tryd.isAgg9
  z9 := Tryd.sizeOf9
  v9 := Tryd.zeroValue9
  t31 := Tryd.underlying23
  a31 := Tryd.isAgg23
  z31 := Tryd.sizeOf23
  v31 := Tryd.zeroValue23
  t46 := Tryd.underlying82
  a46 := Tryd.isAgg82
  z46 := Tryd.sizeOf82
  v46 := Tryd.zeroValue82
  t51 := Tryd.underlying133
  a51 := Tryd.isAgg133
  z51 := Tryd.sizeOf133
  v51 := Tryd.zeroValue133
  t53 := Tryd.underlying135
  a53 := Tryd.isAgg135
  z53 := Tryd.sizeOf135
  v53 := Tryd.zeroValue135
  t131 := Tryd.underlying59
  a131 := Tryd.isAgg59
  z131 := Tryd.sizeOf59
  v131 := Tryd.zeroValue59
  t182 := Tryd.underlying126
  a182 := Tryd.isAgg126
  z182 := Tryd.sizeOf126
  v182 := Tryd.zeroValue126
  t183 := Tryd.underlying127
  a183 := Tryd.isAgg127
  z183 := Tryd.sizeOf127
  v183 := Tryd.zeroValue127
  t218 := Tryd.underlying137
  a218 := Tryd.isAgg137
  z218 := Tryd.sizeOf137
  v218 := Tryd.zeroValue137
  t222 := Tryd.underlying141
  a222 := Tryd.isAgg141
  z222 := Tryd.sizeOf141
  v222 := Tryd.zeroValue141
  t228 := Tryd.underlying143
  a228 := Tryd.isAgg143
  z228 := Tryd.sizeOf143
  v228 := Tryd.zeroValue143
  t229 := Tryd.underlying144
  a229 := Tryd.isAgg144
  z229 := Tryd.sizeOf144
  v229 := Tryd.zeroValue144 }
open Go.Sort Go.RowKit in
theorem Tryd.slices_Sort_string (blk off cap : Nat) (ss : List (List UInt8)) (w : World) (hH : Holds encStr w blk off ss.toArray) (hblk : blk < w.heap.size) (hsz : ss.length < 4611686018427387904) :
    Calls Tryd.prog 35 #[.slice (some ⟨blk, off, none⟩) ss.length cap] w fun e w' =>
      e = .returned (.tuple #[]) ∧ ∃ n os, w' = grow (putRow encStr (Sort.ahead w n) blk off (ss.mergeSort fun x y => decide (x ≤ y)).toArray) os := Any.slices_Sort_string Tryd.lays190 blk off cap ss w hH hblk hsz
def Tryd.lays194_ren : Go.Shelf.Ren := ⟨fun | 194 => 36 | n => n, fun | 31 => 23 | 9 => 9 | 3 => 3 | 4 => 4 | 0 => 0 | n => n, fun | n => n⟩
theorem Tryd.lays194 : Go.Proofs.Lays.n194 Tryd.prog Tryd.lays194_ren := {
  mixed := by kernel_rfl
  f194 := Tryd.func36.trans (congrArg some (by kernel_rfl))
  t0 := Tryd.underlying0
  a0 := Tryd.isAgg0
  z0 := Tryd.sizeOf0
  v0 := Tryd.zeroValue0
  t3 := Tryd.underlying3
  a3 := Tryd.isAgg3
  z3 := Tryd.sizeOf3
  v3 := Tryd.zeroValue3
  t4 := Tryd.underlying4
  a4 := Tryd.isAgg4
  z4 := Tryd.sizeOf4
  v4 := Tryd.zeroValue4
  t9 := Tryd.underlying9
  a9 := Tryd.isAgg9
  z9 := Tryd.sizeOf9
  v9 := Tryd.zeroValue9
  t31 := Tryd.underlying23
  a31 := Tryd.isAgg23
  z31 := Tryd.sizeOf23
  v31 := Tryd.zeroValue23 }
open Go.RowKit Go.Lib Go.Sort in
theorem Tryd.slices_Compact_string (blk off cap : Nat) (zs : List (List UInt8)) (w : World) (hH : Holds encStr w blk off zs.toArray) (hsz : zs.length ≤ 9223372036854775807) (hcap : zs.length ≤ cap) :
    Calls Tryd.prog 36 #[.slice (some ⟨blk, off, none⟩) zs.length cap] w fun e w' => e = .returned (.slice (some ⟨blk, off, none⟩) (Lib.compact zs).length cap) ∧ ∃ q, w' = putRow encStr (Sort.ahead w q) blk off (Lib.compact zs ++ List.replicate (zs.length - (Lib.compact zs).length) []).toArray := Any.slices_Compact_string Tryd.lays194 blk off cap zs w hH hsz hcap
end Go.Proofs
set_option linter.unusedVariables false
namespace Go.Proofs.YteaencgbgfnokaaDoor
open Go.ChangeShapes Go.WideShapes Go.ChangeAt Go.RowKit Go.Shelf

set_option maxHeartbeats 1000000 in
set_option maxRecDepth 100000 in
theorem collect_any (zs : Lb) (Bs : Nat) (a : Option Addr) (n c : Nat) (w : World) (hn : n = zs.length) (hnn : n ≤ 1000000) (hc : w.cell? ⟨Bs, 0, none⟩ = some (.slice a n c))
    (hI : ∀ j x, zs[j]? = some x → ∃ b o, a = some ⟨b, o, none⟩ ∧ b < w.heap.size ∧ w.cell? ⟨b, o + j, none⟩ = some (.string x)) :
    Calls Tryd.prog 42 #[.func (.func 43) #[] #[.pointer (some ⟨Bs, 0, none⟩)]] w fun e w' => ∃ ov, e = .returned ov ∧ OutS (w.heap.size + 1) w' ov zs ∧ Below w.heap.size w w' := by
  have AP := appendSeq_any zs Bs a n c w hn hnn hc hI
  have HAP := Lib.hid AP
  clear AP hc hI hn
  go_enter Tryd.func42, Tryd.ntmps42
  go_wp2_with fail
  refine HAP.out.mono ?_
  rintro e w1 ⟨ov, rfl, ho, hb⟩
  have HO := Lib.hid ho
  clear ho
  go_wp2_with fail
  go_ret
  exact ⟨_, rfl, HO.out, hb⟩

noncomputable def sortedB (zs : Lb) : Lb := ((zs.map fun s => s.data.toList).mergeSort fun x y => decide (x ≤ y)).map tx
theorem sortedB_len (zs : Lb) : (sortedB zs).length = zs.length := by simp [sortedB]
theorem sortedB_bs (zs : Lb) : (sortedB zs).map bsOf = (zs.map fun s => s.data.toList).mergeSort fun x y => decide (x ≤ y) := by
  unfold sortedB
  rw [List.map_map]
  conv => rhs; rw [← List.map_id ((zs.map fun s => s.data.toList).mergeSort fun x y => decide (x ≤ y))]
  exact List.map_congr_left fun x _ => tx_list x
theorem sortedB_pw (zs : Lb) : ((sortedB zs).map bsOf).Pairwise (· ≤ ·) := by rw [sortedB_bs]; exact sort_pairwise _
set_option maxHeartbeats 1000000 in
set_option maxRecDepth 100000 in
theorem sorted_any (zs : Lb) (Bs : Nat) (a : Option Addr) (n c : Nat) (w : World) (hn : n = zs.length) (hnn : n ≤ 1000000) (hc : w.cell? ⟨Bs, 0, none⟩ = some (.slice a n c))
    (hI : ∀ j x, zs[j]? = some x → ∃ b o, a = some ⟨b, o, none⟩ ∧ b < w.heap.size ∧ w.cell? ⟨b, o + j, none⟩ = some (.string x)) :
    Calls Tryd.prog 22 #[.func (.func 43) #[] #[.pointer (some ⟨Bs, 0, none⟩)]] w fun e w' => ∃ ov, e = .returned ov ∧ Reads w' ov (sortedB zs) ∧ (∀ g, ov.ownBlock = some g → w.heap.size ≤ g) ∧ Below w.heap.size w w' := by
  have CO := collect_any zs Bs a n c w hn hnn hc hI
  have HCO := Lib.hid CO
  have HN := Lib.hid hn
  clear CO hc hI hn
  go_enter Tryd.func22, Tryd.ntmps22
  go_wp2_with fail
  refine HCO.out.mono ?_
  rintro e w1 ⟨ov, rfl, ho, hb⟩
  have hrow := ho.row
  rw [← HN.out] at hrow
  by_cases h0 : n = 0
  · subst h0
    obtain ⟨oa, oc, rfl⟩ := hrow.form
    have hs : sortedB zs = [] := List.length_eq_zero_iff.1 (by rw [sortedB_len]; exact HN.out.symm)
    have hz : zs = [] := List.length_eq_zero_iff.1 HN.out.symm
    have HSN := Lib.hid (Any.slices_Sort_string_none Tryd.lays190 oa oc w1)
    have HROW := Lib.hid (show Reads w1 (.slice oa 0 oc) (sortedB zs) by rw [hs]; rw [hz] at hrow; exact row_reads hrow)
    have HOWN := Lib.hid (show ∀ g, (Value.slice oa 0 oc).ownBlock = some g → w.heap.size ≤ g from fun g hg => by have := (hrow.lt g hg).1; omega)
    clear hrow ho hs hz
    go_wp2_with fail
    refine HSN.out.mono ?_
    rintro e w3 ⟨rfl, rfl⟩
    go_wp2_with fail
    go_ret
    exact ⟨_, rfl, HROW.out, HOWN.out, hb⟩
  · obtain ⟨b, cap, rfl, hb1, hb2, hcap, hmx, hfz, hcx⟩ := hrow.pos (by omega)
    have hHo := Holds_of_row (B := 0) hfz (by rw [← HN.out]; exact hcap) hcx
    obtain ⟨ss, hss⟩ : ∃ ss, ss = zs.map fun s => s.data.toList := ⟨_, rfl⟩
    have hsl : ss.length = n := by rw [hss, List.length_map, HN.out]
    obtain ⟨ts, hts⟩ : ∃ ts, ts = ss.mergeSort fun x y => decide (x ≤ y) := ⟨_, rfl⟩
    have htl : ts.length = n := by rw [hts, List.length_mergeSort, hsl]
    have hso : sortedB zs = ts.map tx := by rw [hts, hss]; rfl
    rw [← hss] at hHo
    have hsort := Tryd.slices_Sort_string b 0 cap ss w1 hHo hb2 (by omega)
    rw [hsl, ← hts] at hsort
    have hend : ∀ nn os, Reads (Go.Sort.grow (Go.Sort.putRow encStr (Go.Sort.ahead w1 nn) b 0 ts.toArray) os) (.slice (some ⟨b, 0, none⟩) n cap) (sortedB zs) ∧ Below w.heap.size w (Go.Sort.grow (Go.Sort.putRow encStr (Go.Sort.ahead w1 nn) b 0 ts.toArray) os) := fun nn os => by
      have hH2 := holds_sorted (n := nn) (os := os) hHo hb2 (by rw [htl, hsl])
      have hof := off_sorted (w := w1) (g := b) (n := nn) (os := os) ts.toArray
      have hsl2 : (sortedB zs).length = n := by rw [sortedB_len, ← HN.out]
      refine ⟨.inr ⟨fun h => by rw [h] at hsl2; exact h0 hsl2.symm, b, 0, cap, by rw [hsl2], by rw [hsl2]; exact hcap, (by unfold maxLen at hmx; omega), Nat.lt_of_lt_of_le hb2 hof.size, fun j x hx => ?_⟩, hb.trans (hof.below (fun i hi => by omega) hb.size)⟩
      have hjl : j < n := by have := (List.getElem?_eq_some_iff.1 hx).1; omega
      have h := (hH2 j (by simpa [htl] using hjl)).1
      rw [h]
      rw [hso, List.getElem?_map, List.getElem?_eq_getElem (by rw [htl]; exact hjl)] at hx
      rw [getElem!_pos _ j (by simpa [htl] using hjl)]
      injection hx with hx
      rw [← hx]
      simp
    have HSO := Lib.hid hsort
    have HEND := Lib.hid hend
    clear hsort hend hHo hcx hfz hss hts htl hso hsl ho hrow
    go_wp2_with fail
    refine HSO.out.mono ?_
    rintro e w3 ⟨rfl, nn, os, rfl⟩
    go_wp2_with fail
    go_ret
    exact ⟨_, rfl, (HEND.out nn os).1, fun g hg => by have hg : b = g := Option.some.inj hg; omega, (HEND.out nn os).2⟩
end Go.Proofs.YteaencgbgfnokaaDoor
