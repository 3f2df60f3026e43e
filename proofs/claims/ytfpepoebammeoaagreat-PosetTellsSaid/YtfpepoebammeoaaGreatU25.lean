/- Of package slices, as9 package poset calls it: Clone of ints; Sort and Compact of ints one behind the other. Pairs sorted by the first, then by the second: cmp.Or, the closure of New, slices.SortFunc. -/
import Derived.Lib.SliceRun
import Derived.Deep.RegionLaw
import Derived.Test.YtfpepoebammeoaaGreatShelfB
import Derived.Test.YtfpepoebammeoaaGreatU17
import Derived.Test.YtfpepoebammeoaaGreatU21
set_option linter.unusedVariables false
set_option linter.unusedSimpArgs false
namespace Go.Proofs.YtfpepoebammeoaaGreat
open Go.ChangeShapes Go.WideShapes Go.ChangeAt Go.RowKit

theorem iv_one {l : List Int} : ∀ u ∈ iv l, u.oneCell' = true := by
  intro u hu
  obtain ⟨x, _, rfl⟩ := List.mem_map.1 hu
  rfl
set_option maxHeartbeats 400000 in
set_option maxRecDepth 10000 in
theorem clone_any (l : List Int) (v : Value) (w : World) (hr : RI w v l) (hl : l.length ≤ 1000000) :
    Calls Tryz.prog 40 #[v] w fun e w' => ∃ v', e = .returned v' ∧ Row 1 w.heap.size w' v' l.length (iv l) ∧ Below w.heap.size w w' := by
  have q22 : ∀ (w : World) (a : Option Addr) (n c n' c' : Nat), (binOp .eql 23 (.slice a n c) (.slice none n' c')).run Tryz.prog w = .ok (.bool a.isNone) w := fun w a n c n' c' => Lib.run_eql_slice_nil w _ _ a n c n' c' Tryz.underlying23
  obtain ⟨L, hL⟩ : ∃ L, L = l.length := ⟨_, rfl⟩
  have HB0 := Lib.hid ((Below.refl w.heap.size w).alloc (Nat.le_refl _) (.cells #[] 3))
  have hr0 : Row 1 w.heap.size (w.alloc (.cells #[] 3)) (.slice (some ⟨w.heap.size, 0, none⟩) 0 0) 0 [] := row_new (Nat.le_refl _) rfl (Nat.le_refl _) (by unfold maxLen; omega) (by simp) (.inl rfl) (fun j u hu => by simp at hu)
  have HR0 := Lib.hid hr0
  have key : ∀ (a : Addr) c, v = .slice (some a) L c → Src Tryz.prog 1 23 v L (iv l) (w.alloc (.cells #[] 3)) → Calls Tryz.prog 40 #[v] w fun e w' => ∃ v', e = .returned v' ∧ Row 1 w.heap.size w' v' L (iv l) ∧ Below w.heap.size w w' := by
    intro a c hv hs
    subst hv
    have HSRC := Lib.hid hs
    have hL9 : L ≤ 1000000 := by omega
    clear hs hr hr0 hL hl
    go_enter Tryz.func40, Tryz.ntmps40
    go_wp2_with (at_builtin; refine wpList_append_row rfl (.tmp 5) (.tmp 6) 23 23 rfl 1 3 (.int .i64 0) 8 Tryz.underlying23 infoIk rfl w.heap.size (.slice (some ⟨w.heap.size, 0, none⟩) 0 0) 0 [] (by simp [Act.eval]) HR0.out (.slice (some a) L c) (by simp [Act.eval]) L (iv l) HSRC.out HB0.out.size (by omega) (by decide) ?_; intro v6 w6 hr6 ho6 hw6; rw [Nat.zero_add, List.nil_append] at hr6; obtain ⟨a6, c6, hv6⟩ := hr6.form; subst hv6; have HR6 := Lib.hid hr6; have HO6 := Lib.hid ho6; clear hr6 ho6 hw6)

    go_ret
    have hz : ∀ b, (Value.slice (some ⟨w.heap.size, 0, none⟩) 0 0).ownBlock = some b → w.heap.size ≤ b := fun b hb => by
      have : w.heap.size = b := by simpa [Value.ownBlock] using hb
      omega
    exact ⟨_, rfl, HR6.out, HB0.out.trans (HO6.out.below (B := w.heap.size) hz HB0.out.size)⟩
  rw [← hL]
  rcases hr with ⟨rfl, a, c, rfl⟩ | ⟨hn, b, o, c, rfl, hc, hm, hb, hx⟩
  · have hL0 : L = 0 := hL
    clear hL
    subst hL0
    cases a with
    | none =>
      clear key HR0 HB0 hr0
      go_enter Tryz.func40, Tryz.ntmps40
      go_wp2_with fail
      go_ret
      exact ⟨_, rfl, Row.nil _ _ _, Below.refl _ _⟩
    | some a =>
      exact key a c rfl (Src.ofSlice _ Tryz.underlying23 a 0 c _ rfl (fun j u hu => by simp [iv] at hu) iv_one)
  · refine key ⟨b, o, none⟩ c (by rw [hL]) ?_
    rw [hL]
    exact Src.ofSlice _ Tryz.underlying23 ⟨b, o, none⟩ _ c _ (by simp) (fun j u hu => by
      rw [Addr.add_lit]
      rw [iv, List.getElem?_map] at hu
      obtain ⟨y, hy, rfl⟩ := Option.map_eq_some_iff.1 hu
      exact (HB0.out.cell (p := ⟨b, o + j, none⟩) hb).trans (hx j y hy)) iv_one

def SortedW (w : World) (v : Value) (w' : World) (Q : Ending → World → Prop) : Prop := Off (fun i => v.ownBlock = some i) w w' ∧ Calls Tryz.prog 41 #[v] w' Q
set_option maxHeartbeats 1000000 in
theorem sortC_any {S : Nat} (zs : List Int) (T : List Nat) (v : Value) (w : World) (h : Row 1 S w v zs.length (iv zs)) (hl : zs.length ≤ 1000000) (hT : ∀ ts : List Int, ts.Perm zs → ts.Pairwise (· ≤ ·) → Lib.compact ts = nl T) :
    Calls Tryz.prog 39 #[v] w fun e w' => e = .returned (.tuple #[]) ∧ SortedW w v w' fun e2 w2 => ∃ v2, e2 = .returned v2 ∧ RI w2 v2 (nl T) ∧ Off (fun i => v.ownBlock = some i) w' w2 := by
  rcases Nat.eq_zero_or_pos zs.length with h0 | hp
  · obtain ⟨a, c, rfl⟩ := h.form
    have hz : zs = [] := List.length_eq_zero_iff.1 h0
    have hTn := hT [] (by rw [hz]) .nil
    have hTn2 : nl T = [] := by rw [← hTn]; rfl
    rw [h0]
    refine (Tryz.slices_Sort_int_none a c w).mono ?_
    rintro e w' ⟨rfl, rfl⟩
    refine ⟨rfl, Off.refl _ _, ?_⟩
    refine (Tryz.slices_Compact_int_empty a c _).mono ?_
    rintro e w' ⟨rfl, rfl⟩
    exact ⟨_, rfl, .inl ⟨hTn2, a, c, rfl⟩, Off.refl _ _⟩
  · obtain ⟨b, cap, rfl, hBb, hbw, hkc, hcm, _, _⟩ := h.pos hp
    have hH := holdsI_of_row h
    obtain ⟨ts, hts⟩ : ∃ ts, ts = zs.mergeSort fun x y => decide (x ≤ y) := ⟨_, rfl⟩
    have htl : ts.length = zs.length := by rw [hts]; exact List.length_mergeSort _
    have heq := hT ts (by rw [hts]; exact List.mergeSort_perm _ _) (by rw [hts]; exact sortI_pairwise zs)
    have hsort := Tryz.slices_Sort_int b 0 cap zs w hH hbw (by omega)
    rw [← hts] at hsort
    refine hsort.mono ?_
    rintro e w' ⟨rfl, nn, os, rfl⟩
    have hH2 := holdsI_sorted (n := nn) (os := os) hH hbw htl
    have ho1 := offI_sorted (w := w) (g := b) (n := nn) (os := os) ts.toArray
    have hb3 := Nat.lt_of_lt_of_le hbw ho1.size
    have hown : ∀ i, i = b → (Value.slice (some ⟨b, 0, none⟩) zs.length cap).ownBlock = some i := fun i hi => by rw [hi]; rfl
    refine ⟨rfl, ho1.mono hown, ?_⟩
    have h := Tryz.slices_Compact_int b 0 cap ts _ hH2 (by omega) (by omega)
    rw [htl] at h
    refine h.mono ?_
    rintro e w2 ⟨rfl, q, rfl⟩
    refine ⟨_, rfl, ?_, ?_⟩
    · have := readsI_compact (q := q) hH2 hb3 (cap := cap) (by omega) hcm
      rw [htl, heq] at this
      rw [heq]
      exact this
    · have h2 := offI_sorted (w := Go.Sort.grow (Go.Sort.putRow (Value.int .i64) (Go.Sort.ahead w nn) b 0 ts.toArray) os) (g := b) (n := q) (os := #[]) (Lib.compact ts ++ List.replicate (zs.length - (Lib.compact ts).length) 0).toArray
      rw [Go.Sort.grow_empty] at h2
      exact h2.mono hown
end Go.Proofs.YtfpepoebammeoaaGreat
set_option linter.unusedVariables false
set_option linter.unusedSimpArgs false
namespace Go.Proofs.YtfpepoebammeoaaGreat
open Go.ChangeShapes Go.WideShapes Go.ChangeAt Go.RowKit

theorem or_any (x y : Int) (b : Nat) (w : World) (c0 : w.cell? ⟨b, 0, none⟩ = some (.int .i64 x)) (c1 : w.cell? ⟨b, 1, none⟩ = some (.int .i64 y)) :
    Calls Tryz.prog 26 #[.slice (some ⟨b, 0, none⟩) 2 2] w fun e w' => e = .returned (.int .i64 (if x = 0 then y else x)) ∧ w' = w := by
  obtain ⟨r, hr⟩ : ∃ r, r = if x = 0 then y else x := ⟨_, rfl⟩
  have HR1 : Hid (x = 0 → y = r) := Lib.hid (fun h => by rw [hr, if_pos h])
  have HR2 : Hid (¬ x = 0 → x = r) := Lib.hid (fun h => by rw [hr, if_neg h])
  rw [← hr]
  clear hr
  go_enter Tryz.func26, Tryz.ntmps26
  go_wp2_with fail
  go_loopw [8] (fun jv wr => ∃ j : Nat, jv = .int .i64 (j : Nat) ∧ j ≤ 2 ∧ Hid (1 ≤ j → x = 0) ∧ Hid (2 ≤ j → y = 0) ∧ Hid (wr = w)) (fun jv _ => 2 - (intOf jv).toNat)
  case atStart => exact ⟨0, rfl, by omega, Lib.hid (by omega), Lib.hid (by omega), Lib.hid rfl⟩
  case round =>
    obtain ⟨j, rfl, hj, h1, h2, hw⟩ := hrel
    have c0 := c0
    have c1 := c1
    rw [← hw.out] at c0 c1
    have hc : j = 0 ∨ j = 1 ∨ j = 2 := by omega
    rcases hc with rfl | rfl | rfl
    · by_cases hx : x = 0
      · have H : Hid (x = 0) := Lib.hid hx
        subst hx
        go_wp2_with fail
        exact ⟨⟨1, rfl, by omega, Lib.hid (by simp), Lib.hid (by omega), hw⟩, by simp [intOf]⟩
      · have hxb : (x == (0 : Int)) = false := by rw [beq_eq_false_iff_ne]; exact hx
        have H9 := Lib.hid (HR2.out hx)
        go_wp2_with fail
        go_ret
        exact ⟨by rw [← H9.out]; rfl, hw.out⟩
    · have hx := h1.out (by omega)
      have H9 := Lib.hid (HR1.out hx)
      subst hx
      by_cases hy : y = 0
      · subst hy
        go_wp2_with fail
        exact ⟨⟨2, rfl, by omega, Lib.hid (by simp), Lib.hid (by simp), hw⟩, by simp [intOf]⟩
      · have hyb : (y == (0 : Int)) = false := by rw [beq_eq_false_iff_ne]; exact hy
        go_wp2_with fail
        go_ret
        exact ⟨by rw [← H9.out]; rfl, hw.out⟩
    · have hx := h1.out (by omega)
      have hy := h2.out (by omega)
      have H9 := Lib.hid (HR1.out hx)
      subst hx
      subst hy
      go_wp2_with fail
      go_ret
      exact ⟨by rw [← H9.out]; rfl, hw.out⟩
def cmpP (x y : Int × Int) : Int := if cmpI x.1 y.1 = 0 then cmpI x.2 y.2 else cmpI x.1 y.1
abbrev encP (x : Int × Int) : List Value := [.int .i64 x.1, .int .i64 x.2]
end Go.Proofs.YtfpepoebammeoaaGreat
