/- The contracts of only, at the closures of Past and of Heads. -/
import Derived.Test.YteaencgbgfnokaaDoorM19
import Derived.Test.YteaencgbgfnokaaDoorM20
set_option linter.unusedVariables false
namespace Go.Proofs.YteaencgbgfnokaaDoor
open Go.ChangeShapes Go.WideShapes Go.ChangeAt Go.RowKit

def onlyL (ns : Lb) (pred : Nat → Bool) (i : Nat) : Lb := ((List.range i).filter pred).map fun u => ns.getD u ByteArray.empty
theorem onlyL_step (ns : Lb) (pred : Nat → Bool) (i : Nat) : onlyL ns pred (i + 1) = onlyL ns pred i ++ if pred i then [ns.getD i ByteArray.empty] else [] := by
  unfold onlyL
  rw [List.range_succ, List.filter_append, List.map_append]
  congr 1
  by_cases h : pred i = true
  · simp [h]
  · simp [h]
theorem onlyL_len (ns : Lb) (pred : Nat → Bool) (i : Nat) : (onlyL ns pred i).length ≤ i := by
  unfold onlyL
  rw [List.length_map]
  exact Nat.le_trans (List.length_filter_le _ _) (by simp)

theorem past1_any (n u q sb sc : Nat) (seen : List Bool) (W : World) (hu : u < n) (hl : seen.length = n) (hc : n ≤ sc) (hm : sc ≤ maxLen) (hq : W.cell? ⟨q, 0, none⟩ = some (.slice (some ⟨sb, 0, none⟩) n sc)) (hx : W.cell? ⟨sb, u, none⟩ = some (.bool (seen.getD u false))) :
    Calls Tryd.prog 32 #[.int .i64 (u : Nat), .pointer (some ⟨q, 0, none⟩)] W fun e w' => e = .returned (.bool (seen.getD u false)) ∧ Below W.heap.size W w' := by
  unfold maxLen at hm
  obtain ⟨x, ex⟩ : ∃ x, x = seen.getD u false := ⟨_, rfl⟩
  rw [← ex] at hx ⊢
  clear ex hl
  go_enter Tryd.func32, Tryd.ntmps32
  go_wp2
  go_ret
  exact ⟨rfl, Below.refl _ _⟩
theorem heads1_any (n u q sb sc : Nat) (seen : List Bool) (W : World) (hu : u < n) (hl : seen.length = n) (hc : n ≤ sc) (hm : sc ≤ maxLen) (hq : W.cell? ⟨q, 0, none⟩ = some (.slice (some ⟨sb, 0, none⟩) n sc)) (hx : W.cell? ⟨sb, u, none⟩ = some (.bool (seen.getD u false))) :
    Calls Tryd.prog 34 #[.int .i64 (u : Nat), .pointer (some ⟨q, 0, none⟩)] W fun e w' => e = .returned (.bool (!seen.getD u false)) ∧ Below W.heap.size W w' := by
  unfold maxLen at hm
  obtain ⟨x, ex⟩ : ∃ x, x = seen.getD u false := ⟨_, rfl⟩
  rw [← ex] at hx ⊢
  clear ex hl
  go_enter Tryd.func34, Tryd.ntmps34
  go_wp2
  go_ret
  exact ⟨rfl, Below.refl _ _⟩

set_option maxHeartbeats 2000000 in
set_option maxRecDepth 100000 in
theorem onlyPast_any (ns : Lb) (n q : Nat) (pred : Nat → Bool) (nv gv : Value) (w : World) (hr : Reads w nv ns) (hns : ns.length = n) (hn : n ≤ 60) (C : ∀ u, u < n → ∀ W, Below w.heap.size w W → Calls Tryd.prog 32 #[.int .i64 (u : Nat), .pointer (some ⟨q, 0, none⟩)] W fun e w' => e = .returned (.bool (pred u)) ∧ Below W.heap.size W w') :
    Calls Tryd.prog 31 #[.agg #[nv, gv], .func (.func 32) #[] #[.pointer (some ⟨q, 0, none⟩)]] w fun e w' => ∃ ov, e = .returned ov ∧ Row 1 w.heap.size w' ov (onlyL ns pred n).length ((onlyL ns pred n).map .string) ∧ Below w.heap.size w w' := by
  obtain ⟨na, nc, hnv, hnl⟩ := hr.form
  rw [hns] at hnv
  subst hnv
  have hb1 : Below w.heap.size w (w.alloc (.cells #[.slice na n nc, gv] 47)) := (Below.refl _ _).alloc (Nat.le_refl _) _
  have HB1 := Lib.hid hb1
  have HR := Lib.hid hr
  have HC := Lib.hid C
  have HNS := Lib.hid hns
  have hnn : (n : Int) ≤ 60 := by omega
  clear hb1 hr C hns hnl
  go_enter Tryd.func31, Tryd.ntmps31
  go_wp2_with fail
  go_loopw [5, 11] (fun ov jv wr => ∃ i m : Nat, jv = .int .i64 (i : Nat) ∧ i ≤ n ∧ Hid (m = (onlyL ns pred i).length) ∧ Hid (Row 1 w.heap.size wr ov m ((onlyL ns pred i).map .string)) ∧ Hid (Below w.heap.size w wr)) (fun _ jv _ => n - (intOf jv).toNat)
  case atStart => exact ⟨0, 0, rfl, Nat.zero_le _, Lib.hid rfl, Lib.hid (Row.nil _ _ _), HB1⟩
  case round =>
    obtain ⟨i, m, rfl, hin, HM, HW, HB⟩ := hrel
    obtain ⟨oa, oc, rfl⟩ := HW.out.form
    by_cases hlt : i < n
    · obtain ⟨x, hx⟩ : ∃ x, ns[i]? = some x := ⟨ns[i]'(by rw [HNS.out]; exact hlt), by simp⟩
      obtain ⟨b, o, rfl, hnl, hcl⟩ := (HR.out.below HB.out).at hx
      have hcx := hcl.2 i x hx
      have hm60 : m ≤ 60 := by have := onlyL_len ns pred i; rw [← HM.out] at this; omega
      have hst := onlyL_step ns pred i
      have hxg : ns.getD i ByteArray.empty = x := by rw [List.getD_eq_getElem?_getD, hx]; rfl
      rw [hxg] at hst
      have CI := HC.out i hlt wr HB.out
      obtain ⟨p, hp⟩ : ∃ p, p = pred i := ⟨_, rfl⟩
      rw [← hp] at hst CI
      have HST := Lib.hid hst
      have HCI := Lib.hid CI
      clear hnl hcl hx hst hxg CI hp
      cases p with
      | false =>
        have HST2 := Lib.hid (show onlyL ns pred (i + 1) = onlyL ns pred i by rw [HST.out]; simp)
        go_wp2_with fail
        refine HCI.out.mono ?_
        rintro e w5 ⟨rfl, hb5⟩
        have HW5 := Lib.hid (HW.out.below hb5)
        have HB5 := Lib.hid (HB.out.trans (hb5.mono HB.out.size))
        clear hb5
        go_wp2_with fail
        exact ⟨⟨i + 1, m, by go_num, by omega, by rw [HST2.out]; exact HM, by rw [HST2.out]; exact HW5, HB5⟩, by simp [intOf]; omega⟩
      | true =>
        have HST2 := Lib.hid (show onlyL ns pred (i + 1) = onlyL ns pred i ++ [x] by rw [HST.out]; simp)
        go_wp2_with fail
        refine HCI.out.mono ?_
        rintro e w5 ⟨rfl, hb5⟩
        have hw5 := HW.out.below hb5
        have HB5 := Lib.hid (HB.out.trans (hb5.mono HB.out.size))
        have HRA := Lib.hid (hw5.alloc (.cells #[.string x] 9))
        have hsrc : Src Tryd.prog 1 23 (.slice (some ⟨w5.heap.size, 0, none⟩) 1 1) 1 [.string x] (w5.alloc (.cells #[.string x] 9)) := src_new Tryd.underlying23 [.string x] 1 9 1 rfl oneS6
        have HSRC := Lib.hid hsrc
        have hszw : w.heap.size ≤ (w5.alloc (.cells #[.string x] 9)).heap.size := by have := HB5.out.size; simp; omega
        have HW5 := Lib.hid hw5
        clear hb5 hw5 hsrc
        go_wp2_with (at_builtin; refine wpList_append_row rfl (.tmp 19) (.tmp 21) 23 23 rfl 1 9 (.string ByteArray.empty) 16 Tryd.underlying23 infoS6 rfl w.heap.size (.slice oa m oc) m ((onlyL ns pred i).map .string) (by simp [Act.eval]) HRA.out (.slice (some ⟨w5.heap.size, 0, none⟩) 1 1) (by simp [Act.eval]) 1 [.string x] HSRC.out hszw (by omega) (by decide) ?_; intro v6 w6 hr6 ho6 hw6; obtain ⟨a6, c6, hv6⟩ := hr6.form; subst hv6; have HR6 := Lib.hid hr6; have HO6 := Lib.hid ho6; clear hr6 ho6 hw6)
        have hoa : Off (fun k => (Value.slice oa m oc).ownBlock = some k) w5 w6 := ((Off.refl _ w5).alloc _).trans HO6.out
        have hb6 := HB5.out.trans (hoa.below (B := w.heap.size) (fun k hk => (HW5.out.lt k hk).1) HB5.out.size)
        exact ⟨⟨i + 1, m + 1, by go_num, by omega, Lib.hid (by rw [HST2.out, List.length_append, List.length_singleton, HM.out]), Lib.hid (by rw [HST2.out, List.map_append]; exact HR6.out), Lib.hid hb6⟩, by simp [intOf]; omega⟩
    · have hie : n = i := by omega
      subst hie
      go_wp2_with fail
      go_ret
      exact ⟨_, rfl, by rw [← HM.out]; exact HW.out, HB.out⟩

set_option maxHeartbeats 2000000 in
set_option maxRecDepth 100000 in
theorem onlyHeads_any (ns : Lb) (n q : Nat) (pred : Nat → Bool) (nv gv : Value) (w : World) (hr : Reads w nv ns) (hns : ns.length = n) (hn : n ≤ 60) (C : ∀ u, u < n → ∀ W, Below w.heap.size w W → Calls Tryd.prog 34 #[.int .i64 (u : Nat), .pointer (some ⟨q, 0, none⟩)] W fun e w' => e = .returned (.bool (pred u)) ∧ Below W.heap.size W w') :
    Calls Tryd.prog 31 #[.agg #[nv, gv], .func (.func 34) #[] #[.pointer (some ⟨q, 0, none⟩)]] w fun e w' => ∃ ov, e = .returned ov ∧ Row 1 w.heap.size w' ov (onlyL ns pred n).length ((onlyL ns pred n).map .string) ∧ Below w.heap.size w w' := by
  obtain ⟨na, nc, hnv, hnl⟩ := hr.form
  rw [hns] at hnv
  subst hnv
  have hb1 : Below w.heap.size w (w.alloc (.cells #[.slice na n nc, gv] 47)) := (Below.refl _ _).alloc (Nat.le_refl _) _
  have HB1 := Lib.hid hb1
  have HR := Lib.hid hr
  have HC := Lib.hid C
  have HNS := Lib.hid hns
  have hnn : (n : Int) ≤ 60 := by omega
  clear hb1 hr C hns hnl
  go_enter Tryd.func31, Tryd.ntmps31
  go_wp2_with fail
  go_loopw [5, 11] (fun ov jv wr => ∃ i m : Nat, jv = .int .i64 (i : Nat) ∧ i ≤ n ∧ Hid (m = (onlyL ns pred i).length) ∧ Hid (Row 1 w.heap.size wr ov m ((onlyL ns pred i).map .string)) ∧ Hid (Below w.heap.size w wr)) (fun _ jv _ => n - (intOf jv).toNat)
  case atStart => exact ⟨0, 0, rfl, Nat.zero_le _, Lib.hid rfl, Lib.hid (Row.nil _ _ _), HB1⟩
  case round =>
    obtain ⟨i, m, rfl, hin, HM, HW, HB⟩ := hrel
    obtain ⟨oa, oc, rfl⟩ := HW.out.form
    by_cases hlt : i < n
    · obtain ⟨x, hx⟩ : ∃ x, ns[i]? = some x := ⟨ns[i]'(by rw [HNS.out]; exact hlt), by simp⟩
      obtain ⟨b, o, rfl, hnl, hcl⟩ := (HR.out.below HB.out).at hx
      have hcx := hcl.2 i x hx
      have hm60 : m ≤ 60 := by have := onlyL_len ns pred i; rw [← HM.out] at this; omega
      have hst := onlyL_step ns pred i
      have hxg : ns.getD i ByteArray.empty = x := by rw [List.getD_eq_getElem?_getD, hx]; rfl
      rw [hxg] at hst
      have CI := HC.out i hlt wr HB.out
      obtain ⟨p, hp⟩ : ∃ p, p = pred i := ⟨_, rfl⟩
      rw [← hp] at hst CI
      have HST := Lib.hid hst
      have HCI := Lib.hid CI
      clear hnl hcl hx hst hxg CI hp
      cases p with
      | false =>
        have HST2 := Lib.hid (show onlyL ns pred (i + 1) = onlyL ns pred i by rw [HST.out]; simp)
        go_wp2_with fail
        refine HCI.out.mono ?_
        rintro e w5 ⟨rfl, hb5⟩
        have HW5 := Lib.hid (HW.out.below hb5)
        have HB5 := Lib.hid (HB.out.trans (hb5.mono HB.out.size))
        clear hb5
        go_wp2_with fail
        exact ⟨⟨i + 1, m, by go_num, by omega, by rw [HST2.out]; exact HM, by rw [HST2.out]; exact HW5, HB5⟩, by simp [intOf]; omega⟩
      | true =>
        have HST2 := Lib.hid (show onlyL ns pred (i + 1) = onlyL ns pred i ++ [x] by rw [HST.out]; simp)
        go_wp2_with fail
        refine HCI.out.mono ?_
        rintro e w5 ⟨rfl, hb5⟩
        have hw5 := HW.out.below hb5
        have HB5 := Lib.hid (HB.out.trans (hb5.mono HB.out.size))
        have HRA := Lib.hid (hw5.alloc (.cells #[.string x] 9))
        have hsrc : Src Tryd.prog 1 23 (.slice (some ⟨w5.heap.size, 0, none⟩) 1 1) 1 [.string x] (w5.alloc (.cells #[.string x] 9)) := src_new Tryd.underlying23 [.string x] 1 9 1 rfl oneS6
        have HSRC := Lib.hid hsrc
        have hszw : w.heap.size ≤ (w5.alloc (.cells #[.string x] 9)).heap.size := by have := HB5.out.size; simp; omega
        have HW5 := Lib.hid hw5
        clear hb5 hw5 hsrc
        go_wp2_with (at_builtin; refine wpList_append_row rfl (.tmp 19) (.tmp 21) 23 23 rfl 1 9 (.string ByteArray.empty) 16 Tryd.underlying23 infoS6 rfl w.heap.size (.slice oa m oc) m ((onlyL ns pred i).map .string) (by simp [Act.eval]) HRA.out (.slice (some ⟨w5.heap.size, 0, none⟩) 1 1) (by simp [Act.eval]) 1 [.string x] HSRC.out hszw (by omega) (by decide) ?_; intro v6 w6 hr6 ho6 hw6; obtain ⟨a6, c6, hv6⟩ := hr6.form; subst hv6; have HR6 := Lib.hid hr6; have HO6 := Lib.hid ho6; clear hr6 ho6 hw6)
        have hoa : Off (fun k => (Value.slice oa m oc).ownBlock = some k) w5 w6 := ((Off.refl _ w5).alloc _).trans HO6.out
        have hb6 := HB5.out.trans (hoa.below (B := w.heap.size) (fun k hk => (HW5.out.lt k hk).1) HB5.out.size)
        exact ⟨⟨i + 1, m + 1, by go_num, by omega, Lib.hid (by rw [HST2.out, List.length_append, List.length_singleton, HM.out]), Lib.hid (by rw [HST2.out, List.map_append]; exact HR6.out), Lib.hid hb6⟩, by simp [intOf]; omega⟩
    · have hie : n = i := by omega
      subst hie
      go_wp2_with fail
      go_ret
      exact ⟨_, rfl, by rw [← HM.out]; exact HW.out, HB.out⟩
end Go.Proofs.YteaencgbgfnokaaDoor
