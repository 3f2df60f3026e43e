/- The contract of the document's Place. -/
import Derived.Lib.SlicesS
import Derived.Test.YteaencgbgfnokaaDoorM2
set_option linter.unusedVariables false
namespace Go.Proofs.YteaencgbgfnokaaDoor
open Go.ChangeShapes Go.WideShapes Go.ChangeAt Go.RowKit

theorem getD_of {ls : Lb} {k : Nat} {x : ByteArray} (h : ls[k]? = some x) : ls.getD k ByteArray.empty = x := by rw [List.getD_eq_getElem?_getD, h]; rfl
theorem idx_hit {ls : Lb} {k : Nat} {x : ByteArray} (h : ls[k]? = some x) (hn : ∀ j, j < k → ls[j]? ≠ some x) : Lib.idxOfS ls x = k := by
  have hk := (List.getElem?_eq_some_iff.1 h).1
  have := Lib.idxOfS_hit ls ls.length k x hk (Nat.le_refl _) (getD_of h) (fun j hj e => hn j hj (by
    have hj' : j < ls.length := by omega
    rw [List.getElem?_eq_getElem hj']
    rw [List.getD_eq_getElem?_getD, List.getElem?_eq_getElem hj'] at e
    exact congrArg some e))
  rwa [List.take_length] at this
theorem idx_miss {ls : Lb} {x : ByteArray} (hn : ∀ j, j < ls.length → ls[j]? ≠ some x) : Lib.idxOfS ls x = -1 := by
  have := Lib.idxOfS_miss ls ls.length x (fun j hj e => hn j hj (by
    rw [List.getElem?_eq_getElem hj]
    rw [List.getD_eq_getElem?_getD, List.getElem?_eq_getElem hj] at e
    exact congrArg some e))
  rwa [List.take_length] at this

set_option maxHeartbeats 2000000 in
set_option maxRecDepth 100000 in
theorem rplace_any (ls : Lb) (v : Value) (x : ByteArray) (w : World) (hr : Reads w v ls) :
    Calls Tryd.prog 40 #[v, .string x] w fun e w' => e = .returned (.int .i64 (Lib.idxOfS ls x)) ∧ Below w.heap.size w w' := by
  obtain ⟨a, c, rfl, hn⟩ := hr.form
  obtain ⟨n, hnn⟩ : ∃ n, n = ls.length := ⟨_, rfl⟩
  rw [← hnn] at hr hn ⊢
  have HN := Lib.hid hnn
  have HR := Lib.hid hr
  clear hnn hr
  go_enter Tryd.func40, Tryd.ntmps40
  go_wp2_with fail
  go_loopw [5] (fun i wr => ∃ k : Nat, k ≤ n ∧ i = .int .i64 (k : Nat) ∧ Hid (Below w.heap.size w wr) ∧ Hid (∀ j, j < k → ls[j]? ≠ some x)) (fun i _ => n - (intOf i).toNat)
  case atStart => exact ⟨0, Nat.zero_le _, rfl, Lib.hid (Below.refl _ _), Lib.hid fun j hj => absurd hj (Nat.not_lt_zero _)⟩
  case round =>
    obtain ⟨k, hk, rfl, HB, HA⟩ := hrel
    by_cases hlt : k < n
    · obtain ⟨y, hy⟩ : ∃ y, ls[k]? = some y := ⟨ls[k]'(by rw [← HN.out]; exact hlt), by simp⟩
      obtain ⟨b, o, rfl, hnl, hcl⟩ := HR.out.at hy
      clear hnl
      have hcell := (hcl.below HB.out).2 k y hy
      by_cases he : y = x
      · have HI := Lib.hid (idx_hit (x := x) (by rw [hy, he]) HA.out)
        subst he
        clear hy hcl
        go_wp2_with fail
        go_ret
        rw [HI.out]
        exact ⟨rfl, HB.out⟩
      · have HS : Hid (∀ j, j < k + 1 → ls[j]? ≠ some x) := Lib.hid (fun j hj => by
          by_cases e : j = k
          · subst e; rw [hy]; exact fun e => he (Option.some.inj e)
          · exact HA.out j (by omega))
        have e1 : (y.toList == x.toList) = false := by
          rw [beq_eq_false_iff_ne]
          intro e
          apply he
          rw [ByteArray.toList_eq, ByteArray.toList_eq] at e
          rw [← tx_data y, ← tx_data x, e]
        clear hy hcl he
        go_wp2_with fail
        exact ⟨⟨k + 1, by omega, by go_num, HB, HS⟩, by simp [intOf]; omega⟩
    · have HI := Lib.hid (idx_miss (ls := ls) (x := x) (fun j hj => HA.out j (by have := HN.out; omega)))
      go_wp2_with fail
      go_ret
      rw [HI.out]
      exact ⟨rfl, HB.out⟩
end Go.Proofs.YteaencgbgfnokaaDoor
