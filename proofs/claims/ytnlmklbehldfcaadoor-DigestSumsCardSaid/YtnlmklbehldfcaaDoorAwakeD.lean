/- The contract of Name, and of the law's own look at the empty text. -/
import Derived.Test.YtnlmklbehldfcaaDoorEmpty
set_option linter.unusedVariables false
namespace Go.Proofs.YtnlmklbehldfcaaDoor
open Go.ChangeShapes Go.WideShapes Go.ChangeAt Go.RowKit

theorem sumL_len (s : List UInt8) : (sumL s).length = 32 := by rw [sumL, sha_same, shaR_len]

theorem name_any (s : ByteArray) (w : World) (hk : HasK w) (hs : s.size ≤ 100000) :
    Calls Tryd.prog 8 #[.string s] w fun e w' => e = .returned (.string ⟨(hexL (sumL s.data.toList)).toArray⟩) ∧ Below w.heap.size w w' := by
  have hc := sum_any s w hk hs
  have HC := Lib.hid hc
  have hl := sumL_len s.data.toList
  obtain ⟨X, hX⟩ : ∃ X, X = sumL s.data.toList := ⟨_, rfl⟩
  have HX := Lib.hid hX
  have hXl : X.length = 32 := by rw [hX]; exact hl
  clear hc hl hX
  go_enter Tryd.func8, Tryd.ntmps8
  go_wp2_with fail
  refine HC.out.mono ?_
  rintro e w1 ⟨rfl, hb1⟩
  rw [← HX.out]
  have HB1 := Lib.hid hb1
  clear hb1
  go_wp2_with fail
  refine (hex_any ⟨X.toArray⟩ w1 (by show X.toArray.size ≤ _; rw [List.size_toArray, hXl]; omega)).mono ?_
  rintro e w2 ⟨rfl, hb2⟩
  go_wp2
  go_ret
  refine ⟨?_, HB1.out.trans (hb2.mono HB1.out.size)⟩
  rw [← HX.out]; rfl

theorem awake_any (w : World) (hk : HasK w) : Calls Tryd.prog 6 #[] w fun e w' => e = .returned (.bool true) ∧ Below w.heap.size w w' := by
  have hc := name_any ⟨#[]⟩ w hk (by decide)
  rw [show (⟨#[]⟩ : ByteArray).data.toList = [] from rfl, empty_sum] at hc
  have HC := Lib.hid hc
  clear hc
  go_enter Tryd.func6, Tryd.ntmps6
  go_wp2_with fail
  refine HC.out.mono ?_
  rintro e w1 ⟨rfl, hb1⟩
  go_wp2
  go_ret
  exact ⟨rfl, hb1⟩
end Go.Proofs.YtnlmklbehldfcaaDoor
