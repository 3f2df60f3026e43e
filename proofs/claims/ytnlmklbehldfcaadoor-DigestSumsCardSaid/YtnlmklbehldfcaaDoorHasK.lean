/- What the row's list gives: the program's variable holds the 64 numbers. -/
import Derived.Test.YtnlmklbehldfcaaDoorMix
import Derived.Lib.LaidTab
import Derived.Carry
import Derived.LaidHandle
set_option linter.unusedVariables false
namespace Go.Proofs.YtnlmklbehldfcaaDoor
open Go.ChangeShapes Go.WideShapes Go.ChangeAt Go.RowKit

theorem Tryd.kg : Tryd.prog.globalNamed "tambour/digest.cubes" = some 1 := by kernel_rfl
theorem Tryd.kty : (Tryd.prog.globals[1]?).map (·.type) = some 50 := by kernel_rfl
theorem hasK_of {W : World} (h : laidMet Tryd.prog [("tambour/digest.cubes", Rows.laid_tambour_digest_cubes)] W) : HasK W := by
  have e : (Rows.laid_tambour_digest_cubes : DataW Unit) = Lib.tabData .u32 (KK.map nv) := rfl
  rw [e] at h
  have hT := Lib.tabIs_of_head Tryd.kg Tryd.kty Tryd.underlying50 Tryd.underlying34 (by kernel_rfl) (by kernel_rfl) h
  have hc : ∀ t, t < 64 → W.cell? ⟨1, t, none⟩ = some (u (KK.getD t 0)) := by
    intro t ht
    rw [hT.cell Tryd.kg t (by rw [List.length_map, KK_len]; exact ht)]
    rw [List.getD_eq_getElem?_getD, List.getElem?_map, getD_some (0 : Wd) (by rw [KK_len]; exact ht)]
    rfl
  exact ⟨cell_lt (hc 0 (by omega)), hc⟩
end Go.Proofs.YtnlmklbehldfcaaDoor
