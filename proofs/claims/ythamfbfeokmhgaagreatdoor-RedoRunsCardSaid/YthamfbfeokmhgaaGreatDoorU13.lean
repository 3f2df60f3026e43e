/- What the row's list gives: the program's variable holds the 64 numbers. What the row's list gives: the library's table of powers of ten. What the rows of patches ask: the library's two errors, the table of cubes, and a world for the witness that has them. -/
import Derived.Lib.LaidTab
import Derived.Carry
import Derived.LaidHandle
import Derived.Stop.LaidErr
import Derived.ChangeSame
import Derived.Test.YthamfbfeokmhgaaGreatDoorU10
import Derived.Test.YthamfbfeokmhgaaGreatDoorU11
import Derived.Test.YthamfbfeokmhgaaGreatDoorU12
import Derived.Test.YthamfbfeokmhgaaGreatDoorU8
set_option linter.unusedVariables false
namespace Go.Proofs.YthamfbfeokmhgaaGreatDoor
open Go.ChangeShapes Go.WideShapes Go.ChangeAt Go.RowKit

theorem Tryz.kg : Tryz.prog.globalNamed "tambour/digest.cubes" = some 1 := by kernel_rfl
theorem Tryz.kty : (Tryz.prog.globals[1]?).map (·.type) = some 174 := by kernel_rfl
theorem hasK_of {W : World} {rest : List (String × DataW Unit)} (h : laidMet Tryz.prog (("tambour/digest.cubes", Rows.laid_tambour_digest_cubes) :: rest) W) : HasK W := by
  have e : (Rows.laid_tambour_digest_cubes : DataW Unit) = Lib.tabData .u32 (KK.map nv) := rfl
  rw [e] at h
  have hT := Lib.tabIs_of_head Tryz.kg Tryz.kty Tryz.underlying174 Tryz.underlying150 (by kernel_rfl) (by kernel_rfl) h
  have hc : ∀ t, t < 64 → W.cell? ⟨1, t, none⟩ = some (u (KK.getD t 0)) := by
    intro t ht
    rw [hT.cell Tryz.kg t (by rw [List.length_map, KK_len]; exact ht)]
    rw [List.getD_eq_getElem?_getD, List.getElem?_map, getD_some (0 : Wd) (by rw [KK_len]; exact ht)]
    rfl
  exact ⟨cell_lt (hc 0 (by omega)), hc⟩
end Go.Proofs.YthamfbfeokmhgaaGreatDoor
set_option linter.unusedVariables false
namespace Go.Proofs.YthamfbfeokmhgaaGreatDoor
open Go.ChangeShapes Go.WideShapes Go.ChangeAt Go.RowKit

theorem Tryz.pg : Tryz.prog.globalNamed "internal/strconv.uint64pow10" = some 7 := by kernel_rfl
theorem Tryz.pty : (Tryz.prog.globals[7]?).map (·.type) = some 207 := by kernel_rfl
theorem hasTab_of {W : World} {x y : String × DataW Unit} {rest : List (String × DataW Unit)} (h : laidMet Tryz.prog (x :: y :: ("internal/strconv.uint64pow10", Rows.laid_internal_strconv_uint64pow10) :: rest) W) : HasTab W := by
  have h2 := laidMet.tail (laidMet.tail h)
  have e : (Rows.laid_internal_strconv_uint64pow10 : DataW Unit) = Lib.tabData .u64 Lib.pow10Tab := rfl
  rw [e] at h2
  exact Lib.tabIs_of_head Tryz.pg Tryz.pty Tryz.underlying207 Tryz.underlying156 (by kernel_rfl) (by kernel_rfl) h2
end Go.Proofs.YthamfbfeokmhgaaGreatDoor
set_option linter.unusedVariables false
namespace Go.Proofs.YthamfbfeokmhgaaGreatDoor
open Go.ChangeShapes Go.WideShapes Go.ChangeAt Go.RowKit

theorem Tryz.synT : (Tryz.prog.globals[5]?).map (·.type) = some 27 := by kernel_rfl
theorem Tryz.ranT : (Tryz.prog.globals[6]?).map (·.type) = some 27 := by kernel_rfl
theorem Tryz.cellsErr : Tryz.prog.cellsOf 213 = 1 := by kernel_rfl
theorem Tryz.cellsStr : Tryz.prog.cellsOf 9 = 1 := by kernel_rfl
theorem Tryz.starE : "*" ++ "errors.errorString" = "*errors.errorString" := by decide
theorem Tryz.rowErr (u : TypeId) (h : Tryz.prog.typeName? 3 u = some "*errors.errorString") : u = 211 :=
  typeName_ptr_named (nm := "errors.errorString") (by rw [Tryz.starE]; kernel_rfl) (by kernel_rfl) (by decide) u (by rw [Tryz.starE]; exact h)

theorem hasSents_of {W : World} {x y z : String × DataW Unit} {t1 t2 : List UInt8} {rest : List (String × DataW Unit)}
    (h : laidMet Tryz.prog (x :: y :: z :: ("strconv.ErrRange", .iface "*errors.errorString" (.ptr (.agg [.lit (.string t1)]))) :: ("strconv.ErrSyntax", .iface "*errors.errorString" (.ptr (.agg [.lit (.string t2)]))) :: rest) W) : HasSents W := by
  have h2 := laidMet.tail (laidMet.tail (laidMet.tail h))
  obtain ⟨a0, s0, hv0, -, -, -⟩ := laid_sentinel h2 Tryz.ranG Tryz.ranT Tryz.underlying27 Tryz.rowErr Tryz.underlying211 Tryz.underlying213 rfl rfl Tryz.underlying9 Tryz.cellsErr Tryz.cellsStr
  obtain ⟨a1, s1, hv1, -, -, -⟩ := laid_sentinel h2.tail Tryz.synG Tryz.synT Tryz.underlying27 Tryz.rowErr Tryz.underlying211 Tryz.underlying213 rfl rfl Tryz.underlying9 Tryz.cellsErr Tryz.cellsStr
  exact ⟨⟨_, _, hv1⟩, _, _, hv0⟩

noncomputable def low : Nat := (World.holding Tryz.prog default ⟨#[], #[], []⟩).heap.size
abbrev rangeS : ByteArray := { data := #[118, 97, 108, 117, 101, 32, 111, 117, 116, 32, 111, 102, 32, 114, 97, 110, 103, 101] }
abbrev badS : ByteArray := { data := #[105, 110, 118, 97, 108, 105, 100, 32, 115, 121, 110, 116, 97, 120] }
noncomputable def tabled (h : Array Obj) : Array Obj :=
  ((h.modify 8 (relay (flat1 Rows.laid_math_bits_deBruijn32tab).toArray)).modify 9 (relay (flat1 Rows.laid_math_bits_deBruijn64tab).toArray)).modify 7 (relay (flat1 Rows.laid_internal_strconv_uint64pow10).toArray)
noncomputable def cubed (h : Array Obj) : Array Obj := h.modify 1 (relay (flat1 Rows.laid_tambour_digest_cubes).toArray)
noncomputable def errored (h : Array Obj) : Array Obj :=
  ((h.modify 0 (relay #[.iface 129 (.agg #[.pointer (some ⟨10, 27, none⟩)])])).modify 6 (relay #[.iface 211 (.pointer (some ⟨low, 0, none⟩))])).modify 5 (relay #[.iface 211 (.pointer (some ⟨low + 1, 0, none⟩))])
noncomputable def laidWorldQ (os : Os) : World :=
  let w0 := World.holding Tryz.prog os ⟨#[.cells #[.string rangeS] 213, .cells #[.string badS] 213], #[], []⟩
  { w0 with heap := cubed (errored (tabled w0.heap)) }
end Go.Proofs.YthamfbfeokmhgaaGreatDoor
