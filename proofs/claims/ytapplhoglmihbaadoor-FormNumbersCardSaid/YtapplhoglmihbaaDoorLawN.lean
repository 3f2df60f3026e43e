/- What FormNumbers' row asks beside the others': the library's two errors, a world for the witness that has them, and an argument of two numbers. -/
import Derived.Test.YtapplhoglmihbaaDoorLaw
import Derived.Test.YtapplhoglmihbaaDoorAtoi
import Derived.Stop.LaidErr
import Derived.ChangeSame
set_option linter.unusedVariables false
namespace Go.Proofs.YtapplhoglmihbaaDoor
open Go.ChangeShapes Go.WideShapes Go.ChangeAt Go.RowKit

theorem Tryd.synT : (Tryd.prog.globals[1]?).map (·.type) = some 28 := by kernel_rfl
theorem Tryd.ranT : (Tryd.prog.globals[2]?).map (·.type) = some 28 := by kernel_rfl
theorem Tryd.cellsErr : Tryd.prog.cellsOf 141 = 1 := by kernel_rfl
theorem Tryd.cellsStr : Tryd.prog.cellsOf 9 = 1 := by kernel_rfl
theorem Tryd.starE : "*" ++ "errors.errorString" = "*errors.errorString" := by decide
theorem Tryd.rowErr (u : TypeId) (h : Tryd.prog.typeName? 3 u = some "*errors.errorString") : u = 139 :=
  typeName_ptr_named (nm := "errors.errorString") (by rw [Tryd.starE]; kernel_rfl) (by kernel_rfl) (by decide) u (by rw [Tryd.starE]; exact h)

theorem hasSents_of {W : World} {x y z : String × DataW Unit} {t1 t2 : List UInt8} {rest : List (String × DataW Unit)}
    (h : laidMet Tryd.prog (x :: y :: z :: ("strconv.ErrRange", .iface "*errors.errorString" (.ptr (.agg [.lit (.string t1)]))) :: ("strconv.ErrSyntax", .iface "*errors.errorString" (.ptr (.agg [.lit (.string t2)]))) :: rest) W) : HasSents W := by
  have h2 := laidMet.tail (laidMet.tail (laidMet.tail h))
  obtain ⟨a0, s0, hv0, -, -, -⟩ := laid_sentinel h2 Tryd.ranG Tryd.ranT Tryd.underlying28 Tryd.rowErr Tryd.underlying139 Tryd.underlying141 rfl rfl Tryd.underlying9 Tryd.cellsErr Tryd.cellsStr
  obtain ⟨a1, s1, hv1, -, -, -⟩ := laid_sentinel h2.tail Tryd.synG Tryd.synT Tryd.underlying28 Tryd.rowErr Tryd.underlying139 Tryd.underlying141 rfl rfl Tryd.underlying9 Tryd.cellsErr Tryd.cellsStr
  exact ⟨⟨_, _, hv1⟩, _, _, hv0⟩

/-- So many blocks has the settled world. -/
noncomputable def low : Nat := (World.holding Tryd.prog default ⟨#[], #[], []⟩).heap.size
abbrev rangeS : ByteArray := { data := #[118, 97, 108, 117, 101, 32, 111, 117, 116, 32, 111, 102, 32, 114, 97, 110, 103, 101] }
abbrev badS : ByteArray := { data := #[105, 110, 118, 97, 108, 105, 100, 32, 115, 121, 110, 116, 97, 120] }
noncomputable def tabled (h : Array Obj) : Array Obj :=
  ((h.modify 4 (relay (flat1 Rows.laid_math_bits_deBruijn32tab).toArray)).modify 5 (relay (flat1 Rows.laid_math_bits_deBruijn64tab).toArray)).modify 3 (relay (flat1 Rows.laid_internal_strconv_uint64pow10).toArray)
noncomputable def errored (h : Array Obj) : Array Obj :=
  ((h.modify 0 (relay #[.iface 95 (.agg #[.pointer (some ⟨6, 28, none⟩)])])).modify 2 (relay #[.iface 139 (.pointer (some ⟨low, 0, none⟩))])).modify 1 (relay #[.iface 139 (.pointer (some ⟨low + 1, 0, none⟩))])
/-- The witness's world with the library's two errors. -/
noncomputable def laidWorldN (os : Os) : World :=
  let w0 := World.holding Tryd.prog os ⟨#[.cells #[.string rangeS] 141, .cells #[.string badS] 141], #[], []⟩
  { w0 with heap := errored (tabled w0.heap) }

theorem trod_array2 {H : Type} {enc : TypeId × Value → H} {P : Program} {w : World} {base : Nat} {spare : Nat → Bool} {held : Bool} {t e : TypeId} {fuel : Nat} {c0 c1 : Value} {x : DataW H × List MemPlace} (ht : P.underlying t = some (.array 2 e)) (hce : P.cellsOf e = 1)
    (h : DataW.trod enc P w base spare held fuel t [c0, c1] = some x) :
    ∃ y0 y1 n, x = (.agg [y0.1, y1.1], y0.2 ++ y1.2) ∧ DataW.trod enc P w base spare held n e [c0] = some y0 ∧ DataW.trod enc P w base spare held n e [c1] = some y1 := by
  cases fuel with
  | zero => simp [DataW.trod] at h
  | succ n =>
    unfold DataW.trod at h
    rw [ht] at h
    have r2 : List.range 2 = [0, 1] := rfl
    simp [r2, hce] at h
    obtain ⟨_, h⟩ := h
    cases h0 : DataW.trod enc P w base spare held n e [c0] with
    | none => simp [h0] at h
    | some y0 =>
      cases h1 : DataW.trod enc P w base spare held n e [c1] with
      | none => simp [h0, h1] at h
      | some y1 =>
        simp [h0, h1] at h
        exact ⟨y0, y1, n, h.symm, h0, h1⟩

set_option maxRecDepth 100000 in
/-- An argument of two numbers. -/
theorem open_two {H : Type} {enc : TypeId × Value → H} {W : World} {b0 : Nat} {r : Reach} {v : Value} {d : DataW H} {p : List MemPlace}
    (hval : Value.okWide Tryd.prog W r b0 40 v) (h : DataW.Trod enc Tryd.prog W 0 (fun _ => true) true 40 v d p) :
    ∃ lo hi : Int, v = .agg #[.int .i64 lo, .int .i64 hi] ∧ (Lit.int .i64 lo).wf = true ∧ (Lit.int .i64 hi).wf = true := by
  simp only [Value.okWide, Tryd.underlying40] at hval
  obtain ⟨cs, rfl, hz, -⟩ := hval
  have hz2 : cs.size = 2 := by rw [hz]; kernel_rfl
  obtain ⟨c0, c1, rfl⟩ : ∃ c0 c1, cs = #[c0, c1] := ⟨cs[0], cs[1], by
    apply Array.ext
    · simpa using hz2
    · intro i h1 h2
      have : i = 0 ∨ i = 1 := by omega
      rcases this with rfl | rfl <;> rfl⟩
  obtain ⟨fuel, hf⟩ := h
  simp only [Value.cells] at hf
  obtain ⟨y0, y1, n, -, h0, h1⟩ := trod_array2 Tryd.underlying40 (by kernel_rfl) hf
  obtain ⟨lo, e0, -, w0⟩ := DataW.trod_int Tryd.underlying3 h0
  obtain ⟨hi, e1, -, w1⟩ := DataW.trod_int Tryd.underlying3 h1
  injection e0 with e0 _
  injection e1 with e1 _
  exact ⟨lo, hi, by rw [e0, e1], w0, w1⟩
theorem wf_bounds {n : Int} (h : (Lit.int .i64 n).wf = true) : -9223372036854775808 ≤ n ∧ n ≤ 9223372036854775807 := by
  simp only [Lit.wf, Bool.and_eq_true, decide_eq_true_eq] at h
  exact h
end Go.Proofs.YtapplhoglmihbaaDoor
