/- What closes a law's row: the post of a law (it answers true, its arguments read as before) out of 'Below'; a world for the witness. An argument that is a patch, opened. What the row's list gives: the program's variable holds the 64 numbers. What the row's list gives: the library's table of powers of ten. What the rows of patches ask: the library's two errors, the table of cubes, and a world for the witness that has them. -/
import Derived.Test.YtgjcblginkdinaaGreatDoorCards
import Derived.Test.YtgjcblginkdinaaGreatDoorTie
import Derived.Deep.DeepHandedRow
import Derived.Lib.LaidTab
import Derived.Carry
import Derived.LaidHandle
import Derived.Deep.Slices
import Derived.Deep.Fields
import Derived.Stop.LaidErr
import Derived.ChangeSame
import Derived.Test.YtgjcblginkdinaaGreatDoorZ0
import Derived.Test.YtgjcblginkdinaaGreatDoorZ13
import Derived.Test.YtgjcblginkdinaaGreatDoorZ15
import Derived.Test.YtgjcblginkdinaaGreatDoorZ17
import Derived.Test.YtgjcblginkdinaaGreatDoorZ4
set_option linter.unusedVariables false
namespace Go.Proofs.YtgjcblginkdinaaGreatDoor
open Go.ChangeShapes Go.WideShapes Go.ChangeAt Go.RowKit

theorem Tryz.own : ownKnob Tryz.prog.godebug = none := by kernel_rfl
theorem Tryz.laidOut : laidOutB Tryz.prog = true := by kernel_rfl

def numV : DataW Unit → Value | .lit (.int k n) => .int k n | _ => undef
def flat1 : DataW Unit → List Value | .agg l => l.map numV | _ => []
def relay (cs : Array Value) : Obj → Obj
  | .cells _ t frozen => .cells cs t frozen
  | o => o

theorem trodAll_below {H : Type} {enc : TypeId × Value → H} {P : Program} (hl : laidOutB P = true) {W W' : World} (hb : Below W.heap.size W W') :
    ∀ (ts : List TypeId) (vs : List Value) (ds : List (DataW H)) (ps : List MemPlace), (∀ t ∈ ts, P.readableRec t = true ∧ t < P.types.size) → (∀ x ∈ ps, x.block < W.heap.size) →
      DataW.TrodAll enc P W 0 (fun _ => true) true ts vs ds ps → DataW.TrodAll enc P W' 0 (fun b => decide (b < W.heap.size)) true ts vs ds ps
  | [], vs, ds, ps, _, _, h => by
    cases vs <;> cases ds <;> exact h
  | t :: ts, vs, ds, ps, ht, hp, h => by
    obtain ⟨v, vs', d, ds', p, q, rfl, rfl, rfl, h0, h1⟩ := trodAll_cons h
    exact trodAll_cons_mk (Below.trod hl (ht t (by simp)).1 (ht t (by simp)).2 h0 hb fun x hx => hp x (by simp [hx])) (trodAll_below hl hb ts vs' ds' q (fun u hu => ht u (by simp [hu])) (fun x hx => hp x (by simp [hx])) h1)

theorem law_post {H : Type} {enc : TypeId × Value → H} {P : Program} {f : Func} {s : ChangeSpec} {W W' : World} {args : Array Value} {ds gs : List (DataW H)} {before : List MemPlace} {tb : TypeId}
    (hl : laidOutB P = true) (hp : f.params.toList.all (fun t => P.readableRec t && decide (t < P.types.size)) = true) (hv : s.vars = []) (hr : f.resultTypes = #[tb]) (htb : P.underlying tb = some .bool)
    (hW : DataW.Whole enc P f.params.toList s.vars false W args.toList ds gs before) (hspec : s.fn H (ds ++ gs) = { results := [.lit (.bool true)], args := ds }) (hb : Below W.heap.size W W') :
    s.post enc P f false true false false W args (.bool true) W' := by
  have hW0 := hW
  have hlt := fun p (hp : p ∈ before) => hW.lt p hp
  obtain ⟨p, q, hA, hV, rfl, _, _⟩ := hW
  rw [hv] at hV
  obtain ⟨rfl, rfl⟩ := trodVars_none hV
  refine ⟨ds, [], p ++ [], [], p, [], hW0, ?_, ?_, ?_, ?_, fun h => by cases h⟩
  · rw [hspec, hr]
    exact trodAll_cons_mk (shut_bool htb _) trodAll_mk0
  · rw [hspec]
    refine trodAll_below hl hb _ _ _ _ (fun t ht => ?_) (fun x hx => hlt x (by simpa using hx)) hA
    have := List.all_eq_true.1 hp t ht
    simpa using this
  · rw [hspec, hv]
    exact rfl
  · exact World.keptBut_mono (fun x hx => ⟨hx, .inr (.inl (by simpa using hx))⟩) (hb.frame (· ∈ p ++ []))

end Go.Proofs.YtgjcblginkdinaaGreatDoor
set_option linter.unusedVariables false
namespace Go.Proofs.YtgjcblginkdinaaGreatDoor
open Go.ChangeShapes Go.WideShapes Go.ChangeAt Go.RowKit Go.Deep

end Go.Proofs.YtgjcblginkdinaaGreatDoor
set_option linter.unusedVariables false
namespace Go.Proofs.YtgjcblginkdinaaGreatDoor
open Go.ChangeShapes Go.WideShapes Go.ChangeAt Go.RowKit

theorem Tryz.kg : Tryz.prog.globalNamed "tambour/digest.cubes" = some 1 := by kernel_rfl
theorem Tryz.kty : (Tryz.prog.globals[1]?).map (·.type) = some 193 := by kernel_rfl
theorem hasK_of {W : World} (h : laidMet Tryz.prog [("tambour/digest.cubes", Rows.laid_tambour_digest_cubes)] W) : HasK W := by
  have e : (Rows.laid_tambour_digest_cubes : DataW Unit) = Lib.tabData .u32 (KK.map nv) := rfl
  rw [e] at h
  have hT := Lib.tabIs_of_head Tryz.kg Tryz.kty Tryz.underlying193 Tryz.underlying122 (by kernel_rfl) (by kernel_rfl) h
  have hc : ∀ t, t < 64 → W.cell? ⟨1, t, none⟩ = some (u (KK.getD t 0)) := by
    intro t ht
    rw [hT.cell Tryz.kg t (by rw [List.length_map, KK_len]; exact ht)]
    rw [List.getD_eq_getElem?_getD, List.getElem?_map, getD_some (0 : Wd) (by rw [KK_len]; exact ht)]
    rfl
  exact ⟨cell_lt (hc 0 (by omega)), hc⟩
end Go.Proofs.YtgjcblginkdinaaGreatDoor
set_option linter.unusedVariables false
namespace Go.Proofs.YtgjcblginkdinaaGreatDoor
open Go.ChangeShapes Go.WideShapes Go.ChangeAt Go.RowKit

theorem Tryz.pg : Tryz.prog.globalNamed "internal/strconv.uint64pow10" = some 3 := by kernel_rfl
theorem Tryz.pty : (Tryz.prog.globals[3]?).map (·.type) = some 229 := by kernel_rfl
theorem hasTab_of {W : World} {x y : String × DataW Unit} {rest : List (String × DataW Unit)} (h : laidMet Tryz.prog (x :: y :: ("internal/strconv.uint64pow10", Rows.laid_internal_strconv_uint64pow10) :: rest) W) : HasTab W := by
  have h2 := laidMet.tail (laidMet.tail h)
  have e : (Rows.laid_internal_strconv_uint64pow10 : DataW Unit) = Lib.tabData .u64 Lib.pow10Tab := rfl
  rw [e] at h2
  exact Lib.tabIs_of_head Tryz.pg Tryz.pty Tryz.underlying229 Tryz.underlying121 (by kernel_rfl) (by kernel_rfl) h2
end Go.Proofs.YtgjcblginkdinaaGreatDoor
set_option linter.unusedVariables false
namespace Go.Proofs.YtgjcblginkdinaaGreatDoor
open Go.ChangeShapes Go.WideShapes Go.ChangeAt Go.RowKit

theorem Tryz.synT : (Tryz.prog.globals[4]?).map (·.type) = some 29 := by kernel_rfl
theorem Tryz.ranT : (Tryz.prog.globals[5]?).map (·.type) = some 29 := by kernel_rfl
theorem Tryz.cellsErr : Tryz.prog.cellsOf 251 = 1 := by kernel_rfl
theorem Tryz.cellsStr : Tryz.prog.cellsOf 9 = 1 := by kernel_rfl
theorem Tryz.starE : "*" ++ "errors.errorString" = "*errors.errorString" := by decide
theorem Tryz.rowErr (u : TypeId) (h : Tryz.prog.typeName? 3 u = some "*errors.errorString") : u = 249 :=
  typeName_ptr_named (nm := "errors.errorString") (by rw [Tryz.starE]; kernel_rfl) (by kernel_rfl) (by decide) u (by rw [Tryz.starE]; exact h)

theorem hasSents_of {W : World} {x y z : String × DataW Unit} {t1 t2 : List UInt8} {rest : List (String × DataW Unit)}
    (h : laidMet Tryz.prog (x :: y :: z :: ("strconv.ErrRange", .iface "*errors.errorString" (.ptr (.agg [.lit (.string t1)]))) :: ("strconv.ErrSyntax", .iface "*errors.errorString" (.ptr (.agg [.lit (.string t2)]))) :: rest) W) : HasSents W := by
  have h2 := laidMet.tail (laidMet.tail (laidMet.tail h))
  obtain ⟨a0, s0, hv0, -, -, -⟩ := laid_sentinel h2 Tryz.ranG Tryz.ranT Tryz.underlying29 Tryz.rowErr Tryz.underlying249 Tryz.underlying251 rfl rfl Tryz.underlying9 Tryz.cellsErr Tryz.cellsStr
  obtain ⟨a1, s1, hv1, -, -, -⟩ := laid_sentinel h2.tail Tryz.synG Tryz.synT Tryz.underlying29 Tryz.rowErr Tryz.underlying249 Tryz.underlying251 rfl rfl Tryz.underlying9 Tryz.cellsErr Tryz.cellsStr
  exact ⟨⟨_, _, hv1⟩, _, _, hv0⟩

noncomputable def low : Nat := (World.holding Tryz.prog default ⟨#[], #[], []⟩).heap.size
abbrev rangeS : ByteArray := { data := #[118, 97, 108, 117, 101, 32, 111, 117, 116, 32, 111, 102, 32, 114, 97, 110, 103, 101] }
abbrev badS : ByteArray := { data := #[105, 110, 118, 97, 108, 105, 100, 32, 115, 121, 110, 116, 97, 120] }
noncomputable def tabled (h : Array Obj) : Array Obj :=
  ((h.modify 6 (relay (flat1 Rows.laid_math_bits_deBruijn32tab).toArray)).modify 7 (relay (flat1 Rows.laid_math_bits_deBruijn64tab).toArray)).modify 3 (relay (flat1 Rows.laid_internal_strconv_uint64pow10).toArray)
noncomputable def cubed (h : Array Obj) : Array Obj := h.modify 1 (relay (flat1 Rows.laid_tambour_digest_cubes).toArray)
noncomputable def errored (h : Array Obj) : Array Obj :=
  ((h.modify 0 (relay #[.iface 139 (.agg #[.pointer (some ⟨8, 29, none⟩)])])).modify 5 (relay #[.iface 249 (.pointer (some ⟨low, 0, none⟩))])).modify 4 (relay #[.iface 249 (.pointer (some ⟨low + 1, 0, none⟩))])
noncomputable def laidWorldQ (os : Os) : World :=
  let w0 := World.holding Tryz.prog os ⟨#[.cells #[.string rangeS] 251, .cells #[.string badS] 251], #[], []⟩
  { w0 with heap := cubed (errored (tabled w0.heap)) }
end Go.Proofs.YtgjcblginkdinaaGreatDoor
