/-
  No cell of these rows narrows 'for every input' (looked for: loops, veiled, ifaces, maps, wideKeys, modest, calm, conditions, laid).
  DERIVED. THE GIVEN ROWS OF THIS SEAT. 4 by the template 'for every input the law returns true; each argument reads behind the call as it read before'; 0 by the template 'total and deterministic' (their statements: YtfpepoebammeoaaGreatTotals.lean).
  GIVEN WITH THE SEED: the statements are not yours to turn. If you find one false, say at which input.
  Laid BY PROGRAM, IN A SANDBOX (cutbox-rows.mjs): the forced cells as the released guide's own fill.sh prints them over the translation 76c2af8f004fd824… (all of the seat's roots in one cut). By AI agents, Wed Nov 11 2026. No macro, syntax, notation, axiom, sorry.
-/
import Derived.Test.YtfpepoebammeoaaGreatChecked
import GoSem.Claim
import GoSem.ClaimJoined
import GoSem.ClaimMapViews
import Derived.JoinedTies
import Derived.KernelRfl
namespace Go.Proofs.YtfpepoebammeoaaGreat
/- THE CELL 'sum', in the pinned program and in every row, IS THE sha256 OF THE DUMP (.gsa) THAT YtfpepoebammeoaaGreatProg.lean LOADS. Nothing in Lean hashes anything: it is a label: what it is worth is what the hold of that sum in a sandbox is worth. -/
noncomputable def Tryz.pinned : Pinned := { name := "ytfpepoebammeoaagreat", sum := "76c2af8f004fd8240cb83df3400042504d471f01f719b7a4ff938c9b97e83667", checked := Tryz.checked }
namespace Rows
def none {H : Type} : Left H := { results := [], args := [] }

/-- 'tambourlaw09.PosetTells': WHATEVER THE INPUT: true; the input reads as it did. -/
def posetTellsSpec : ChangeSpec := { name := "posetTells", fn := fun _ => fun
  | [d1, d2, d3] => { results := [.lit (.bool true)], args := [d1, d2, d3] }
  | _ => none }
def posetTellsRow : OpenClaim := { program := "ytfpepoebammeoaagreat", sum := "76c2af8f004fd8240cb83df3400042504d471f01f719b7a4ff938c9b97e83667", func := "tambour/tambourlaw09.PosetTells", spec := "posetTells", unfollowed := true, recurses := true, apart := false }
def PosetTellsSaid : Prop := posetTellsRow.holds Tryz.pinned (OpenSpec.ofChange posetTellsSpec)

/-- ITS FALSE NEIGHBOUR: 'it returns false'. Refute it at one input. -/
def posetTellsWrong : ChangeSpec := { name := "posetTells", fn := fun _ => fun
  | [d1, d2, d3] => { results := [.lit (.bool false)], args := [d1, d2, d3] }
  | _ => none }
def PosetTellsWrongFalsely : Prop := posetTellsRow.holds Tryz.pinned (OpenSpec.ofChange posetTellsWrong)

/-- 'tambourlaw09.PosetRuns': WHATEVER THE INPUT: true; the input reads as it did. -/
def posetRunsSpec : ChangeSpec := { name := "posetRuns", fn := fun _ => fun
  | [d1, d2] => { results := [.lit (.bool true)], args := [d1, d2] }
  | _ => none }
def posetRunsRow : OpenClaim := { program := "ytfpepoebammeoaagreat", sum := "76c2af8f004fd8240cb83df3400042504d471f01f719b7a4ff938c9b97e83667", func := "tambour/tambourlaw09.PosetRuns", spec := "posetRuns", unfollowed := true, recurses := true, apart := false }
def PosetRunsSaid : Prop := posetRunsRow.holds Tryz.pinned (OpenSpec.ofChange posetRunsSpec)

/-- ITS FALSE NEIGHBOUR: 'it returns false'. Refute it at one input. -/
def posetRunsWrong : ChangeSpec := { name := "posetRuns", fn := fun _ => fun
  | [d1, d2] => { results := [.lit (.bool false)], args := [d1, d2] }
  | _ => none }
def PosetRunsWrongFalsely : Prop := posetRunsRow.holds Tryz.pinned (OpenSpec.ofChange posetRunsWrong)

/-- 'tambourlaw09.PosetSides': WHATEVER THE INPUT: true; the input reads as it did. -/
def posetSidesSpec : ChangeSpec := { name := "posetSides", fn := fun _ => fun
  | [d1, d2] => { results := [.lit (.bool true)], args := [d1, d2] }
  | _ => none }
def posetSidesRow : OpenClaim := { program := "ytfpepoebammeoaagreat", sum := "76c2af8f004fd8240cb83df3400042504d471f01f719b7a4ff938c9b97e83667", func := "tambour/tambourlaw09.PosetSides", spec := "posetSides", unfollowed := true, recurses := true, apart := false }
def PosetSidesSaid : Prop := posetSidesRow.holds Tryz.pinned (OpenSpec.ofChange posetSidesSpec)

/-- ITS FALSE NEIGHBOUR: 'it returns false'. Refute it at one input. -/
def posetSidesWrong : ChangeSpec := { name := "posetSides", fn := fun _ => fun
  | [d1, d2] => { results := [.lit (.bool false)], args := [d1, d2] }
  | _ => none }
def PosetSidesWrongFalsely : Prop := posetSidesRow.holds Tryz.pinned (OpenSpec.ofChange posetSidesWrong)

/-- 'tambourlaw09.PosetAhead': WHATEVER THE INPUT: true; the input reads as it did. -/
def posetAheadSpec : ChangeSpec := { name := "posetAhead", fn := fun _ => fun
  | [d1, d2] => { results := [.lit (.bool true)], args := [d1, d2] }
  | _ => none }
def posetAheadRow : OpenClaim := { program := "ytfpepoebammeoaagreat", sum := "76c2af8f004fd8240cb83df3400042504d471f01f719b7a4ff938c9b97e83667", func := "tambour/tambourlaw09.PosetAhead", spec := "posetAhead", unfollowed := true, recurses := true, apart := false }
def PosetAheadSaid : Prop := posetAheadRow.holds Tryz.pinned (OpenSpec.ofChange posetAheadSpec)

/-- ITS FALSE NEIGHBOUR: 'it returns false'. Refute it at one input. -/
def posetAheadWrong : ChangeSpec := { name := "posetAhead", fn := fun _ => fun
  | [d1, d2] => { results := [.lit (.bool false)], args := [d1, d2] }
  | _ => none }
def PosetAheadWrongFalsely : Prop := posetAheadRow.holds Tryz.pinned (OpenSpec.ofChange posetAheadWrong)

/- THE SECOND FORM. 'bulk': how many values and letters a reading holds, each counted each time it is reached (what is shared counts as often as it is met; a slice's spare places count too). A statement '..UptoSaid' is the law's where the arguments, and the package variables that the reading takes, are together of bulk at most 1048576: NARROWER than '..Said'. Prove '..Said' where nothing that the law and all that it calls make is longer than what came in: it says more and counts as full. Else prove '..UptoSaid'. A law counts once. -/
mutual
def uptoBulk {H : Type} : DataW H → Nat
  | .lit (.string bytes) => bytes.length + 1
  | .lit _ => 1
  | .nil => 1
  | .ptr d => uptoBulk d + 1
  | .slice elems spare => uptoBulkAll elems + uptoBulkAll spare + 1
  | .agg parts => uptoBulkAll parts + 1
  | .iface _ d => uptoBulk d + 1
  | .map entries => uptoBulkEntries entries + 1
  | .held _ => 1
def uptoBulkAll {H : Type} : List (DataW H) → Nat
  | [] => 0
  | d :: r => uptoBulk d + uptoBulkAll r
def uptoBulkEntries {H : Type} : List (Lit × DataW H) → Nat
  | [] => 0
  | x :: r => uptoBulkEntry x + uptoBulkEntries r
def uptoBulkEntry {H : Type} : Lit × DataW H → Nat
  | (.string bytes, d) => bytes.length + uptoBulk d + 1
  | (_, d) => uptoBulk d + 1
 end
def uptoSmall : (H : Type) → List (DataW H) → Bool := fun _ ds => decide (uptoBulkAll ds ≤ 1048576)
def OpenSpec.upto (s : _root_.Go.ChangeSpec) : _root_.Go.OpenSpec := { _root_.Go.OpenSpec.ofChange s with cond := some uptoSmall }

/-- 'tambourlaw09.PosetTells', WHERE WHAT IT READS IS OF BULK AT MOST 1048576: true; the input reads as it did. -/
def posetTellsUptoRow : OpenClaim := { program := "ytfpepoebammeoaagreat", sum := "76c2af8f004fd8240cb83df3400042504d471f01f719b7a4ff938c9b97e83667", func := "tambour/tambourlaw09.PosetTells", spec := "posetTells", unfollowed := true, recurses := true, apart := false, narrowed := true }
def PosetTellsUptoSaid : Prop := posetTellsUptoRow.holds Tryz.pinned (OpenSpec.upto posetTellsSpec)

/-- 'tambourlaw09.PosetRuns', WHERE WHAT IT READS IS OF BULK AT MOST 1048576: true; the input reads as it did. -/
def posetRunsUptoRow : OpenClaim := { program := "ytfpepoebammeoaagreat", sum := "76c2af8f004fd8240cb83df3400042504d471f01f719b7a4ff938c9b97e83667", func := "tambour/tambourlaw09.PosetRuns", spec := "posetRuns", unfollowed := true, recurses := true, apart := false, narrowed := true }
def PosetRunsUptoSaid : Prop := posetRunsUptoRow.holds Tryz.pinned (OpenSpec.upto posetRunsSpec)

/-- 'tambourlaw09.PosetSides', WHERE WHAT IT READS IS OF BULK AT MOST 1048576: true; the input reads as it did. -/
def posetSidesUptoRow : OpenClaim := { program := "ytfpepoebammeoaagreat", sum := "76c2af8f004fd8240cb83df3400042504d471f01f719b7a4ff938c9b97e83667", func := "tambour/tambourlaw09.PosetSides", spec := "posetSides", unfollowed := true, recurses := true, apart := false, narrowed := true }
def PosetSidesUptoSaid : Prop := posetSidesUptoRow.holds Tryz.pinned (OpenSpec.upto posetSidesSpec)

/-- 'tambourlaw09.PosetAhead', WHERE WHAT IT READS IS OF BULK AT MOST 1048576: true; the input reads as it did. -/
def posetAheadUptoRow : OpenClaim := { program := "ytfpepoebammeoaagreat", sum := "76c2af8f004fd8240cb83df3400042504d471f01f719b7a4ff938c9b97e83667", func := "tambour/tambourlaw09.PosetAhead", spec := "posetAhead", unfollowed := true, recurses := true, apart := false, narrowed := true }
def PosetAheadUptoSaid : Prop := posetAheadUptoRow.holds Tryz.pinned (OpenSpec.upto posetAheadSpec)

end Rows
end Go.Proofs.YtfpepoebammeoaaGreat
