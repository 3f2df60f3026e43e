/- errors.As at a target of type *api.Errno, errors.Is between two errors of type api.Errno, and Code. -/
import Derived.LaidEql
import Derived.Stop.Asserts
import Derived.RowKitTokens
import Derived.LaidHandle
import Derived.LaidLaws
import Derived.Test.YtnlakehcghoclaaGreatDoorZ0
set_option linter.unusedVariables false
namespace Go.Proofs.YtnlakehcghoclaaGreatDoor
open Go.RowKit Go.Extern.Stop Go.Stop Go.Extern

abbrev hnd (t : Nat) : Value := .pointer (some ⟨8, t, none⟩)
def HasErr (w : World) : Prop := w.cell? ⟨0, 0, none⟩ = some (.iface 139 (.agg #[hnd 29]))
theorem HasErr.below {w w' : World} (h : HasErr w) (hb : Below w.heap.size w w') : HasErr w' := (hb.cell (p := ⟨0, 0, none⟩) (cell_lt h)).trans h

end Go.Proofs.YtnlakehcghoclaaGreatDoor
