/- A world for the witness: the listed variables as their text lays them. -/
import Derived.Test.YteppgjdkoakpeaaDoorLawC
import Derived.Test.YteppgjdkoakpeaaDoorCards
import Derived.Test.YteppgjdkoakpeaaDoorTie
import Derived.LaidHandle
set_option linter.unusedVariables false
namespace Go.Proofs.YteppgjdkoakpeaaDoor
open Go.ChangeShapes Go.WideShapes Go.ChangeAt Go.RowKit

def numV : DataW Unit → Value | .lit (.int k n) => .int k n | _ => undef
def flat1 : DataW Unit → List Value | .agg l => l.map numV | _ => []
def flat2 : DataW Unit → List Value | .agg l => l.flatMap flat1 | _ => []
def relay (cs : Array Value) : Obj → Obj
  | .cells _ t frozen => .cells cs t frozen
  | o => o

/-- A world for the witness: the settled one, the listed variables as their text lays them. -/
noncomputable def laidWorld (os : Os) : World :=
  let w0 := World.holding Tryd.prog os ⟨#[], #[], []⟩
  let h0 := w0.heap
  let h0 := h0.modify 0 (relay #[.iface 80 (.agg #[.pointer (some ⟨1, 28, none⟩)])])
  { w0 with heap := h0 }

end Go.Proofs.YteppgjdkoakpeaaDoor
