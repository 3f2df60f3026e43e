/-
  DERIVED. GIVEN WITH THE SEED: THE CARDS: each row of YthamfbfeokmhgaaGreatDoorRows.lean that lists a variable, with what it lists TIED to the program's text (the seventh form; the later family's looks); each row that meets fmt, with fmt's text TOLD by the authors' own Lean function (tested against real Go, not proved from fmt's source: count such statements apart). THE CARD IS WHAT COUNTS. Prove the row's statement (the work); the ties are given (YthamfbfeokmhgaaGreatDoorTie.lean); close each card by the builder's one call (the guide's Derived/Test/ToyasCard.lean, 'card_holds'). Laid BY PROGRAM, IN A SANDBOX (cutbox-door.mjs). By AI agents, Wed Nov 11 2026. No macro, syntax, notation, axiom, sorry.
-/
import Derived.Test.YthamfbfeokmhgaaGreatDoorRows
import GoSem.ClaimSeven
namespace Go.Proofs.YthamfbfeokmhgaaGreatDoor
namespace Rows

/-- THE TIED CARD OF 'tambourlaw13.RedoRuns'. -/
def redoRunsCard : Claim7 := { stood := { row := redoRunsRow, standIns := [], harness := (true, "2c808921382d94c656dc6ea3a905db64f537c2be7f569c0976753ae4c79c91c8"), looks := true }, kinds := [], alts := [], laidByText := true, laidKinds := [.data, .data, .data, .data, .handle, .sentinel, .sentinel, .data, .pinned], laidTests := true, laidLooks := .later }
def RedoRunsCardSaid : Prop := Claim7.holds Tryz.pinned (.plain (OpenSpec.ofChange redoRunsSpec)) redoRunsCard

/-- THE TIED CARD OF 'tambourlaw13.RedoSteps'. -/
def redoStepsCard : Claim7 := { stood := { row := redoStepsRow, standIns := [], harness := (true, "2c808921382d94c656dc6ea3a905db64f537c2be7f569c0976753ae4c79c91c8"), looks := true }, kinds := [], alts := [], laidByText := true, laidKinds := [.data, .data, .data, .data, .handle, .sentinel, .sentinel, .data, .pinned], laidTests := true, laidLooks := .later }
def RedoStepsCardSaid : Prop := Claim7.holds Tryz.pinned (.plain (OpenSpec.ofChange redoStepsSpec)) redoStepsCard

/-- THE SECOND FORM's CARD OF 'tambourlaw13.RedoRuns'. -/
def redoRunsUptoCard : Claim7 := { stood := { row := redoRunsUptoRow, standIns := [], harness := (true, "2c808921382d94c656dc6ea3a905db64f537c2be7f569c0976753ae4c79c91c8"), looks := true }, kinds := [], alts := [], laidByText := true, laidKinds := [.data, .data, .data, .data, .handle, .sentinel, .sentinel, .data, .pinned], laidTests := true, laidLooks := .later }
def RedoRunsUptoCardSaid : Prop := Claim7.holds Tryz.pinned (.plain (OpenSpec.upto redoRunsSpec)) redoRunsUptoCard

/-- THE SECOND FORM's CARD OF 'tambourlaw13.RedoSteps'. -/
def redoStepsUptoCard : Claim7 := { stood := { row := redoStepsUptoRow, standIns := [], harness := (true, "2c808921382d94c656dc6ea3a905db64f537c2be7f569c0976753ae4c79c91c8"), looks := true }, kinds := [], alts := [], laidByText := true, laidKinds := [.data, .data, .data, .data, .handle, .sentinel, .sentinel, .data, .pinned], laidTests := true, laidLooks := .later }
def RedoStepsUptoCardSaid : Prop := Claim7.holds Tryz.pinned (.plain (OpenSpec.upto redoStepsSpec)) redoStepsUptoCard
end Rows
end Go.Proofs.YthamfbfeokmhgaaGreatDoor
