/-
  DERIVED. GIVEN WITH THE SEED: THE CARDS: each row of YtojnagonhihknaaGreatDoorRows.lean that lists a variable, with what it lists TIED to the program's text (the seventh form; the later family's looks); each row that meets fmt, with fmt's text TOLD by the authors' own Lean function (tested against real Go, not proved from fmt's source: count such statements apart). THE CARD IS WHAT COUNTS. Prove the row's statement (the work); the ties are given (YtojnagonhihknaaGreatDoorTie.lean); close each card by the builder's one call (the guide's Derived/Test/ToyasCard.lean, 'card_holds'). Laid BY PROGRAM, IN A SANDBOX (cutbox-door.mjs). By AI agents, Wed Nov 11 2026. No macro, syntax, notation, axiom, sorry.
-/
import Derived.Test.YtojnagonhihknaaGreatDoorRows
import GoSem.ClaimSeven
namespace Go.Proofs.YtojnagonhihknaaGreatDoor
namespace Rows

/-- THE TIED CARD OF 'tambourlaw07.GraphBuilds'. -/
def graphBuildsCard : Claim7 := { stood := { row := graphBuildsRow, standIns := [], harness := (true, "399edfd7200f7ec7553194149093ec560003259f64bb3c429bac644a6dbfe6d3"), looks := true }, kinds := [], alts := [], laidByText := true, laidKinds := [.data, .data, .data, .handle], laidTests := true, laidLooks := .later }
def GraphBuildsCardSaid : Prop := Claim7.holds Tryz.pinned (.plain (OpenSpec.ofChange graphBuildsSpec)) graphBuildsCard

/-- THE TIED CARD OF 'tambourlaw07.GraphTurned'. -/
def graphTurnedCard : Claim7 := { stood := { row := graphTurnedRow, standIns := [], harness := (true, "399edfd7200f7ec7553194149093ec560003259f64bb3c429bac644a6dbfe6d3"), looks := true }, kinds := [], alts := [], laidByText := true, laidKinds := [.data, .data, .data], laidTests := true, laidLooks := .later }
def GraphTurnedCardSaid : Prop := Claim7.holds Tryz.pinned (.plain (OpenSpec.ofChange graphTurnedSpec)) graphTurnedCard

/-- THE TIED CARD OF 'tambourlaw07.GraphGrows'. -/
def graphGrowsCard : Claim7 := { stood := { row := graphGrowsRow, standIns := [], harness := (true, "399edfd7200f7ec7553194149093ec560003259f64bb3c429bac644a6dbfe6d3"), looks := true }, kinds := [], alts := [], laidByText := true, laidKinds := [.data, .data, .data], laidTests := true, laidLooks := .later }
def GraphGrowsCardSaid : Prop := Claim7.holds Tryz.pinned (.plain (OpenSpec.ofChange graphGrowsSpec)) graphGrowsCard

/-- THE TIED CARD OF 'tambourlaw07.GraphDeletes'. -/
def graphDeletesCard : Claim7 := { stood := { row := graphDeletesRow, standIns := [], harness := (true, "399edfd7200f7ec7553194149093ec560003259f64bb3c429bac644a6dbfe6d3"), looks := true }, kinds := [], alts := [], laidByText := true, laidKinds := [.data, .data, .data], laidTests := true, laidLooks := .later }
def GraphDeletesCardSaid : Prop := Claim7.holds Tryz.pinned (.plain (OpenSpec.ofChange graphDeletesSpec)) graphDeletesCard

/-- THE SECOND FORM's CARD OF 'tambourlaw07.GraphBuilds'. -/
def graphBuildsUptoCard : Claim7 := { stood := { row := graphBuildsUptoRow, standIns := [], harness := (true, "399edfd7200f7ec7553194149093ec560003259f64bb3c429bac644a6dbfe6d3"), looks := true }, kinds := [], alts := [], laidByText := true, laidKinds := [.data, .data, .data, .handle], laidTests := true, laidLooks := .later }
def GraphBuildsUptoCardSaid : Prop := Claim7.holds Tryz.pinned (.plain (OpenSpec.upto graphBuildsSpec)) graphBuildsUptoCard

/-- THE SECOND FORM's CARD OF 'tambourlaw07.GraphTurned'. -/
def graphTurnedUptoCard : Claim7 := { stood := { row := graphTurnedUptoRow, standIns := [], harness := (true, "399edfd7200f7ec7553194149093ec560003259f64bb3c429bac644a6dbfe6d3"), looks := true }, kinds := [], alts := [], laidByText := true, laidKinds := [.data, .data, .data], laidTests := true, laidLooks := .later }
def GraphTurnedUptoCardSaid : Prop := Claim7.holds Tryz.pinned (.plain (OpenSpec.upto graphTurnedSpec)) graphTurnedUptoCard

/-- THE SECOND FORM's CARD OF 'tambourlaw07.GraphGrows'. -/
def graphGrowsUptoCard : Claim7 := { stood := { row := graphGrowsUptoRow, standIns := [], harness := (true, "399edfd7200f7ec7553194149093ec560003259f64bb3c429bac644a6dbfe6d3"), looks := true }, kinds := [], alts := [], laidByText := true, laidKinds := [.data, .data, .data], laidTests := true, laidLooks := .later }
def GraphGrowsUptoCardSaid : Prop := Claim7.holds Tryz.pinned (.plain (OpenSpec.upto graphGrowsSpec)) graphGrowsUptoCard

/-- THE SECOND FORM's CARD OF 'tambourlaw07.GraphDeletes'. -/
def graphDeletesUptoCard : Claim7 := { stood := { row := graphDeletesUptoRow, standIns := [], harness := (true, "399edfd7200f7ec7553194149093ec560003259f64bb3c429bac644a6dbfe6d3"), looks := true }, kinds := [], alts := [], laidByText := true, laidKinds := [.data, .data, .data], laidTests := true, laidLooks := .later }
def GraphDeletesUptoCardSaid : Prop := Claim7.holds Tryz.pinned (.plain (OpenSpec.upto graphDeletesSpec)) graphDeletesUptoCard
end Rows
end Go.Proofs.YtojnagonhihknaaGreatDoor
