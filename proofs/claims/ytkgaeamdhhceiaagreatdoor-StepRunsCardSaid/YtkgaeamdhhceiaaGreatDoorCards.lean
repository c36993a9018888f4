/-
  DERIVED. GIVEN WITH THE SEED: THE CARDS: each row of YtkgaeamdhhceiaaGreatDoorRows.lean that lists a variable, with what it lists TIED to the program's text (the seventh form; the later family's looks); each row that meets fmt, with fmt's text TOLD by the authors' own Lean function (tested against real Go, not proved from fmt's source: count such statements apart). THE CARD IS WHAT COUNTS. Prove the row's statement (the work); the ties are given (YtkgaeamdhhceiaaGreatDoorTie.lean); close each card by the builder's one call (the guide's Derived/Test/ToyasCard.lean, 'card_holds'). Laid BY PROGRAM, IN A SANDBOX (cutbox-door.mjs). By AI agents, Wed Nov 11 2026. No macro, syntax, notation, axiom, sorry.
-/
import Derived.Test.YtkgaeamdhhceiaaGreatDoorRows
import GoSem.ClaimSeven
namespace Go.Proofs.YtkgaeamdhhceiaaGreatDoor
namespace Rows

/-- THE TIED CARD OF 'charabanclaw15.StepTells'. -/
def stepTellsCard : Claim7 := { stood := { row := stepTellsRow, standIns := [], harness := (true, "8ca50e1f35dee3bd3b0e5efb6a52254c6898e90ad0a2f3747dd722cac8023bb4"), looks := true }, kinds := [], alts := [], laidByText := true, laidKinds := [.data, .data, .data, .data], laidTests := true, laidLooks := .later }
def StepTellsCardSaid : Prop := Claim7.holds Tryz.pinned (.plain (OpenSpec.ofChange stepTellsSpec)) stepTellsCard

/-- THE TIED CARD OF 'charabanclaw15.StepRuns'. -/
def stepRunsCard : Claim7 := { stood := { row := stepRunsRow, standIns := [], harness := (true, "8ca50e1f35dee3bd3b0e5efb6a52254c6898e90ad0a2f3747dd722cac8023bb4"), looks := true }, kinds := [], alts := [], laidByText := true, laidKinds := [.data, .data, .data, .data], laidTests := true, laidLooks := .later }
def StepRunsCardSaid : Prop := Claim7.holds Tryz.pinned (.plain (OpenSpec.ofChange stepRunsSpec)) stepRunsCard

/-- THE TIED CARD OF 'charabanclaw15.StepParts'. -/
def stepPartsCard : Claim7 := { stood := { row := stepPartsRow, standIns := [], harness := (true, "8ca50e1f35dee3bd3b0e5efb6a52254c6898e90ad0a2f3747dd722cac8023bb4"), looks := true }, kinds := [], alts := [], laidByText := true, laidKinds := [.data, .data, .data, .data], laidTests := true, laidLooks := .later }
def StepPartsCardSaid : Prop := Claim7.holds Tryz.pinned (.plain (OpenSpec.ofChange stepPartsSpec)) stepPartsCard

/-- THE TIED CARD OF 'charabanclaw15.StepWrites'. -/
def stepWritesCard : Claim7 := { stood := { row := stepWritesRow, standIns := [], harness := (true, "8ca50e1f35dee3bd3b0e5efb6a52254c6898e90ad0a2f3747dd722cac8023bb4"), looks := true }, kinds := [], alts := [], laidByText := true, laidKinds := [.data, .data, .data, .data], laidTests := true, laidLooks := .later }
def StepWritesCardSaid : Prop := Claim7.holds Tryz.pinned (.plain (OpenSpec.ofChange stepWritesSpec)) stepWritesCard

/-- THE SECOND FORM's CARD OF 'charabanclaw15.StepTells'. -/
def stepTellsUptoCard : Claim7 := { stood := { row := stepTellsUptoRow, standIns := [], harness := (true, "8ca50e1f35dee3bd3b0e5efb6a52254c6898e90ad0a2f3747dd722cac8023bb4"), looks := true }, kinds := [], alts := [], laidByText := true, laidKinds := [.data, .data, .data, .data], laidTests := true, laidLooks := .later }
def StepTellsUptoCardSaid : Prop := Claim7.holds Tryz.pinned (.plain (OpenSpec.upto stepTellsSpec)) stepTellsUptoCard

/-- THE SECOND FORM's CARD OF 'charabanclaw15.StepRuns'. -/
def stepRunsUptoCard : Claim7 := { stood := { row := stepRunsUptoRow, standIns := [], harness := (true, "8ca50e1f35dee3bd3b0e5efb6a52254c6898e90ad0a2f3747dd722cac8023bb4"), looks := true }, kinds := [], alts := [], laidByText := true, laidKinds := [.data, .data, .data, .data], laidTests := true, laidLooks := .later }
def StepRunsUptoCardSaid : Prop := Claim7.holds Tryz.pinned (.plain (OpenSpec.upto stepRunsSpec)) stepRunsUptoCard

/-- THE SECOND FORM's CARD OF 'charabanclaw15.StepParts'. -/
def stepPartsUptoCard : Claim7 := { stood := { row := stepPartsUptoRow, standIns := [], harness := (true, "8ca50e1f35dee3bd3b0e5efb6a52254c6898e90ad0a2f3747dd722cac8023bb4"), looks := true }, kinds := [], alts := [], laidByText := true, laidKinds := [.data, .data, .data, .data], laidTests := true, laidLooks := .later }
def StepPartsUptoCardSaid : Prop := Claim7.holds Tryz.pinned (.plain (OpenSpec.upto stepPartsSpec)) stepPartsUptoCard

/-- THE SECOND FORM's CARD OF 'charabanclaw15.StepWrites'. -/
def stepWritesUptoCard : Claim7 := { stood := { row := stepWritesUptoRow, standIns := [], harness := (true, "8ca50e1f35dee3bd3b0e5efb6a52254c6898e90ad0a2f3747dd722cac8023bb4"), looks := true }, kinds := [], alts := [], laidByText := true, laidKinds := [.data, .data, .data, .data], laidTests := true, laidLooks := .later }
def StepWritesUptoCardSaid : Prop := Claim7.holds Tryz.pinned (.plain (OpenSpec.upto stepWritesSpec)) stepWritesUptoCard
end Rows
end Go.Proofs.YtkgaeamdhhceiaaGreatDoor
