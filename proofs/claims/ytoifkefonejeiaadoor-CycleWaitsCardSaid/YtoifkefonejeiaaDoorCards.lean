/-
  DERIVED. GIVEN WITH THE SEED: THE CARDS: each row of YtoifkefonejeiaaDoorRows.lean that lists a variable, with what it lists TIED to the program's text (the seventh form; the later family's looks); each row that meets fmt, with fmt's text TOLD by the authors' own Lean function (tested against real Go, not proved from fmt's source: count such statements apart). THE CARD IS WHAT COUNTS. Prove the row's statement (the work); the ties are given (YtoifkefonejeiaaDoorTie.lean); close each card by the builder's one call (the guide's Derived/Test/ToyasCard.lean, 'card_holds'). Laid BY PROGRAM, IN A SANDBOX (cutbox-door.mjs). By AI agents, Wed Nov 11 2026. No macro, syntax, notation, axiom, sorry.
-/
import Derived.Test.YtoifkefonejeiaaDoorRows
import GoSem.ClaimSeven
namespace Go.Proofs.YtoifkefonejeiaaDoor
namespace Rows

/-- THE TIED CARD OF 'charabanclaw17.CycleTicks'. -/
def cycleTicksCard : Claim7 := { stood := { row := cycleTicksRow, standIns := [], harness := (true, "1d2a66fba97af22d487d47ca7ce83eaf387ebe64f42a4353424300563e7aa627"), looks := false }, kinds := [], alts := [], laidByText := true, laidKinds := [.data, .data, .data, .data], laidTests := true, laidLooks := .later }
def CycleTicksCardSaid : Prop := Claim7.holds Tryd.pinned (.plain (OpenSpec.ofChange cycleTicksSpec)) cycleTicksCard

/-- THE TIED CARD OF 'charabanclaw17.CycleTakes'. -/
def cycleTakesCard : Claim7 := { stood := { row := cycleTakesRow, standIns := [], harness := (true, "1d2a66fba97af22d487d47ca7ce83eaf387ebe64f42a4353424300563e7aa627"), looks := false }, kinds := [], alts := [], laidByText := true, laidKinds := [.data, .data, .data, .data], laidTests := true, laidLooks := .later }
def CycleTakesCardSaid : Prop := Claim7.holds Tryd.pinned (.plain (OpenSpec.ofChange cycleTakesSpec)) cycleTakesCard

/-- THE TIED CARD OF 'charabanclaw17.CycleWaits'. -/
def cycleWaitsCard : Claim7 := { stood := { row := cycleWaitsRow, standIns := [], harness := (true, "1d2a66fba97af22d487d47ca7ce83eaf387ebe64f42a4353424300563e7aa627"), looks := false }, kinds := [], alts := [], laidByText := true, laidKinds := [.data, .data, .data, .data], laidTests := true, laidLooks := .later }
def CycleWaitsCardSaid : Prop := Claim7.holds Tryd.pinned (.plain (OpenSpec.ofChange cycleWaitsSpec)) cycleWaitsCard

/-- THE SECOND FORM's CARD OF 'charabanclaw17.CycleTicks'. -/
def cycleTicksUptoCard : Claim7 := { stood := { row := cycleTicksUptoRow, standIns := [], harness := (true, "1d2a66fba97af22d487d47ca7ce83eaf387ebe64f42a4353424300563e7aa627"), looks := false }, kinds := [], alts := [], laidByText := true, laidKinds := [.data, .data, .data, .data], laidTests := true, laidLooks := .later }
def CycleTicksUptoCardSaid : Prop := Claim7.holds Tryd.pinned (.plain (OpenSpec.upto cycleTicksSpec)) cycleTicksUptoCard

/-- THE SECOND FORM's CARD OF 'charabanclaw17.CycleTakes'. -/
def cycleTakesUptoCard : Claim7 := { stood := { row := cycleTakesUptoRow, standIns := [], harness := (true, "1d2a66fba97af22d487d47ca7ce83eaf387ebe64f42a4353424300563e7aa627"), looks := false }, kinds := [], alts := [], laidByText := true, laidKinds := [.data, .data, .data, .data], laidTests := true, laidLooks := .later }
def CycleTakesUptoCardSaid : Prop := Claim7.holds Tryd.pinned (.plain (OpenSpec.upto cycleTakesSpec)) cycleTakesUptoCard

/-- THE SECOND FORM's CARD OF 'charabanclaw17.CycleWaits'. -/
def cycleWaitsUptoCard : Claim7 := { stood := { row := cycleWaitsUptoRow, standIns := [], harness := (true, "1d2a66fba97af22d487d47ca7ce83eaf387ebe64f42a4353424300563e7aa627"), looks := false }, kinds := [], alts := [], laidByText := true, laidKinds := [.data, .data, .data, .data], laidTests := true, laidLooks := .later }
def CycleWaitsUptoCardSaid : Prop := Claim7.holds Tryd.pinned (.plain (OpenSpec.upto cycleWaitsSpec)) cycleWaitsUptoCard
end Rows
end Go.Proofs.YtoifkefonejeiaaDoor
