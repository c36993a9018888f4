/-
  DERIVED. GIVEN WITH THE SEED: THE CARDS: each row of YtbhaojlikgdgjaaGreatDoorRows.lean that lists a variable, with what it lists TIED to the program's text (the seventh form; the later family's looks); each row that meets fmt, with fmt's text TOLD by the authors' own Lean function (tested against real Go, not proved from fmt's source: count such statements apart). THE CARD IS WHAT COUNTS. Prove the row's statement (the work); the ties are given (YtbhaojlikgdgjaaGreatDoorTie.lean); close each card by the builder's one call (the guide's Derived/Test/ToyasCard.lean, 'card_holds'). Laid BY PROGRAM, IN A SANDBOX (cutbox-door.mjs). By AI agents, Wed Nov 11 2026. No macro, syntax, notation, axiom, sorry.
-/
import Derived.Test.YtbhaojlikgdgjaaGreatDoorRows
import GoSem.ClaimSeven
namespace Go.Proofs.YtbhaojlikgdgjaaGreatDoor
namespace Rows

/-- THE TIED CARD OF 'charabanclaw16.TraceGoes'. -/
def traceGoesCard : Claim7 := { stood := { row := traceGoesRow, standIns := [], harness := (true, "67e08fce75b7764fc83f12e28ec185c9ed40f143dcf6d24dc33f30ae64589df2"), looks := true }, kinds := [], alts := [], laidByText := true, laidKinds := [.data, .data, .data, .data, .data, .data, .data, .data, .data, .data, .data, .data, .data, .data, .data, .data, .data, .data, .data, .data, .data, .data, .data, .data, .data, .data, .data], laidTests := true, laidLooks := .later }
def TraceGoesCardSaid : Prop := Claim7.holds Tryz.pinned (.plain (OpenSpec.ofChange traceGoesSpec)) traceGoesCard

/-- THE SECOND FORM's CARD OF 'charabanclaw16.TraceGoes'. -/
def traceGoesUptoCard : Claim7 := { stood := { row := traceGoesUptoRow, standIns := [], harness := (true, "67e08fce75b7764fc83f12e28ec185c9ed40f143dcf6d24dc33f30ae64589df2"), looks := true }, kinds := [], alts := [], laidByText := true, laidKinds := [.data, .data, .data, .data, .data, .data, .data, .data, .data, .data, .data, .data, .data, .data, .data, .data, .data, .data, .data, .data, .data, .data, .data, .data, .data, .data, .data], laidTests := true, laidLooks := .later }
def TraceGoesUptoCardSaid : Prop := Claim7.holds Tryz.pinned (.plain (OpenSpec.upto traceGoesSpec)) traceGoesUptoCard
end Rows
end Go.Proofs.YtbhaojlikgdgjaaGreatDoor
