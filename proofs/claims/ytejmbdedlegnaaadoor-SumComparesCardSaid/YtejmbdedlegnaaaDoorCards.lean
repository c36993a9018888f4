/-
  DERIVED. GIVEN WITH THE SEED: THE CARDS: each row of YtejmbdedlegnaaaDoorRows.lean that lists a variable, with what it lists TIED to the program's text (the seventh form; the later family's looks); each row that meets fmt, with fmt's text TOLD by the authors' own Lean function (tested against real Go, not proved from fmt's source: count such statements apart). THE CARD IS WHAT COUNTS. Prove the row's statement (the work); the ties are given (YtejmbdedlegnaaaDoorTie.lean); close each card by the builder's one call (the guide's Derived/Test/ToyasCard.lean, 'card_holds'). Laid BY PROGRAM, IN A SANDBOX (cutbox-door.mjs). By AI agents, Wed Nov 11 2026. No macro, syntax, notation, axiom, sorry.
-/
import Derived.Test.YtejmbdedlegnaaaDoorRows
import GoSem.ClaimSeven
namespace Go.Proofs.YtejmbdedlegnaaaDoor
namespace Rows

/-- THE TIED CARD OF 'charabanclaw03.SumCompares'. -/
def sumComparesCard : Claim7 := { stood := { row := sumComparesRow, standIns := [], harness := (true, "3ccb618ab57d9b95e6715bea110545e2f85ccd5fa55efd4d231ac8e0070cc38c"), looks := false }, kinds := [], alts := [], laidByText := true, laidKinds := [.data], laidTests := true, laidLooks := .later }
def SumComparesCardSaid : Prop := Claim7.holds Tryd.pinned (.plain (OpenSpec.ofChange sumComparesSpec)) sumComparesCard

/-- THE SECOND FORM's CARD OF 'charabanclaw03.SumCompares'. -/
def sumComparesUptoCard : Claim7 := { stood := { row := sumComparesUptoRow, standIns := [], harness := (true, "3ccb618ab57d9b95e6715bea110545e2f85ccd5fa55efd4d231ac8e0070cc38c"), looks := false }, kinds := [], alts := [], laidByText := true, laidKinds := [.data], laidTests := true, laidLooks := .later }
def SumComparesUptoCardSaid : Prop := Claim7.holds Tryd.pinned (.plain (OpenSpec.upto sumComparesSpec)) sumComparesUptoCard
end Rows
end Go.Proofs.YtejmbdedlegnaaaDoor
