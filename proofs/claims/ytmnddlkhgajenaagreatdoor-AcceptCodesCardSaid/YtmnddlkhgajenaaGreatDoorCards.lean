/-
  DERIVED. GIVEN WITH THE SEED: THE CARDS: each row of YtmnddlkhgajenaaGreatDoorRows.lean that lists a variable, with what it lists TIED to the program's text (the seventh form; the later family's looks); each row that meets fmt, with fmt's text TOLD by the authors' own Lean function (tested against real Go, not proved from fmt's source: count such statements apart). THE CARD IS WHAT COUNTS. Prove the row's statement (the work); the ties are given (YtmnddlkhgajenaaGreatDoorTie.lean); close each card by the builder's one call (the guide's Derived/Test/ToyasCard.lean, 'card_holds'). Laid BY PROGRAM, IN A SANDBOX (cutbox-door.mjs). By AI agents, Wed Nov 11 2026. No macro, syntax, notation, axiom, sorry.
-/
import Derived.Test.YtmnddlkhgajenaaGreatDoorRows
import GoSem.ClaimSeven
namespace Go.Proofs.YtmnddlkhgajenaaGreatDoor
namespace Rows

/-- THE TIED CARD OF 'charabanclaw13.AcceptTells'. -/
def acceptTellsCard : Claim7 := { stood := { row := acceptTellsRow, standIns := [], harness := (true, "d772f333fb198e23980f9f87ddf5aa93005005d568f15861f10801887ada77bf"), looks := true }, kinds := [], alts := [], laidByText := true, laidKinds := [.data, .data, .data, .data], laidTests := true, laidLooks := .later }
def AcceptTellsCardSaid : Prop := Claim7.holds Tryz.pinned (.plain (OpenSpec.ofChange acceptTellsSpec)) acceptTellsCard

/-- THE TIED CARD OF 'charabanclaw13.AcceptTakes'. -/
def acceptTakesCard : Claim7 := { stood := { row := acceptTakesRow, standIns := [], harness := (true, "d772f333fb198e23980f9f87ddf5aa93005005d568f15861f10801887ada77bf"), looks := true }, kinds := [], alts := [], laidByText := true, laidKinds := [.data, .data, .data, .data], laidTests := true, laidLooks := .later }
def AcceptTakesCardSaid : Prop := Claim7.holds Tryz.pinned (.plain (OpenSpec.ofChange acceptTakesSpec)) acceptTakesCard

/-- THE TIED CARD OF 'charabanclaw13.AcceptCodes'. -/
def acceptCodesCard : Claim7 := { stood := { row := acceptCodesRow, standIns := [], harness := (true, "d772f333fb198e23980f9f87ddf5aa93005005d568f15861f10801887ada77bf"), looks := true }, kinds := [], alts := [], laidByText := true, laidKinds := [.data, .data, .data, .data], laidTests := true, laidLooks := .later }
def AcceptCodesCardSaid : Prop := Claim7.holds Tryz.pinned (.plain (OpenSpec.ofChange acceptCodesSpec)) acceptCodesCard

/-- THE TIED CARD OF 'charabanclaw13.AcceptShuts'. -/
def acceptShutsCard : Claim7 := { stood := { row := acceptShutsRow, standIns := [], harness := (true, "d772f333fb198e23980f9f87ddf5aa93005005d568f15861f10801887ada77bf"), looks := true }, kinds := [], alts := [], laidByText := true, laidKinds := [.data, .data, .data, .data], laidTests := true, laidLooks := .later }
def AcceptShutsCardSaid : Prop := Claim7.holds Tryz.pinned (.plain (OpenSpec.ofChange acceptShutsSpec)) acceptShutsCard

/-- THE TIED CARD OF 'charabanclaw13.AcceptNone'. -/
def acceptNoneCard : Claim7 := { stood := { row := acceptNoneRow, standIns := [], harness := (true, "d772f333fb198e23980f9f87ddf5aa93005005d568f15861f10801887ada77bf"), looks := true }, kinds := [], alts := [], laidByText := true, laidKinds := [.data, .data, .data, .data], laidTests := true, laidLooks := .later }
def AcceptNoneCardSaid : Prop := Claim7.holds Tryz.pinned (.plain (OpenSpec.ofChange acceptNoneSpec)) acceptNoneCard

/-- THE SECOND FORM's CARD OF 'charabanclaw13.AcceptTells'. -/
def acceptTellsUptoCard : Claim7 := { stood := { row := acceptTellsUptoRow, standIns := [], harness := (true, "d772f333fb198e23980f9f87ddf5aa93005005d568f15861f10801887ada77bf"), looks := true }, kinds := [], alts := [], laidByText := true, laidKinds := [.data, .data, .data, .data], laidTests := true, laidLooks := .later }
def AcceptTellsUptoCardSaid : Prop := Claim7.holds Tryz.pinned (.plain (OpenSpec.upto acceptTellsSpec)) acceptTellsUptoCard

/-- THE SECOND FORM's CARD OF 'charabanclaw13.AcceptTakes'. -/
def acceptTakesUptoCard : Claim7 := { stood := { row := acceptTakesUptoRow, standIns := [], harness := (true, "d772f333fb198e23980f9f87ddf5aa93005005d568f15861f10801887ada77bf"), looks := true }, kinds := [], alts := [], laidByText := true, laidKinds := [.data, .data, .data, .data], laidTests := true, laidLooks := .later }
def AcceptTakesUptoCardSaid : Prop := Claim7.holds Tryz.pinned (.plain (OpenSpec.upto acceptTakesSpec)) acceptTakesUptoCard

/-- THE SECOND FORM's CARD OF 'charabanclaw13.AcceptCodes'. -/
def acceptCodesUptoCard : Claim7 := { stood := { row := acceptCodesUptoRow, standIns := [], harness := (true, "d772f333fb198e23980f9f87ddf5aa93005005d568f15861f10801887ada77bf"), looks := true }, kinds := [], alts := [], laidByText := true, laidKinds := [.data, .data, .data, .data], laidTests := true, laidLooks := .later }
def AcceptCodesUptoCardSaid : Prop := Claim7.holds Tryz.pinned (.plain (OpenSpec.upto acceptCodesSpec)) acceptCodesUptoCard

/-- THE SECOND FORM's CARD OF 'charabanclaw13.AcceptShuts'. -/
def acceptShutsUptoCard : Claim7 := { stood := { row := acceptShutsUptoRow, standIns := [], harness := (true, "d772f333fb198e23980f9f87ddf5aa93005005d568f15861f10801887ada77bf"), looks := true }, kinds := [], alts := [], laidByText := true, laidKinds := [.data, .data, .data, .data], laidTests := true, laidLooks := .later }
def AcceptShutsUptoCardSaid : Prop := Claim7.holds Tryz.pinned (.plain (OpenSpec.upto acceptShutsSpec)) acceptShutsUptoCard

/-- THE SECOND FORM's CARD OF 'charabanclaw13.AcceptNone'. -/
def acceptNoneUptoCard : Claim7 := { stood := { row := acceptNoneUptoRow, standIns := [], harness := (true, "d772f333fb198e23980f9f87ddf5aa93005005d568f15861f10801887ada77bf"), looks := true }, kinds := [], alts := [], laidByText := true, laidKinds := [.data, .data, .data, .data], laidTests := true, laidLooks := .later }
def AcceptNoneUptoCardSaid : Prop := Claim7.holds Tryz.pinned (.plain (OpenSpec.upto acceptNoneSpec)) acceptNoneUptoCard
end Rows
end Go.Proofs.YtmnddlkhgajenaaGreatDoor
