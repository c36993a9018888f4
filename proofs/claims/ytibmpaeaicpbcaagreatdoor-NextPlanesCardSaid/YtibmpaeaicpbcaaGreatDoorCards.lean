/-
  DERIVED. GIVEN WITH THE SEED: THE CARDS: each row of YtibmpaeaicpbcaaGreatDoorRows.lean that lists a variable, with what it lists TIED to the program's text (the seventh form; the later family's looks); each row that meets fmt, with fmt's text TOLD by the authors' own Lean function (tested against real Go, not proved from fmt's source: count such statements apart). THE CARD IS WHAT COUNTS. Prove the row's statement (the work); the ties are given (YtibmpaeaicpbcaaGreatDoorTie.lean); close each card by the builder's one call (the guide's Derived/Test/ToyasCard.lean, 'card_holds'). Laid BY PROGRAM, IN A SANDBOX (cutbox-door.mjs). By AI agents, Wed Nov 11 2026. No macro, syntax, notation, axiom, sorry.
-/
import Derived.Test.YtibmpaeaicpbcaaGreatDoorRows
import GoSem.ClaimSeven
namespace Go.Proofs.YtibmpaeaicpbcaaGreatDoor
namespace Rows

/-- THE TIED CARD OF 'charabanclaw12.NextAsks'. -/
def nextAsksCard : Claim7 := { stood := { row := nextAsksRow, standIns := [], harness := (true, "29493549432773ae8e58e768a4077f6210b426e5ee4b915a71d8f8878f430310"), looks := true }, kinds := [], alts := [], laidByText := true, laidKinds := [.data, .data, .data, .data], laidTests := true, laidLooks := .later }
def NextAsksCardSaid : Prop := Claim7.holds Tryz.pinned (.plain (OpenSpec.ofChange nextAsksSpec)) nextAsksCard

/-- THE TIED CARD OF 'charabanclaw12.NextAfter'. -/
def nextAfterCard : Claim7 := { stood := { row := nextAfterRow, standIns := [], harness := (true, "29493549432773ae8e58e768a4077f6210b426e5ee4b915a71d8f8878f430310"), looks := true }, kinds := [], alts := [], laidByText := true, laidKinds := [.data, .data, .data, .data], laidTests := true, laidLooks := .later }
def NextAfterCardSaid : Prop := Claim7.holds Tryz.pinned (.plain (OpenSpec.ofChange nextAfterSpec)) nextAfterCard

/-- THE TIED CARD OF 'charabanclaw12.NextPlanes'. -/
def nextPlanesCard : Claim7 := { stood := { row := nextPlanesRow, standIns := [], harness := (true, "29493549432773ae8e58e768a4077f6210b426e5ee4b915a71d8f8878f430310"), looks := true }, kinds := [], alts := [], laidByText := true, laidKinds := [.data, .data, .data, .data], laidTests := true, laidLooks := .later }
def NextPlanesCardSaid : Prop := Claim7.holds Tryz.pinned (.plain (OpenSpec.ofChange nextPlanesSpec)) nextPlanesCard

/-- THE TIED CARD OF 'charabanclaw12.NextTakes'. -/
def nextTakesCard : Claim7 := { stood := { row := nextTakesRow, standIns := [], harness := (true, "29493549432773ae8e58e768a4077f6210b426e5ee4b915a71d8f8878f430310"), looks := true }, kinds := [], alts := [], laidByText := true, laidKinds := [.data, .data, .data, .data], laidTests := true, laidLooks := .later }
def NextTakesCardSaid : Prop := Claim7.holds Tryz.pinned (.plain (OpenSpec.ofChange nextTakesSpec)) nextTakesCard

/-- THE TIED CARD OF 'charabanclaw12.NextTimes'. -/
def nextTimesCard : Claim7 := { stood := { row := nextTimesRow, standIns := [], harness := (true, "29493549432773ae8e58e768a4077f6210b426e5ee4b915a71d8f8878f430310"), looks := true }, kinds := [], alts := [], laidByText := true, laidKinds := [.data, .data, .data, .data], laidTests := true, laidLooks := .later }
def NextTimesCardSaid : Prop := Claim7.holds Tryz.pinned (.plain (OpenSpec.ofChange nextTimesSpec)) nextTimesCard

/-- THE TIED CARD OF 'charabanclaw12.NextEnds'. -/
def nextEndsCard : Claim7 := { stood := { row := nextEndsRow, standIns := [], harness := (true, "29493549432773ae8e58e768a4077f6210b426e5ee4b915a71d8f8878f430310"), looks := true }, kinds := [], alts := [], laidByText := true, laidKinds := [.data, .data, .data, .data], laidTests := true, laidLooks := .later }
def NextEndsCardSaid : Prop := Claim7.holds Tryz.pinned (.plain (OpenSpec.ofChange nextEndsSpec)) nextEndsCard

/-- THE TIED CARD OF 'charabanclaw12.NextHalted'. -/
def nextHaltedCard : Claim7 := { stood := { row := nextHaltedRow, standIns := [], harness := (true, "29493549432773ae8e58e768a4077f6210b426e5ee4b915a71d8f8878f430310"), looks := true }, kinds := [], alts := [], laidByText := true, laidKinds := [.data, .data, .data, .data], laidTests := true, laidLooks := .later }
def NextHaltedCardSaid : Prop := Claim7.holds Tryz.pinned (.plain (OpenSpec.ofChange nextHaltedSpec)) nextHaltedCard

/-- THE TIED CARD OF 'charabanclaw12.NextPlain'. -/
def nextPlainCard : Claim7 := { stood := { row := nextPlainRow, standIns := [], harness := (true, "29493549432773ae8e58e768a4077f6210b426e5ee4b915a71d8f8878f430310"), looks := true }, kinds := [], alts := [], laidByText := true, laidKinds := [.data, .data, .data, .data], laidTests := true, laidLooks := .later }
def NextPlainCardSaid : Prop := Claim7.holds Tryz.pinned (.plain (OpenSpec.ofChange nextPlainSpec)) nextPlainCard

/-- THE SECOND FORM's CARD OF 'charabanclaw12.NextAsks'. -/
def nextAsksUptoCard : Claim7 := { stood := { row := nextAsksUptoRow, standIns := [], harness := (true, "29493549432773ae8e58e768a4077f6210b426e5ee4b915a71d8f8878f430310"), looks := true }, kinds := [], alts := [], laidByText := true, laidKinds := [.data, .data, .data, .data], laidTests := true, laidLooks := .later }
def NextAsksUptoCardSaid : Prop := Claim7.holds Tryz.pinned (.plain (OpenSpec.upto nextAsksSpec)) nextAsksUptoCard

/-- THE SECOND FORM's CARD OF 'charabanclaw12.NextAfter'. -/
def nextAfterUptoCard : Claim7 := { stood := { row := nextAfterUptoRow, standIns := [], harness := (true, "29493549432773ae8e58e768a4077f6210b426e5ee4b915a71d8f8878f430310"), looks := true }, kinds := [], alts := [], laidByText := true, laidKinds := [.data, .data, .data, .data], laidTests := true, laidLooks := .later }
def NextAfterUptoCardSaid : Prop := Claim7.holds Tryz.pinned (.plain (OpenSpec.upto nextAfterSpec)) nextAfterUptoCard

/-- THE SECOND FORM's CARD OF 'charabanclaw12.NextPlanes'. -/
def nextPlanesUptoCard : Claim7 := { stood := { row := nextPlanesUptoRow, standIns := [], harness := (true, "29493549432773ae8e58e768a4077f6210b426e5ee4b915a71d8f8878f430310"), looks := true }, kinds := [], alts := [], laidByText := true, laidKinds := [.data, .data, .data, .data], laidTests := true, laidLooks := .later }
def NextPlanesUptoCardSaid : Prop := Claim7.holds Tryz.pinned (.plain (OpenSpec.upto nextPlanesSpec)) nextPlanesUptoCard

/-- THE SECOND FORM's CARD OF 'charabanclaw12.NextTakes'. -/
def nextTakesUptoCard : Claim7 := { stood := { row := nextTakesUptoRow, standIns := [], harness := (true, "29493549432773ae8e58e768a4077f6210b426e5ee4b915a71d8f8878f430310"), looks := true }, kinds := [], alts := [], laidByText := true, laidKinds := [.data, .data, .data, .data], laidTests := true, laidLooks := .later }
def NextTakesUptoCardSaid : Prop := Claim7.holds Tryz.pinned (.plain (OpenSpec.upto nextTakesSpec)) nextTakesUptoCard

/-- THE SECOND FORM's CARD OF 'charabanclaw12.NextTimes'. -/
def nextTimesUptoCard : Claim7 := { stood := { row := nextTimesUptoRow, standIns := [], harness := (true, "29493549432773ae8e58e768a4077f6210b426e5ee4b915a71d8f8878f430310"), looks := true }, kinds := [], alts := [], laidByText := true, laidKinds := [.data, .data, .data, .data], laidTests := true, laidLooks := .later }
def NextTimesUptoCardSaid : Prop := Claim7.holds Tryz.pinned (.plain (OpenSpec.upto nextTimesSpec)) nextTimesUptoCard

/-- THE SECOND FORM's CARD OF 'charabanclaw12.NextEnds'. -/
def nextEndsUptoCard : Claim7 := { stood := { row := nextEndsUptoRow, standIns := [], harness := (true, "29493549432773ae8e58e768a4077f6210b426e5ee4b915a71d8f8878f430310"), looks := true }, kinds := [], alts := [], laidByText := true, laidKinds := [.data, .data, .data, .data], laidTests := true, laidLooks := .later }
def NextEndsUptoCardSaid : Prop := Claim7.holds Tryz.pinned (.plain (OpenSpec.upto nextEndsSpec)) nextEndsUptoCard

/-- THE SECOND FORM's CARD OF 'charabanclaw12.NextHalted'. -/
def nextHaltedUptoCard : Claim7 := { stood := { row := nextHaltedUptoRow, standIns := [], harness := (true, "29493549432773ae8e58e768a4077f6210b426e5ee4b915a71d8f8878f430310"), looks := true }, kinds := [], alts := [], laidByText := true, laidKinds := [.data, .data, .data, .data], laidTests := true, laidLooks := .later }
def NextHaltedUptoCardSaid : Prop := Claim7.holds Tryz.pinned (.plain (OpenSpec.upto nextHaltedSpec)) nextHaltedUptoCard

/-- THE SECOND FORM's CARD OF 'charabanclaw12.NextPlain'. -/
def nextPlainUptoCard : Claim7 := { stood := { row := nextPlainUptoRow, standIns := [], harness := (true, "29493549432773ae8e58e768a4077f6210b426e5ee4b915a71d8f8878f430310"), looks := true }, kinds := [], alts := [], laidByText := true, laidKinds := [.data, .data, .data, .data], laidTests := true, laidLooks := .later }
def NextPlainUptoCardSaid : Prop := Claim7.holds Tryz.pinned (.plain (OpenSpec.upto nextPlainSpec)) nextPlainUptoCard
end Rows
end Go.Proofs.YtibmpaeaicpbcaaGreatDoor
