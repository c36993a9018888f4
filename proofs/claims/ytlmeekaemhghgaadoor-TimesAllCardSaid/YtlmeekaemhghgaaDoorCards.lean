/-
  DERIVED. GIVEN WITH THE SEED: THE CARDS: each row of YtlmeekaemhghgaaDoorRows.lean that lists a variable, with what it lists TIED to the program's text (the seventh form; the later family's looks); each row that meets fmt, with fmt's text TOLD by the authors' own Lean function (tested against real Go, not proved from fmt's source: count such statements apart). THE CARD IS WHAT COUNTS. Prove the row's statement (the work); the ties are given (YtlmeekaemhghgaaDoorTie.lean); close each card by the builder's one call (the guide's Derived/Test/ToyasCard.lean, 'card_holds'). Laid BY PROGRAM, IN A SANDBOX (cutbox-door.mjs). By AI agents, Wed Nov 11 2026. No macro, syntax, notation, axiom, sorry.
-/
import Derived.Test.YtlmeekaemhghgaaDoorRows
import GoSem.ClaimSeven
namespace Go.Proofs.YtlmeekaemhghgaaDoor
namespace Rows

/-- THE TIED CARD OF 'charabanclaw10.TimesOf'. -/
def timesOfCard : Claim7 := { stood := { row := timesOfRow, standIns := [], harness := (true, "5807e4eb7a5b25cefe4b96da9aff810b9edaa417fce66418b3e347698feabbe2"), looks := false }, kinds := [], alts := [], laidByText := true, laidKinds := [.data, .data, .data, .data], laidTests := true, laidLooks := .later }
def TimesOfCardSaid : Prop := Claim7.holds Tryd.pinned (.plain (OpenSpec.ofChange timesOfSpec)) timesOfCard

/-- THE TIED CARD OF 'charabanclaw10.TimesAll'. -/
def timesAllCard : Claim7 := { stood := { row := timesAllRow, standIns := [], harness := (true, "5807e4eb7a5b25cefe4b96da9aff810b9edaa417fce66418b3e347698feabbe2"), looks := false }, kinds := [], alts := [], laidByText := true, laidKinds := [.data, .data, .data, .data], laidTests := true, laidLooks := .later }
def TimesAllCardSaid : Prop := Claim7.holds Tryd.pinned (.plain (OpenSpec.ofChange timesAllSpec)) timesAllCard

/-- THE TIED CARD OF 'charabanclaw10.TimesBounds'. -/
def timesBoundsCard : Claim7 := { stood := { row := timesBoundsRow, standIns := [], harness := (true, "5807e4eb7a5b25cefe4b96da9aff810b9edaa417fce66418b3e347698feabbe2"), looks := false }, kinds := [], alts := [], laidByText := true, laidKinds := [.data, .data, .data, .data], laidTests := true, laidLooks := .later }
def TimesBoundsCardSaid : Prop := Claim7.holds Tryd.pinned (.plain (OpenSpec.ofChange timesBoundsSpec)) timesBoundsCard

/-- THE TIED CARD OF 'charabanclaw10.TimesPlanes'. -/
def timesPlanesCard : Claim7 := { stood := { row := timesPlanesRow, standIns := [], harness := (true, "5807e4eb7a5b25cefe4b96da9aff810b9edaa417fce66418b3e347698feabbe2"), looks := false }, kinds := [], alts := [], laidByText := true, laidKinds := [.data, .data, .data, .data], laidTests := true, laidLooks := .later }
def TimesPlanesCardSaid : Prop := Claim7.holds Tryd.pinned (.plain (OpenSpec.ofChange timesPlanesSpec)) timesPlanesCard

/-- THE TIED CARD OF 'charabanclaw10.TimesParts'. -/
def timesPartsCard : Claim7 := { stood := { row := timesPartsRow, standIns := [], harness := (true, "5807e4eb7a5b25cefe4b96da9aff810b9edaa417fce66418b3e347698feabbe2"), looks := false }, kinds := [], alts := [], laidByText := true, laidKinds := [.data, .data, .data, .data], laidTests := true, laidLooks := .later }
def TimesPartsCardSaid : Prop := Claim7.holds Tryd.pinned (.plain (OpenSpec.ofChange timesPartsSpec)) timesPartsCard

/-- THE SECOND FORM's CARD OF 'charabanclaw10.TimesOf'. -/
def timesOfUptoCard : Claim7 := { stood := { row := timesOfUptoRow, standIns := [], harness := (true, "5807e4eb7a5b25cefe4b96da9aff810b9edaa417fce66418b3e347698feabbe2"), looks := false }, kinds := [], alts := [], laidByText := true, laidKinds := [.data, .data, .data, .data], laidTests := true, laidLooks := .later }
def TimesOfUptoCardSaid : Prop := Claim7.holds Tryd.pinned (.plain (OpenSpec.upto timesOfSpec)) timesOfUptoCard

/-- THE SECOND FORM's CARD OF 'charabanclaw10.TimesAll'. -/
def timesAllUptoCard : Claim7 := { stood := { row := timesAllUptoRow, standIns := [], harness := (true, "5807e4eb7a5b25cefe4b96da9aff810b9edaa417fce66418b3e347698feabbe2"), looks := false }, kinds := [], alts := [], laidByText := true, laidKinds := [.data, .data, .data, .data], laidTests := true, laidLooks := .later }
def TimesAllUptoCardSaid : Prop := Claim7.holds Tryd.pinned (.plain (OpenSpec.upto timesAllSpec)) timesAllUptoCard

/-- THE SECOND FORM's CARD OF 'charabanclaw10.TimesBounds'. -/
def timesBoundsUptoCard : Claim7 := { stood := { row := timesBoundsUptoRow, standIns := [], harness := (true, "5807e4eb7a5b25cefe4b96da9aff810b9edaa417fce66418b3e347698feabbe2"), looks := false }, kinds := [], alts := [], laidByText := true, laidKinds := [.data, .data, .data, .data], laidTests := true, laidLooks := .later }
def TimesBoundsUptoCardSaid : Prop := Claim7.holds Tryd.pinned (.plain (OpenSpec.upto timesBoundsSpec)) timesBoundsUptoCard

/-- THE SECOND FORM's CARD OF 'charabanclaw10.TimesPlanes'. -/
def timesPlanesUptoCard : Claim7 := { stood := { row := timesPlanesUptoRow, standIns := [], harness := (true, "5807e4eb7a5b25cefe4b96da9aff810b9edaa417fce66418b3e347698feabbe2"), looks := false }, kinds := [], alts := [], laidByText := true, laidKinds := [.data, .data, .data, .data], laidTests := true, laidLooks := .later }
def TimesPlanesUptoCardSaid : Prop := Claim7.holds Tryd.pinned (.plain (OpenSpec.upto timesPlanesSpec)) timesPlanesUptoCard

/-- THE SECOND FORM's CARD OF 'charabanclaw10.TimesParts'. -/
def timesPartsUptoCard : Claim7 := { stood := { row := timesPartsUptoRow, standIns := [], harness := (true, "5807e4eb7a5b25cefe4b96da9aff810b9edaa417fce66418b3e347698feabbe2"), looks := false }, kinds := [], alts := [], laidByText := true, laidKinds := [.data, .data, .data, .data], laidTests := true, laidLooks := .later }
def TimesPartsUptoCardSaid : Prop := Claim7.holds Tryd.pinned (.plain (OpenSpec.upto timesPartsSpec)) timesPartsUptoCard
end Rows
end Go.Proofs.YtlmeekaemhghgaaDoor
