/-
  DERIVED. GIVEN WITH THE SEED: THE CARDS: each row of YtlhbmpnelccofaaDoorRows.lean that lists a variable, with what it lists TIED to the program's text (the seventh form; the later family's looks); each row that meets fmt, with fmt's text TOLD by the authors' own Lean function (tested against real Go, not proved from fmt's source: count such statements apart). THE CARD IS WHAT COUNTS. Prove the row's statement (the work); the ties are given (YtlhbmpnelccofaaDoorTie.lean); close each card by the builder's one call (the guide's Derived/Test/ToyasCard.lean, 'card_holds'). Laid BY PROGRAM, IN A SANDBOX (cutbox-door.mjs). By AI agents, Wed Nov 11 2026. No macro, syntax, notation, axiom, sorry.
-/
import Derived.Test.YtlhbmpnelccofaaDoorRows
import GoSem.ClaimSeven
namespace Go.Proofs.YtlhbmpnelccofaaDoor
namespace Rows

/-- THE TIED CARD OF 'charabanclaw06.ShiftDoes'. -/
def shiftDoesCard : Claim7 := { stood := { row := shiftDoesRow, standIns := [], harness := (true, "d21da66e4f50abd98c6ee5aa882dca6e915d882ce55a3c8381fdc27b1a72a1eb"), looks := false }, kinds := [], alts := [], laidByText := true, laidKinds := [.data], laidTests := true, laidLooks := .later }
def ShiftDoesCardSaid : Prop := Claim7.holds Tryd.pinned (.plain (OpenSpec.ofChange shiftDoesSpec)) shiftDoesCard

/-- THE TIED CARD OF 'charabanclaw06.ShiftDigits'. -/
def shiftDigitsCard : Claim7 := { stood := { row := shiftDigitsRow, standIns := [], harness := (true, "d21da66e4f50abd98c6ee5aa882dca6e915d882ce55a3c8381fdc27b1a72a1eb"), looks := false }, kinds := [], alts := [], laidByText := true, laidKinds := [.data], laidTests := true, laidLooks := .later }
def ShiftDigitsCardSaid : Prop := Claim7.holds Tryd.pinned (.plain (OpenSpec.ofChange shiftDigitsSpec)) shiftDigitsCard

/-- THE TIED CARD OF 'charabanclaw06.ShiftBack'. -/
def shiftBackCard : Claim7 := { stood := { row := shiftBackRow, standIns := [], harness := (true, "d21da66e4f50abd98c6ee5aa882dca6e915d882ce55a3c8381fdc27b1a72a1eb"), looks := false }, kinds := [], alts := [], laidByText := true, laidKinds := [.data], laidTests := true, laidLooks := .later }
def ShiftBackCardSaid : Prop := Claim7.holds Tryd.pinned (.plain (OpenSpec.ofChange shiftBackSpec)) shiftBackCard

/-- THE TIED CARD OF 'charabanclaw06.ShiftRound'. -/
def shiftRoundCard : Claim7 := { stood := { row := shiftRoundRow, standIns := [], harness := (true, "d21da66e4f50abd98c6ee5aa882dca6e915d882ce55a3c8381fdc27b1a72a1eb"), looks := false }, kinds := [], alts := [], laidByText := true, laidKinds := [.data], laidTests := true, laidLooks := .later }
def ShiftRoundCardSaid : Prop := Claim7.holds Tryd.pinned (.plain (OpenSpec.ofChange shiftRoundSpec)) shiftRoundCard

/-- THE SECOND FORM's CARD OF 'charabanclaw06.ShiftDoes'. -/
def shiftDoesUptoCard : Claim7 := { stood := { row := shiftDoesUptoRow, standIns := [], harness := (true, "d21da66e4f50abd98c6ee5aa882dca6e915d882ce55a3c8381fdc27b1a72a1eb"), looks := false }, kinds := [], alts := [], laidByText := true, laidKinds := [.data], laidTests := true, laidLooks := .later }
def ShiftDoesUptoCardSaid : Prop := Claim7.holds Tryd.pinned (.plain (OpenSpec.upto shiftDoesSpec)) shiftDoesUptoCard

/-- THE SECOND FORM's CARD OF 'charabanclaw06.ShiftDigits'. -/
def shiftDigitsUptoCard : Claim7 := { stood := { row := shiftDigitsUptoRow, standIns := [], harness := (true, "d21da66e4f50abd98c6ee5aa882dca6e915d882ce55a3c8381fdc27b1a72a1eb"), looks := false }, kinds := [], alts := [], laidByText := true, laidKinds := [.data], laidTests := true, laidLooks := .later }
def ShiftDigitsUptoCardSaid : Prop := Claim7.holds Tryd.pinned (.plain (OpenSpec.upto shiftDigitsSpec)) shiftDigitsUptoCard

/-- THE SECOND FORM's CARD OF 'charabanclaw06.ShiftBack'. -/
def shiftBackUptoCard : Claim7 := { stood := { row := shiftBackUptoRow, standIns := [], harness := (true, "d21da66e4f50abd98c6ee5aa882dca6e915d882ce55a3c8381fdc27b1a72a1eb"), looks := false }, kinds := [], alts := [], laidByText := true, laidKinds := [.data], laidTests := true, laidLooks := .later }
def ShiftBackUptoCardSaid : Prop := Claim7.holds Tryd.pinned (.plain (OpenSpec.upto shiftBackSpec)) shiftBackUptoCard

/-- THE SECOND FORM's CARD OF 'charabanclaw06.ShiftRound'. -/
def shiftRoundUptoCard : Claim7 := { stood := { row := shiftRoundUptoRow, standIns := [], harness := (true, "d21da66e4f50abd98c6ee5aa882dca6e915d882ce55a3c8381fdc27b1a72a1eb"), looks := false }, kinds := [], alts := [], laidByText := true, laidKinds := [.data], laidTests := true, laidLooks := .later }
def ShiftRoundUptoCardSaid : Prop := Claim7.holds Tryd.pinned (.plain (OpenSpec.upto shiftRoundSpec)) shiftRoundUptoCard
end Rows
end Go.Proofs.YtlhbmpnelccofaaDoor
