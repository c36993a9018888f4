/-
  DERIVED. GIVEN WITH THE SEED: THE CARDS: each row of YtkenebbjodcbcaaGreatDoorRows.lean that lists a variable, with what it lists TIED to the program's text (the seventh form; the later family's looks); each row that meets fmt, with fmt's text TOLD by the authors' own Lean function (tested against real Go, not proved from fmt's source: count such statements apart). THE CARD IS WHAT COUNTS. Prove the row's statement (the work); the ties are given (YtkenebbjodcbcaaGreatDoorTie.lean); close each card by the builder's one call (the guide's Derived/Test/ToyasCard.lean, 'card_holds'). Laid BY PROGRAM, IN A SANDBOX (cutbox-door.mjs). By AI agents, Wed Nov 11 2026. No macro, syntax, notation, axiom, sorry.
-/
import Derived.Test.YtkenebbjodcbcaaGreatDoorRows
import GoSem.ClaimSeven
namespace Go.Proofs.YtkenebbjodcbcaaGreatDoor
namespace Rows

/-- THE TIED CARD OF 'charabanclaw18.CoreTicks'. -/
def coreTicksCard : Claim7 := { stood := { row := coreTicksRow, standIns := [], harness := (true, "2a3276fd3a4728a030091b35891ed17fba01c6b0072b092c9e01b4d8113cb8fe"), looks := true }, kinds := [], alts := [], laidByText := true, laidKinds := [.data, .data, .data, .data, .data], laidTests := true, laidLooks := .later }
def CoreTicksCardSaid : Prop := Claim7.holds Tryz.pinned (.plain (OpenSpec.ofChange coreTicksSpec)) coreTicksCard

/-- THE TIED CARD OF 'charabanclaw18.CoreOne'. -/
def coreOneCard : Claim7 := { stood := { row := coreOneRow, standIns := [], harness := (true, "2a3276fd3a4728a030091b35891ed17fba01c6b0072b092c9e01b4d8113cb8fe"), looks := true }, kinds := [], alts := [], laidByText := true, laidKinds := [.data, .data, .data, .data, .data], laidTests := true, laidLooks := .later }
def CoreOneCardSaid : Prop := Claim7.holds Tryz.pinned (.plain (OpenSpec.ofChange coreOneSpec)) coreOneCard

/-- THE TIED CARD OF 'charabanclaw18.CoreSteps'. -/
def coreStepsCard : Claim7 := { stood := { row := coreStepsRow, standIns := [], harness := (true, "2a3276fd3a4728a030091b35891ed17fba01c6b0072b092c9e01b4d8113cb8fe"), looks := true }, kinds := [], alts := [], laidByText := true, laidKinds := [.data, .data, .data, .data, .data], laidTests := true, laidLooks := .later }
def CoreStepsCardSaid : Prop := Claim7.holds Tryz.pinned (.plain (OpenSpec.ofChange coreStepsSpec)) coreStepsCard

/-- THE TIED CARD OF 'charabanclaw18.CoreNmi'. -/
def coreNmiCard : Claim7 := { stood := { row := coreNmiRow, standIns := [], harness := (true, "2a3276fd3a4728a030091b35891ed17fba01c6b0072b092c9e01b4d8113cb8fe"), looks := true }, kinds := [], alts := [], laidByText := true, laidKinds := [.data, .data, .data, .data, .data], laidTests := true, laidLooks := .later }
def CoreNmiCardSaid : Prop := Claim7.holds Tryz.pinned (.plain (OpenSpec.ofChange coreNmiSpec)) coreNmiCard

/-- THE TIED CARD OF 'charabanclaw18.CoreReset'. -/
def coreResetCard : Claim7 := { stood := { row := coreResetRow, standIns := [], harness := (true, "2a3276fd3a4728a030091b35891ed17fba01c6b0072b092c9e01b4d8113cb8fe"), looks := true }, kinds := [], alts := [], laidByText := true, laidKinds := [.data, .data, .data, .data, .data], laidTests := true, laidLooks := .later }
def CoreResetCardSaid : Prop := Claim7.holds Tryz.pinned (.plain (OpenSpec.ofChange coreResetSpec)) coreResetCard

/-- THE TIED CARD OF 'charabanclaw18.CoreOff'. -/
def coreOffCard : Claim7 := { stood := { row := coreOffRow, standIns := [], harness := (true, "2a3276fd3a4728a030091b35891ed17fba01c6b0072b092c9e01b4d8113cb8fe"), looks := true }, kinds := [], alts := [], laidByText := true, laidKinds := [.data, .data, .data, .data, .data], laidTests := true, laidLooks := .later }
def CoreOffCardSaid : Prop := Claim7.holds Tryz.pinned (.plain (OpenSpec.ofChange coreOffSpec)) coreOffCard

/-- THE SECOND FORM's CARD OF 'charabanclaw18.CoreTicks'. -/
def coreTicksUptoCard : Claim7 := { stood := { row := coreTicksUptoRow, standIns := [], harness := (true, "2a3276fd3a4728a030091b35891ed17fba01c6b0072b092c9e01b4d8113cb8fe"), looks := true }, kinds := [], alts := [], laidByText := true, laidKinds := [.data, .data, .data, .data, .data], laidTests := true, laidLooks := .later }
def CoreTicksUptoCardSaid : Prop := Claim7.holds Tryz.pinned (.plain (OpenSpec.upto coreTicksSpec)) coreTicksUptoCard

/-- THE SECOND FORM's CARD OF 'charabanclaw18.CoreOne'. -/
def coreOneUptoCard : Claim7 := { stood := { row := coreOneUptoRow, standIns := [], harness := (true, "2a3276fd3a4728a030091b35891ed17fba01c6b0072b092c9e01b4d8113cb8fe"), looks := true }, kinds := [], alts := [], laidByText := true, laidKinds := [.data, .data, .data, .data, .data], laidTests := true, laidLooks := .later }
def CoreOneUptoCardSaid : Prop := Claim7.holds Tryz.pinned (.plain (OpenSpec.upto coreOneSpec)) coreOneUptoCard

/-- THE SECOND FORM's CARD OF 'charabanclaw18.CoreSteps'. -/
def coreStepsUptoCard : Claim7 := { stood := { row := coreStepsUptoRow, standIns := [], harness := (true, "2a3276fd3a4728a030091b35891ed17fba01c6b0072b092c9e01b4d8113cb8fe"), looks := true }, kinds := [], alts := [], laidByText := true, laidKinds := [.data, .data, .data, .data, .data], laidTests := true, laidLooks := .later }
def CoreStepsUptoCardSaid : Prop := Claim7.holds Tryz.pinned (.plain (OpenSpec.upto coreStepsSpec)) coreStepsUptoCard

/-- THE SECOND FORM's CARD OF 'charabanclaw18.CoreNmi'. -/
def coreNmiUptoCard : Claim7 := { stood := { row := coreNmiUptoRow, standIns := [], harness := (true, "2a3276fd3a4728a030091b35891ed17fba01c6b0072b092c9e01b4d8113cb8fe"), looks := true }, kinds := [], alts := [], laidByText := true, laidKinds := [.data, .data, .data, .data, .data], laidTests := true, laidLooks := .later }
def CoreNmiUptoCardSaid : Prop := Claim7.holds Tryz.pinned (.plain (OpenSpec.upto coreNmiSpec)) coreNmiUptoCard

/-- THE SECOND FORM's CARD OF 'charabanclaw18.CoreReset'. -/
def coreResetUptoCard : Claim7 := { stood := { row := coreResetUptoRow, standIns := [], harness := (true, "2a3276fd3a4728a030091b35891ed17fba01c6b0072b092c9e01b4d8113cb8fe"), looks := true }, kinds := [], alts := [], laidByText := true, laidKinds := [.data, .data, .data, .data, .data], laidTests := true, laidLooks := .later }
def CoreResetUptoCardSaid : Prop := Claim7.holds Tryz.pinned (.plain (OpenSpec.upto coreResetSpec)) coreResetUptoCard

/-- THE SECOND FORM's CARD OF 'charabanclaw18.CoreOff'. -/
def coreOffUptoCard : Claim7 := { stood := { row := coreOffUptoRow, standIns := [], harness := (true, "2a3276fd3a4728a030091b35891ed17fba01c6b0072b092c9e01b4d8113cb8fe"), looks := true }, kinds := [], alts := [], laidByText := true, laidKinds := [.data, .data, .data, .data, .data], laidTests := true, laidLooks := .later }
def CoreOffUptoCardSaid : Prop := Claim7.holds Tryz.pinned (.plain (OpenSpec.upto coreOffSpec)) coreOffUptoCard
end Rows
end Go.Proofs.YtkenebbjodcbcaaGreatDoor
