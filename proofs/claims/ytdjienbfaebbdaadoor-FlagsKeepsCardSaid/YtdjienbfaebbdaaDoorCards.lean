/-
  DERIVED. GIVEN WITH THE SEED: THE CARDS: each row of YtdjienbfaebbdaaDoorRows.lean that lists a variable, with what it lists TIED to the program's text (the seventh form; the later family's looks); each row that meets fmt, with fmt's text TOLD by the authors' own Lean function (tested against real Go, not proved from fmt's source: count such statements apart). THE CARD IS WHAT COUNTS. Prove the row's statement (the work); the ties are given (YtdjienbfaebbdaaDoorTie.lean); close each card by the builder's one call (the guide's Derived/Test/ToyasCard.lean, 'card_holds'). Laid BY PROGRAM, IN A SANDBOX (cutbox-door.mjs). By AI agents, Wed Nov 11 2026. No macro, syntax, notation, axiom, sorry.
-/
import Derived.Test.YtdjienbfaebbdaaDoorRows
import GoSem.ClaimSeven
namespace Go.Proofs.YtdjienbfaebbdaaDoor
namespace Rows

/-- THE TIED CARD OF 'charabanclaw02.FlagsMakes'. -/
def flagsMakesCard : Claim7 := { stood := { row := flagsMakesRow, standIns := [], harness := (true, "b869a11b54a923e1a6a5c13db3bb6a94751a615ee8f6dba9d048c5a30169b3b1"), looks := false }, kinds := [], alts := [], laidByText := true, laidKinds := [.data], laidTests := true, laidLooks := .later }
def FlagsMakesCardSaid : Prop := Claim7.holds Tryd.pinned (.plain (OpenSpec.ofChange flagsMakesSpec)) flagsMakesCard

/-- THE TIED CARD OF 'charabanclaw02.FlagsTests'. -/
def flagsTestsCard : Claim7 := { stood := { row := flagsTestsRow, standIns := [], harness := (true, "b869a11b54a923e1a6a5c13db3bb6a94751a615ee8f6dba9d048c5a30169b3b1"), looks := false }, kinds := [], alts := [], laidByText := true, laidKinds := [.data], laidTests := true, laidLooks := .later }
def FlagsTestsCardSaid : Prop := Claim7.holds Tryd.pinned (.plain (OpenSpec.ofChange flagsTestsSpec)) flagsTestsCard

/-- THE TIED CARD OF 'charabanclaw02.FlagsBack'. -/
def flagsBackCard : Claim7 := { stood := { row := flagsBackRow, standIns := [], harness := (true, "b869a11b54a923e1a6a5c13db3bb6a94751a615ee8f6dba9d048c5a30169b3b1"), looks := false }, kinds := [], alts := [], laidByText := true, laidKinds := [.data], laidTests := true, laidLooks := .later }
def FlagsBackCardSaid : Prop := Claim7.holds Tryd.pinned (.plain (OpenSpec.ofChange flagsBackSpec)) flagsBackCard

/-- THE TIED CARD OF 'charabanclaw02.FlagsKeeps'. -/
def flagsKeepsCard : Claim7 := { stood := { row := flagsKeepsRow, standIns := [], harness := (true, "b869a11b54a923e1a6a5c13db3bb6a94751a615ee8f6dba9d048c5a30169b3b1"), looks := false }, kinds := [], alts := [], laidByText := true, laidKinds := [.data], laidTests := true, laidLooks := .later }
def FlagsKeepsCardSaid : Prop := Claim7.holds Tryd.pinned (.plain (OpenSpec.ofChange flagsKeepsSpec)) flagsKeepsCard

/-- THE SECOND FORM's CARD OF 'charabanclaw02.FlagsMakes'. -/
def flagsMakesUptoCard : Claim7 := { stood := { row := flagsMakesUptoRow, standIns := [], harness := (true, "b869a11b54a923e1a6a5c13db3bb6a94751a615ee8f6dba9d048c5a30169b3b1"), looks := false }, kinds := [], alts := [], laidByText := true, laidKinds := [.data], laidTests := true, laidLooks := .later }
def FlagsMakesUptoCardSaid : Prop := Claim7.holds Tryd.pinned (.plain (OpenSpec.upto flagsMakesSpec)) flagsMakesUptoCard

/-- THE SECOND FORM's CARD OF 'charabanclaw02.FlagsTests'. -/
def flagsTestsUptoCard : Claim7 := { stood := { row := flagsTestsUptoRow, standIns := [], harness := (true, "b869a11b54a923e1a6a5c13db3bb6a94751a615ee8f6dba9d048c5a30169b3b1"), looks := false }, kinds := [], alts := [], laidByText := true, laidKinds := [.data], laidTests := true, laidLooks := .later }
def FlagsTestsUptoCardSaid : Prop := Claim7.holds Tryd.pinned (.plain (OpenSpec.upto flagsTestsSpec)) flagsTestsUptoCard

/-- THE SECOND FORM's CARD OF 'charabanclaw02.FlagsBack'. -/
def flagsBackUptoCard : Claim7 := { stood := { row := flagsBackUptoRow, standIns := [], harness := (true, "b869a11b54a923e1a6a5c13db3bb6a94751a615ee8f6dba9d048c5a30169b3b1"), looks := false }, kinds := [], alts := [], laidByText := true, laidKinds := [.data], laidTests := true, laidLooks := .later }
def FlagsBackUptoCardSaid : Prop := Claim7.holds Tryd.pinned (.plain (OpenSpec.upto flagsBackSpec)) flagsBackUptoCard

/-- THE SECOND FORM's CARD OF 'charabanclaw02.FlagsKeeps'. -/
def flagsKeepsUptoCard : Claim7 := { stood := { row := flagsKeepsUptoRow, standIns := [], harness := (true, "b869a11b54a923e1a6a5c13db3bb6a94751a615ee8f6dba9d048c5a30169b3b1"), looks := false }, kinds := [], alts := [], laidByText := true, laidKinds := [.data], laidTests := true, laidLooks := .later }
def FlagsKeepsUptoCardSaid : Prop := Claim7.holds Tryd.pinned (.plain (OpenSpec.upto flagsKeepsSpec)) flagsKeepsUptoCard
end Rows
end Go.Proofs.YtdjienbfaebbdaaDoor
