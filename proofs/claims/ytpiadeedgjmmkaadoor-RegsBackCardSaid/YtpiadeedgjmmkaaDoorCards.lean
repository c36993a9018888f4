/-
  DERIVED. GIVEN WITH THE SEED: THE CARDS: each row of YtpiadeedgjmmkaaDoorRows.lean that lists a variable, with what it lists TIED to the program's text (the seventh form; the later family's looks); each row that meets fmt, with fmt's text TOLD by the authors' own Lean function (tested against real Go, not proved from fmt's source: count such statements apart). THE CARD IS WHAT COUNTS. Prove the row's statement (the work); the ties are given (YtpiadeedgjmmkaaDoorTie.lean); close each card by the builder's one call (the guide's Derived/Test/ToyasCard.lean, 'card_holds'). Laid BY PROGRAM, IN A SANDBOX (cutbox-door.mjs). By AI agents, Wed Nov 11 2026. No macro, syntax, notation, axiom, sorry.
-/
import Derived.Test.YtpiadeedgjmmkaaDoorRows
import GoSem.ClaimSeven
namespace Go.Proofs.YtpiadeedgjmmkaaDoor
namespace Rows

/-- THE TIED CARD OF 'charabanclaw11.RegsGets'. -/
def regsGetsCard : Claim7 := { stood := { row := regsGetsRow, standIns := [], harness := (true, "9e2015fd84e286518eb71633926491474d8c4928a66a306ba8fca87e8d293d8a"), looks := false }, kinds := [], alts := [], laidByText := true, laidKinds := [.data, .data, .data], laidTests := true, laidLooks := .later }
def RegsGetsCardSaid : Prop := Claim7.holds Tryd.pinned (.plain (OpenSpec.ofChange regsGetsSpec)) regsGetsCard

/-- THE TIED CARD OF 'charabanclaw11.RegsSets'. -/
def regsSetsCard : Claim7 := { stood := { row := regsSetsRow, standIns := [], harness := (true, "9e2015fd84e286518eb71633926491474d8c4928a66a306ba8fca87e8d293d8a"), looks := false }, kinds := [], alts := [], laidByText := true, laidKinds := [.data, .data, .data], laidTests := true, laidLooks := .later }
def RegsSetsCardSaid : Prop := Claim7.holds Tryd.pinned (.plain (OpenSpec.ofChange regsSetsSpec)) regsSetsCard

/-- THE TIED CARD OF 'charabanclaw11.RegsBack'. -/
def regsBackCard : Claim7 := { stood := { row := regsBackRow, standIns := [], harness := (true, "9e2015fd84e286518eb71633926491474d8c4928a66a306ba8fca87e8d293d8a"), looks := false }, kinds := [], alts := [], laidByText := true, laidKinds := [.data, .data, .data], laidTests := true, laidLooks := .later }
def RegsBackCardSaid : Prop := Claim7.holds Tryd.pinned (.plain (OpenSpec.ofChange regsBackSpec)) regsBackCard

/-- THE TIED CARD OF 'charabanclaw11.RegsTurned'. -/
def regsTurnedCard : Claim7 := { stood := { row := regsTurnedRow, standIns := [], harness := (true, "9e2015fd84e286518eb71633926491474d8c4928a66a306ba8fca87e8d293d8a"), looks := false }, kinds := [], alts := [], laidByText := true, laidKinds := [.data, .data, .data], laidTests := true, laidLooks := .later }
def RegsTurnedCardSaid : Prop := Claim7.holds Tryd.pinned (.plain (OpenSpec.ofChange regsTurnedSpec)) regsTurnedCard

/-- THE SECOND FORM's CARD OF 'charabanclaw11.RegsGets'. -/
def regsGetsUptoCard : Claim7 := { stood := { row := regsGetsUptoRow, standIns := [], harness := (true, "9e2015fd84e286518eb71633926491474d8c4928a66a306ba8fca87e8d293d8a"), looks := false }, kinds := [], alts := [], laidByText := true, laidKinds := [.data, .data, .data], laidTests := true, laidLooks := .later }
def RegsGetsUptoCardSaid : Prop := Claim7.holds Tryd.pinned (.plain (OpenSpec.upto regsGetsSpec)) regsGetsUptoCard

/-- THE SECOND FORM's CARD OF 'charabanclaw11.RegsSets'. -/
def regsSetsUptoCard : Claim7 := { stood := { row := regsSetsUptoRow, standIns := [], harness := (true, "9e2015fd84e286518eb71633926491474d8c4928a66a306ba8fca87e8d293d8a"), looks := false }, kinds := [], alts := [], laidByText := true, laidKinds := [.data, .data, .data], laidTests := true, laidLooks := .later }
def RegsSetsUptoCardSaid : Prop := Claim7.holds Tryd.pinned (.plain (OpenSpec.upto regsSetsSpec)) regsSetsUptoCard

/-- THE SECOND FORM's CARD OF 'charabanclaw11.RegsBack'. -/
def regsBackUptoCard : Claim7 := { stood := { row := regsBackUptoRow, standIns := [], harness := (true, "9e2015fd84e286518eb71633926491474d8c4928a66a306ba8fca87e8d293d8a"), looks := false }, kinds := [], alts := [], laidByText := true, laidKinds := [.data, .data, .data], laidTests := true, laidLooks := .later }
def RegsBackUptoCardSaid : Prop := Claim7.holds Tryd.pinned (.plain (OpenSpec.upto regsBackSpec)) regsBackUptoCard

/-- THE SECOND FORM's CARD OF 'charabanclaw11.RegsTurned'. -/
def regsTurnedUptoCard : Claim7 := { stood := { row := regsTurnedUptoRow, standIns := [], harness := (true, "9e2015fd84e286518eb71633926491474d8c4928a66a306ba8fca87e8d293d8a"), looks := false }, kinds := [], alts := [], laidByText := true, laidKinds := [.data, .data, .data], laidTests := true, laidLooks := .later }
def RegsTurnedUptoCardSaid : Prop := Claim7.holds Tryd.pinned (.plain (OpenSpec.upto regsTurnedSpec)) regsTurnedUptoCard
end Rows
end Go.Proofs.YtpiadeedgjmmkaaDoor
