/-
  DERIVED. GIVEN WITH THE SEED: THE CARDS: each row of YtigbapkdpaahjaaGreatDoorRows.lean that lists a variable, with what it lists TIED to the program's text (the seventh form; the later family's looks); each row that meets fmt, with fmt's text TOLD by the authors' own Lean function (tested against real Go, not proved from fmt's source: count such statements apart). THE CARD IS WHAT COUNTS. Prove the row's statement (the work); the ties are given (YtigbapkdpaahjaaGreatDoorTie.lean); close each card by the builder's one call (the guide's Derived/Test/ToyasCard.lean, 'card_holds'). Laid BY PROGRAM, IN A SANDBOX (cutbox-door.mjs). By AI agents, Wed Nov 11 2026. No macro, syntax, notation, axiom, sorry.
-/
import Derived.Test.YtigbapkdpaahjaaGreatDoorRows
import GoSem.ClaimSeven
namespace Go.Proofs.YtigbapkdpaahjaaGreatDoor
namespace Rows

/-- THE TIED CARD OF 'marquetrylaw06.ParseReads'. -/
def parseReadsCard : Claim7 := { stood := { row := parseReadsRow, standIns := [], harness := (true, "575d946a81e21c755ef27da005a328eb6c58b8f45eed76ac1e85a3bc1f0d7f8d"), looks := true }, kinds := [], alts := [], laidByText := true, laidKinds := [.data, .data, .data], laidTests := true, laidLooks := .later }
def ParseReadsCardSaid : Prop := Claim7.holds Tryz.pinned (.plain (OpenSpec.ofChange parseReadsSpec)) parseReadsCard

/-- THE TIED CARD OF 'marquetrylaw07.ShowTells'. -/
def showTellsCard : Claim7 := { stood := { row := showTellsRow, standIns := [], harness := (true, "575d946a81e21c755ef27da005a328eb6c58b8f45eed76ac1e85a3bc1f0d7f8d"), looks := true }, kinds := [], alts := [], laidByText := true, laidKinds := [.data, .data, .data, .data, .data, .data], laidTests := true, laidLooks := .later }
def ShowTellsCardSaid : Prop := Claim7.holds Tryz.pinned (.plain (OpenSpec.ofChange showTellsSpec)) showTellsCard

/-- THE TIED CARD OF 'marquetrylaw07.ShowPatterns'. -/
def showPatternsCard : Claim7 := { stood := { row := showPatternsRow, standIns := [], harness := (true, "575d946a81e21c755ef27da005a328eb6c58b8f45eed76ac1e85a3bc1f0d7f8d"), looks := true }, kinds := [], alts := [], laidByText := true, laidKinds := [.data, .data, .data, .data, .data, .data], laidTests := true, laidLooks := .later }
def ShowPatternsCardSaid : Prop := Claim7.holds Tryz.pinned (.plain (OpenSpec.ofChange showPatternsSpec)) showPatternsCard

/-- THE TIED CARD OF 'marquetrylaw07.ShowBack'. -/
def showBackCard : Claim7 := { stood := { row := showBackRow, standIns := [], harness := (true, "575d946a81e21c755ef27da005a328eb6c58b8f45eed76ac1e85a3bc1f0d7f8d"), looks := true }, kinds := [], alts := [], laidByText := true, laidKinds := [.data, .data, .data, .data, .data, .data], laidTests := true, laidLooks := .later }
def ShowBackCardSaid : Prop := Claim7.holds Tryz.pinned (.plain (OpenSpec.ofChange showBackSpec)) showBackCard

/-- THE TIED CARD OF 'marquetrylaw07.ShowReads'. -/
def showReadsCard : Claim7 := { stood := { row := showReadsRow, standIns := [], harness := (true, "575d946a81e21c755ef27da005a328eb6c58b8f45eed76ac1e85a3bc1f0d7f8d"), looks := true }, kinds := [], alts := [], laidByText := true, laidKinds := [.data, .data, .data, .data, .data, .data], laidTests := true, laidLooks := .later }
def ShowReadsCardSaid : Prop := Claim7.holds Tryz.pinned (.plain (OpenSpec.ofChange showReadsSpec)) showReadsCard

/-- THE TIED CARD OF 'marquetrylaw07.ShowApart'. -/
def showApartCard : Claim7 := { stood := { row := showApartRow, standIns := [], harness := (true, "575d946a81e21c755ef27da005a328eb6c58b8f45eed76ac1e85a3bc1f0d7f8d"), looks := true }, kinds := [], alts := [], laidByText := true, laidKinds := [.data, .data, .data, .data, .data, .data], laidTests := true, laidLooks := .later }
def ShowApartCardSaid : Prop := Claim7.holds Tryz.pinned (.plain (OpenSpec.ofChange showApartSpec)) showApartCard

/-- THE TIED CARD OF 'marquetrylaw07.ShowCases'. -/
def showCasesCard : Claim7 := { stood := { row := showCasesRow, standIns := [], harness := (true, "575d946a81e21c755ef27da005a328eb6c58b8f45eed76ac1e85a3bc1f0d7f8d"), looks := true }, kinds := [], alts := [], laidByText := true, laidKinds := [.data, .data, .data, .data, .data, .data], laidTests := true, laidLooks := .later }
def ShowCasesCardSaid : Prop := Claim7.holds Tryz.pinned (.plain (OpenSpec.ofChange showCasesSpec)) showCasesCard

/-- THE SECOND FORM's CARD OF 'marquetrylaw06.ParseReads'. -/
def parseReadsUptoCard : Claim7 := { stood := { row := parseReadsUptoRow, standIns := [], harness := (true, "575d946a81e21c755ef27da005a328eb6c58b8f45eed76ac1e85a3bc1f0d7f8d"), looks := true }, kinds := [], alts := [], laidByText := true, laidKinds := [.data, .data, .data], laidTests := true, laidLooks := .later }
def ParseReadsUptoCardSaid : Prop := Claim7.holds Tryz.pinned (.plain (OpenSpec.upto parseReadsSpec)) parseReadsUptoCard

/-- THE SECOND FORM's CARD OF 'marquetrylaw07.ShowTells'. -/
def showTellsUptoCard : Claim7 := { stood := { row := showTellsUptoRow, standIns := [], harness := (true, "575d946a81e21c755ef27da005a328eb6c58b8f45eed76ac1e85a3bc1f0d7f8d"), looks := true }, kinds := [], alts := [], laidByText := true, laidKinds := [.data, .data, .data, .data, .data, .data], laidTests := true, laidLooks := .later }
def ShowTellsUptoCardSaid : Prop := Claim7.holds Tryz.pinned (.plain (OpenSpec.upto showTellsSpec)) showTellsUptoCard

/-- THE SECOND FORM's CARD OF 'marquetrylaw07.ShowPatterns'. -/
def showPatternsUptoCard : Claim7 := { stood := { row := showPatternsUptoRow, standIns := [], harness := (true, "575d946a81e21c755ef27da005a328eb6c58b8f45eed76ac1e85a3bc1f0d7f8d"), looks := true }, kinds := [], alts := [], laidByText := true, laidKinds := [.data, .data, .data, .data, .data, .data], laidTests := true, laidLooks := .later }
def ShowPatternsUptoCardSaid : Prop := Claim7.holds Tryz.pinned (.plain (OpenSpec.upto showPatternsSpec)) showPatternsUptoCard

/-- THE SECOND FORM's CARD OF 'marquetrylaw07.ShowBack'. -/
def showBackUptoCard : Claim7 := { stood := { row := showBackUptoRow, standIns := [], harness := (true, "575d946a81e21c755ef27da005a328eb6c58b8f45eed76ac1e85a3bc1f0d7f8d"), looks := true }, kinds := [], alts := [], laidByText := true, laidKinds := [.data, .data, .data, .data, .data, .data], laidTests := true, laidLooks := .later }
def ShowBackUptoCardSaid : Prop := Claim7.holds Tryz.pinned (.plain (OpenSpec.upto showBackSpec)) showBackUptoCard

/-- THE SECOND FORM's CARD OF 'marquetrylaw07.ShowReads'. -/
def showReadsUptoCard : Claim7 := { stood := { row := showReadsUptoRow, standIns := [], harness := (true, "575d946a81e21c755ef27da005a328eb6c58b8f45eed76ac1e85a3bc1f0d7f8d"), looks := true }, kinds := [], alts := [], laidByText := true, laidKinds := [.data, .data, .data, .data, .data, .data], laidTests := true, laidLooks := .later }
def ShowReadsUptoCardSaid : Prop := Claim7.holds Tryz.pinned (.plain (OpenSpec.upto showReadsSpec)) showReadsUptoCard

/-- THE SECOND FORM's CARD OF 'marquetrylaw07.ShowApart'. -/
def showApartUptoCard : Claim7 := { stood := { row := showApartUptoRow, standIns := [], harness := (true, "575d946a81e21c755ef27da005a328eb6c58b8f45eed76ac1e85a3bc1f0d7f8d"), looks := true }, kinds := [], alts := [], laidByText := true, laidKinds := [.data, .data, .data, .data, .data, .data], laidTests := true, laidLooks := .later }
def ShowApartUptoCardSaid : Prop := Claim7.holds Tryz.pinned (.plain (OpenSpec.upto showApartSpec)) showApartUptoCard

/-- THE SECOND FORM's CARD OF 'marquetrylaw07.ShowCases'. -/
def showCasesUptoCard : Claim7 := { stood := { row := showCasesUptoRow, standIns := [], harness := (true, "575d946a81e21c755ef27da005a328eb6c58b8f45eed76ac1e85a3bc1f0d7f8d"), looks := true }, kinds := [], alts := [], laidByText := true, laidKinds := [.data, .data, .data, .data, .data, .data], laidTests := true, laidLooks := .later }
def ShowCasesUptoCardSaid : Prop := Claim7.holds Tryz.pinned (.plain (OpenSpec.upto showCasesSpec)) showCasesUptoCard
end Rows
end Go.Proofs.YtigbapkdpaahjaaGreatDoor
