/-
  DERIVED. GIVEN WITH THE SEED: THE CARDS: each row of YtblonfjlcfjodaaGreatDoorRows.lean that lists a variable, with what it lists TIED to the program's text (the seventh form; the later family's looks); each row that meets fmt, with fmt's text TOLD by the authors' own Lean function (tested against real Go, not proved from fmt's source: count such statements apart). THE CARD IS WHAT COUNTS. Prove the row's statement (the work); the ties are given (YtblonfjlcfjodaaGreatDoorTie.lean); close each card by the builder's one call (the guide's Derived/Test/ToyasCard.lean, 'card_holds'). Laid BY PROGRAM, IN A SANDBOX (cutbox-door.mjs). By AI agents, Wed Nov 11 2026. No macro, syntax, notation, axiom, sorry.
-/
import Derived.Test.YtblonfjlcfjodaaGreatDoorRows
import GoSem.ClaimSeven
namespace Go.Proofs.YtblonfjlcfjodaaGreatDoor
namespace Rows

/-- THE TIED CARD OF 'marquetrylaw06.ParseReads'. -/
def parseReadsCard : Claim7 := { stood := { row := parseReadsRow, standIns := [], harness := (true, "de054d7ea11624670023bde832e23431d33bed1f9cb009a4f20099ca8b1a0d14"), looks := true }, kinds := [], alts := [], laidByText := true, laidKinds := [.data, .data, .data], laidTests := true, laidLooks := .later }
def ParseReadsCardSaid : Prop := Claim7.holds Tryz.pinned (.plain (OpenSpec.ofChange parseReadsSpec)) parseReadsCard

/-- THE TIED CARD OF 'marquetrylaw07.ShowTells'. -/
def showTellsCard : Claim7 := { stood := { row := showTellsRow, standIns := [], harness := (true, "de054d7ea11624670023bde832e23431d33bed1f9cb009a4f20099ca8b1a0d14"), looks := true }, kinds := [], alts := [], laidByText := true, laidKinds := [.data, .data, .data, .data, .data, .data], laidTests := true, laidLooks := .later }
def ShowTellsCardSaid : Prop := Claim7.holds Tryz.pinned (.plain (OpenSpec.ofChange showTellsSpec)) showTellsCard

/-- THE TIED CARD OF 'marquetrylaw07.ShowPatterns'. -/
def showPatternsCard : Claim7 := { stood := { row := showPatternsRow, standIns := [], harness := (true, "de054d7ea11624670023bde832e23431d33bed1f9cb009a4f20099ca8b1a0d14"), looks := true }, kinds := [], alts := [], laidByText := true, laidKinds := [.data, .data, .data, .data, .data, .data], laidTests := true, laidLooks := .later }
def ShowPatternsCardSaid : Prop := Claim7.holds Tryz.pinned (.plain (OpenSpec.ofChange showPatternsSpec)) showPatternsCard

/-- THE TIED CARD OF 'marquetrylaw08.ResolveFits'. -/
def resolveFitsCard : Claim7 := { stood := { row := resolveFitsRow, standIns := [], harness := (true, "de054d7ea11624670023bde832e23431d33bed1f9cb009a4f20099ca8b1a0d14"), looks := true }, kinds := [], alts := [], laidByText := true, laidKinds := [.data, .data, .data, .data, .data, .data, .data], laidTests := true, laidLooks := .later }
def ResolveFitsCardSaid : Prop := Claim7.holds Tryz.pinned (.plain (OpenSpec.ofChange resolveFitsSpec)) resolveFitsCard

/-- THE TIED CARD OF 'marquetrylaw08.ResolveNames'. -/
def resolveNamesCard : Claim7 := { stood := { row := resolveNamesRow, standIns := [], harness := (true, "de054d7ea11624670023bde832e23431d33bed1f9cb009a4f20099ca8b1a0d14"), looks := true }, kinds := [], alts := [], laidByText := true, laidKinds := [.data, .data, .data, .data, .data, .data, .data], laidTests := true, laidLooks := .later }
def ResolveNamesCardSaid : Prop := Claim7.holds Tryz.pinned (.plain (OpenSpec.ofChange resolveNamesSpec)) resolveNamesCard

/-- THE TIED CARD OF 'marquetrylaw08.ResolveShort'. -/
def resolveShortCard : Claim7 := { stood := { row := resolveShortRow, standIns := [], harness := (true, "de054d7ea11624670023bde832e23431d33bed1f9cb009a4f20099ca8b1a0d14"), looks := true }, kinds := [], alts := [], laidByText := true, laidKinds := [.data, .data, .data, .data, .data, .data, .data], laidTests := true, laidLooks := .later }
def ResolveShortCardSaid : Prop := Claim7.holds Tryz.pinned (.plain (OpenSpec.ofChange resolveShortSpec)) resolveShortCard

/-- THE TIED CARD OF 'marquetrylaw08.ResolveBound'. -/
def resolveBoundCard : Claim7 := { stood := { row := resolveBoundRow, standIns := [], harness := (true, "de054d7ea11624670023bde832e23431d33bed1f9cb009a4f20099ca8b1a0d14"), looks := true }, kinds := [], alts := [], laidByText := true, laidKinds := [.data, .data, .data, .data, .data, .data, .data], laidTests := true, laidLooks := .later }
def ResolveBoundCardSaid : Prop := Claim7.holds Tryz.pinned (.plain (OpenSpec.ofChange resolveBoundSpec)) resolveBoundCard

/-- THE TIED CARD OF 'marquetrylaw08.ResolveShift'. -/
def resolveShiftCard : Claim7 := { stood := { row := resolveShiftRow, standIns := [], harness := (true, "de054d7ea11624670023bde832e23431d33bed1f9cb009a4f20099ca8b1a0d14"), looks := true }, kinds := [], alts := [], laidByText := true, laidKinds := [.data, .data, .data, .data, .data, .data, .data], laidTests := true, laidLooks := .later }
def ResolveShiftCardSaid : Prop := Claim7.holds Tryz.pinned (.plain (OpenSpec.ofChange resolveShiftSpec)) resolveShiftCard

/-- THE SECOND FORM's CARD OF 'marquetrylaw06.ParseReads'. -/
def parseReadsUptoCard : Claim7 := { stood := { row := parseReadsUptoRow, standIns := [], harness := (true, "de054d7ea11624670023bde832e23431d33bed1f9cb009a4f20099ca8b1a0d14"), looks := true }, kinds := [], alts := [], laidByText := true, laidKinds := [.data, .data, .data], laidTests := true, laidLooks := .later }
def ParseReadsUptoCardSaid : Prop := Claim7.holds Tryz.pinned (.plain (OpenSpec.upto parseReadsSpec)) parseReadsUptoCard

/-- THE SECOND FORM's CARD OF 'marquetrylaw07.ShowTells'. -/
def showTellsUptoCard : Claim7 := { stood := { row := showTellsUptoRow, standIns := [], harness := (true, "de054d7ea11624670023bde832e23431d33bed1f9cb009a4f20099ca8b1a0d14"), looks := true }, kinds := [], alts := [], laidByText := true, laidKinds := [.data, .data, .data, .data, .data, .data], laidTests := true, laidLooks := .later }
def ShowTellsUptoCardSaid : Prop := Claim7.holds Tryz.pinned (.plain (OpenSpec.upto showTellsSpec)) showTellsUptoCard

/-- THE SECOND FORM's CARD OF 'marquetrylaw07.ShowPatterns'. -/
def showPatternsUptoCard : Claim7 := { stood := { row := showPatternsUptoRow, standIns := [], harness := (true, "de054d7ea11624670023bde832e23431d33bed1f9cb009a4f20099ca8b1a0d14"), looks := true }, kinds := [], alts := [], laidByText := true, laidKinds := [.data, .data, .data, .data, .data, .data], laidTests := true, laidLooks := .later }
def ShowPatternsUptoCardSaid : Prop := Claim7.holds Tryz.pinned (.plain (OpenSpec.upto showPatternsSpec)) showPatternsUptoCard

/-- THE SECOND FORM's CARD OF 'marquetrylaw08.ResolveFits'. -/
def resolveFitsUptoCard : Claim7 := { stood := { row := resolveFitsUptoRow, standIns := [], harness := (true, "de054d7ea11624670023bde832e23431d33bed1f9cb009a4f20099ca8b1a0d14"), looks := true }, kinds := [], alts := [], laidByText := true, laidKinds := [.data, .data, .data, .data, .data, .data, .data], laidTests := true, laidLooks := .later }
def ResolveFitsUptoCardSaid : Prop := Claim7.holds Tryz.pinned (.plain (OpenSpec.upto resolveFitsSpec)) resolveFitsUptoCard

/-- THE SECOND FORM's CARD OF 'marquetrylaw08.ResolveNames'. -/
def resolveNamesUptoCard : Claim7 := { stood := { row := resolveNamesUptoRow, standIns := [], harness := (true, "de054d7ea11624670023bde832e23431d33bed1f9cb009a4f20099ca8b1a0d14"), looks := true }, kinds := [], alts := [], laidByText := true, laidKinds := [.data, .data, .data, .data, .data, .data, .data], laidTests := true, laidLooks := .later }
def ResolveNamesUptoCardSaid : Prop := Claim7.holds Tryz.pinned (.plain (OpenSpec.upto resolveNamesSpec)) resolveNamesUptoCard

/-- THE SECOND FORM's CARD OF 'marquetrylaw08.ResolveShort'. -/
def resolveShortUptoCard : Claim7 := { stood := { row := resolveShortUptoRow, standIns := [], harness := (true, "de054d7ea11624670023bde832e23431d33bed1f9cb009a4f20099ca8b1a0d14"), looks := true }, kinds := [], alts := [], laidByText := true, laidKinds := [.data, .data, .data, .data, .data, .data, .data], laidTests := true, laidLooks := .later }
def ResolveShortUptoCardSaid : Prop := Claim7.holds Tryz.pinned (.plain (OpenSpec.upto resolveShortSpec)) resolveShortUptoCard

/-- THE SECOND FORM's CARD OF 'marquetrylaw08.ResolveBound'. -/
def resolveBoundUptoCard : Claim7 := { stood := { row := resolveBoundUptoRow, standIns := [], harness := (true, "de054d7ea11624670023bde832e23431d33bed1f9cb009a4f20099ca8b1a0d14"), looks := true }, kinds := [], alts := [], laidByText := true, laidKinds := [.data, .data, .data, .data, .data, .data, .data], laidTests := true, laidLooks := .later }
def ResolveBoundUptoCardSaid : Prop := Claim7.holds Tryz.pinned (.plain (OpenSpec.upto resolveBoundSpec)) resolveBoundUptoCard

/-- THE SECOND FORM's CARD OF 'marquetrylaw08.ResolveShift'. -/
def resolveShiftUptoCard : Claim7 := { stood := { row := resolveShiftUptoRow, standIns := [], harness := (true, "de054d7ea11624670023bde832e23431d33bed1f9cb009a4f20099ca8b1a0d14"), looks := true }, kinds := [], alts := [], laidByText := true, laidKinds := [.data, .data, .data, .data, .data, .data, .data], laidTests := true, laidLooks := .later }
def ResolveShiftUptoCardSaid : Prop := Claim7.holds Tryz.pinned (.plain (OpenSpec.upto resolveShiftSpec)) resolveShiftUptoCard
end Rows
end Go.Proofs.YtblonfjlcfjodaaGreatDoor
