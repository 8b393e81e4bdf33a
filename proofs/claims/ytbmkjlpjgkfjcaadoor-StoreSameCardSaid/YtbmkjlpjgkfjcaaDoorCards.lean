/-
  DERIVED. GIVEN WITH THE SEED: THE CARDS: each row of YtbmkjlpjgkfjcaaDoorRows.lean that lists a variable, with what it lists TIED to the program's text (the seventh form; the later family's looks); each row that meets fmt, with fmt's text TOLD by the authors' own Lean function (tested against real Go, not proved from fmt's source: count such statements apart). THE CARD IS WHAT COUNTS. Prove the row's statement (the work); the ties are given (YtbmkjlpjgkfjcaaDoorTie.lean); close each card by the builder's one call (the guide's Derived/Test/ToyasCard.lean, 'card_holds'). Laid BY PROGRAM, IN A SANDBOX (cutbox-door.mjs). By AI agents, Wed Nov 11 2026. No macro, syntax, notation, axiom, sorry.
-/
import Derived.Test.YtbmkjlpjgkfjcaaDoorRows
import GoSem.ClaimSeven
namespace Go.Proofs.YtbmkjlpjgkfjcaaDoor
namespace Rows

/-- THE TIED CARD OF 'marquetrylaw02.HeapDoes'. -/
def heapDoesCard : Claim7 := { stood := { row := heapDoesRow, standIns := [], harness := (true, "f7043bf09b7f2954fc3bc6c3457009cb3c6f63a408732a35506ba5eab77c071c"), looks := false }, kinds := [], alts := [], laidByText := true, laidKinds := [.data], laidTests := true, laidLooks := .later }
def HeapDoesCardSaid : Prop := Claim7.holds Tryd.pinned (.plain (OpenSpec.ofChange heapDoesSpec)) heapDoesCard

/-- THE TIED CARD OF 'marquetrylaw02.HeapApart'. -/
def heapApartCard : Claim7 := { stood := { row := heapApartRow, standIns := [], harness := (true, "f7043bf09b7f2954fc3bc6c3457009cb3c6f63a408732a35506ba5eab77c071c"), looks := false }, kinds := [], alts := [], laidByText := true, laidKinds := [.data], laidTests := true, laidLooks := .later }
def HeapApartCardSaid : Prop := Claim7.holds Tryd.pinned (.plain (OpenSpec.ofChange heapApartSpec)) heapApartCard

/-- THE TIED CARD OF 'marquetrylaw03.GcDoes'. -/
def gcDoesCard : Claim7 := { stood := { row := gcDoesRow, standIns := [], harness := (true, "f7043bf09b7f2954fc3bc6c3457009cb3c6f63a408732a35506ba5eab77c071c"), looks := false }, kinds := [], alts := [], laidByText := true, laidKinds := [.data], laidTests := true, laidLooks := .later }
def GcDoesCardSaid : Prop := Claim7.holds Tryd.pinned (.plain (OpenSpec.ofChange gcDoesSpec)) gcDoesCard

/-- THE TIED CARD OF 'marquetrylaw03.GcKeeps'. -/
def gcKeepsCard : Claim7 := { stood := { row := gcKeepsRow, standIns := [], harness := (true, "f7043bf09b7f2954fc3bc6c3457009cb3c6f63a408732a35506ba5eab77c071c"), looks := false }, kinds := [], alts := [], laidByText := true, laidKinds := [.data], laidTests := true, laidLooks := .later }
def GcKeepsCardSaid : Prop := Claim7.holds Tryd.pinned (.plain (OpenSpec.ofChange gcKeepsSpec)) gcKeepsCard

/-- THE TIED CARD OF 'marquetrylaw03.GcFrees'. -/
def gcFreesCard : Claim7 := { stood := { row := gcFreesRow, standIns := [], harness := (true, "f7043bf09b7f2954fc3bc6c3457009cb3c6f63a408732a35506ba5eab77c071c"), looks := false }, kinds := [], alts := [], laidByText := true, laidKinds := [.data], laidTests := true, laidLooks := .later }
def GcFreesCardSaid : Prop := Claim7.holds Tryd.pinned (.plain (OpenSpec.ofChange gcFreesSpec)) gcFreesCard

/-- THE TIED CARD OF 'marquetrylaw03.GcSteps'. -/
def gcStepsCard : Claim7 := { stood := { row := gcStepsRow, standIns := [], harness := (true, "f7043bf09b7f2954fc3bc6c3457009cb3c6f63a408732a35506ba5eab77c071c"), looks := false }, kinds := [], alts := [], laidByText := true, laidKinds := [.data], laidTests := true, laidLooks := .later }
def GcStepsCardSaid : Prop := Claim7.holds Tryd.pinned (.plain (OpenSpec.ofChange gcStepsSpec)) gcStepsCard

/-- THE TIED CARD OF 'marquetrylaw03.GcSafe'. -/
def gcSafeCard : Claim7 := { stood := { row := gcSafeRow, standIns := [], harness := (true, "f7043bf09b7f2954fc3bc6c3457009cb3c6f63a408732a35506ba5eab77c071c"), looks := false }, kinds := [], alts := [], laidByText := true, laidKinds := [.data], laidTests := true, laidLooks := .later }
def GcSafeCardSaid : Prop := Claim7.holds Tryd.pinned (.plain (OpenSpec.ofChange gcSafeSpec)) gcSafeCard

/-- THE TIED CARD OF 'marquetrylaw04.StoreSame'. -/
def storeSameCard : Claim7 := { stood := { row := storeSameRow, standIns := [], harness := (true, "f7043bf09b7f2954fc3bc6c3457009cb3c6f63a408732a35506ba5eab77c071c"), looks := false }, kinds := [], alts := [], laidByText := true, laidKinds := [.data], laidTests := true, laidLooks := .later }
def StoreSameCardSaid : Prop := Claim7.holds Tryd.pinned (.plain (OpenSpec.ofChange storeSameSpec)) storeSameCard

/-- THE TIED CARD OF 'marquetrylaw04.StoreTexts'. -/
def storeTextsCard : Claim7 := { stood := { row := storeTextsRow, standIns := [], harness := (true, "f7043bf09b7f2954fc3bc6c3457009cb3c6f63a408732a35506ba5eab77c071c"), looks := false }, kinds := [], alts := [], laidByText := true, laidKinds := [.data], laidTests := true, laidLooks := .later }
def StoreTextsCardSaid : Prop := Claim7.holds Tryd.pinned (.plain (OpenSpec.ofChange storeTextsSpec)) storeTextsCard

/-- THE TIED CARD OF 'marquetrylaw04.StoreCycles'. -/
def storeCyclesCard : Claim7 := { stood := { row := storeCyclesRow, standIns := [], harness := (true, "f7043bf09b7f2954fc3bc6c3457009cb3c6f63a408732a35506ba5eab77c071c"), looks := false }, kinds := [], alts := [], laidByText := true, laidKinds := [.data], laidTests := true, laidLooks := .later }
def StoreCyclesCardSaid : Prop := Claim7.holds Tryd.pinned (.plain (OpenSpec.ofChange storeCyclesSpec)) storeCyclesCard

/-- THE SECOND FORM's CARD OF 'marquetrylaw02.HeapDoes'. -/
def heapDoesUptoCard : Claim7 := { stood := { row := heapDoesUptoRow, standIns := [], harness := (true, "f7043bf09b7f2954fc3bc6c3457009cb3c6f63a408732a35506ba5eab77c071c"), looks := false }, kinds := [], alts := [], laidByText := true, laidKinds := [.data], laidTests := true, laidLooks := .later }
def HeapDoesUptoCardSaid : Prop := Claim7.holds Tryd.pinned (.plain (OpenSpec.upto heapDoesSpec)) heapDoesUptoCard

/-- THE SECOND FORM's CARD OF 'marquetrylaw02.HeapApart'. -/
def heapApartUptoCard : Claim7 := { stood := { row := heapApartUptoRow, standIns := [], harness := (true, "f7043bf09b7f2954fc3bc6c3457009cb3c6f63a408732a35506ba5eab77c071c"), looks := false }, kinds := [], alts := [], laidByText := true, laidKinds := [.data], laidTests := true, laidLooks := .later }
def HeapApartUptoCardSaid : Prop := Claim7.holds Tryd.pinned (.plain (OpenSpec.upto heapApartSpec)) heapApartUptoCard

/-- THE SECOND FORM's CARD OF 'marquetrylaw03.GcDoes'. -/
def gcDoesUptoCard : Claim7 := { stood := { row := gcDoesUptoRow, standIns := [], harness := (true, "f7043bf09b7f2954fc3bc6c3457009cb3c6f63a408732a35506ba5eab77c071c"), looks := false }, kinds := [], alts := [], laidByText := true, laidKinds := [.data], laidTests := true, laidLooks := .later }
def GcDoesUptoCardSaid : Prop := Claim7.holds Tryd.pinned (.plain (OpenSpec.upto gcDoesSpec)) gcDoesUptoCard

/-- THE SECOND FORM's CARD OF 'marquetrylaw03.GcKeeps'. -/
def gcKeepsUptoCard : Claim7 := { stood := { row := gcKeepsUptoRow, standIns := [], harness := (true, "f7043bf09b7f2954fc3bc6c3457009cb3c6f63a408732a35506ba5eab77c071c"), looks := false }, kinds := [], alts := [], laidByText := true, laidKinds := [.data], laidTests := true, laidLooks := .later }
def GcKeepsUptoCardSaid : Prop := Claim7.holds Tryd.pinned (.plain (OpenSpec.upto gcKeepsSpec)) gcKeepsUptoCard

/-- THE SECOND FORM's CARD OF 'marquetrylaw03.GcFrees'. -/
def gcFreesUptoCard : Claim7 := { stood := { row := gcFreesUptoRow, standIns := [], harness := (true, "f7043bf09b7f2954fc3bc6c3457009cb3c6f63a408732a35506ba5eab77c071c"), looks := false }, kinds := [], alts := [], laidByText := true, laidKinds := [.data], laidTests := true, laidLooks := .later }
def GcFreesUptoCardSaid : Prop := Claim7.holds Tryd.pinned (.plain (OpenSpec.upto gcFreesSpec)) gcFreesUptoCard

/-- THE SECOND FORM's CARD OF 'marquetrylaw03.GcSteps'. -/
def gcStepsUptoCard : Claim7 := { stood := { row := gcStepsUptoRow, standIns := [], harness := (true, "f7043bf09b7f2954fc3bc6c3457009cb3c6f63a408732a35506ba5eab77c071c"), looks := false }, kinds := [], alts := [], laidByText := true, laidKinds := [.data], laidTests := true, laidLooks := .later }
def GcStepsUptoCardSaid : Prop := Claim7.holds Tryd.pinned (.plain (OpenSpec.upto gcStepsSpec)) gcStepsUptoCard

/-- THE SECOND FORM's CARD OF 'marquetrylaw03.GcSafe'. -/
def gcSafeUptoCard : Claim7 := { stood := { row := gcSafeUptoRow, standIns := [], harness := (true, "f7043bf09b7f2954fc3bc6c3457009cb3c6f63a408732a35506ba5eab77c071c"), looks := false }, kinds := [], alts := [], laidByText := true, laidKinds := [.data], laidTests := true, laidLooks := .later }
def GcSafeUptoCardSaid : Prop := Claim7.holds Tryd.pinned (.plain (OpenSpec.upto gcSafeSpec)) gcSafeUptoCard

/-- THE SECOND FORM's CARD OF 'marquetrylaw04.StoreSame'. -/
def storeSameUptoCard : Claim7 := { stood := { row := storeSameUptoRow, standIns := [], harness := (true, "f7043bf09b7f2954fc3bc6c3457009cb3c6f63a408732a35506ba5eab77c071c"), looks := false }, kinds := [], alts := [], laidByText := true, laidKinds := [.data], laidTests := true, laidLooks := .later }
def StoreSameUptoCardSaid : Prop := Claim7.holds Tryd.pinned (.plain (OpenSpec.upto storeSameSpec)) storeSameUptoCard

/-- THE SECOND FORM's CARD OF 'marquetrylaw04.StoreTexts'. -/
def storeTextsUptoCard : Claim7 := { stood := { row := storeTextsUptoRow, standIns := [], harness := (true, "f7043bf09b7f2954fc3bc6c3457009cb3c6f63a408732a35506ba5eab77c071c"), looks := false }, kinds := [], alts := [], laidByText := true, laidKinds := [.data], laidTests := true, laidLooks := .later }
def StoreTextsUptoCardSaid : Prop := Claim7.holds Tryd.pinned (.plain (OpenSpec.upto storeTextsSpec)) storeTextsUptoCard

/-- THE SECOND FORM's CARD OF 'marquetrylaw04.StoreCycles'. -/
def storeCyclesUptoCard : Claim7 := { stood := { row := storeCyclesUptoRow, standIns := [], harness := (true, "f7043bf09b7f2954fc3bc6c3457009cb3c6f63a408732a35506ba5eab77c071c"), looks := false }, kinds := [], alts := [], laidByText := true, laidKinds := [.data], laidTests := true, laidLooks := .later }
def StoreCyclesUptoCardSaid : Prop := Claim7.holds Tryd.pinned (.plain (OpenSpec.upto storeCyclesSpec)) storeCyclesUptoCard
end Rows
end Go.Proofs.YtbmkjlpjgkfjcaaDoor
