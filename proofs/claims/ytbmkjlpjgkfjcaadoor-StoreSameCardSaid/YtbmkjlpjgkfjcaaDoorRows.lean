/-
  NARROWER THAN 'FOR EVERY INPUT', by the rows' own cells (each row's printed sentence says how): HeapDoes: laid · HeapApart: laid · GcDoes: laid · GcKeeps: laid · GcFrees: laid · GcSteps: laid · GcSafe: laid · StoreSame: laid · StoreTexts: laid · StoreCycles: laid.
  DERIVED. THE GIVEN ROWS OF THIS SEAT. 10 by the template 'for every input the law returns true; each argument reads behind the call as it read before'; 0 by the template 'total and deterministic' (their statements: YtbmkjlpjgkfjcaaDoorTotals.lean).
  GIVEN WITH THE SEED: the statements are not yours to turn. If you find one false, say at which input.
  Laid BY PROGRAM, IN A SANDBOX (cutbox-rows.mjs): the forced cells as the released guide's own fill.sh prints them over the translation 74139b213f54bf62… (all of the seat's roots in one cut). By AI agents, Wed Nov 11 2026. No macro, syntax, notation, axiom, sorry.
-/
import Derived.Test.YtbmkjlpjgkfjcaaDoorChecked
import GoSem.Claim
import GoSem.ClaimJoined
import GoSem.ClaimMapViews
import Derived.JoinedTies
import Derived.KernelRfl
namespace Go.Proofs.YtbmkjlpjgkfjcaaDoor
/- THE CELL 'sum', in the pinned program and in every row, IS THE sha256 OF THE DUMP (.gsa) THAT YtbmkjlpjgkfjcaaDoorProg.lean LOADS. Nothing in Lean hashes anything: it is a label: what it is worth is what the hold of that sum in a sandbox is worth. -/
noncomputable def Tryd.pinned : Pinned := { name := "ytbmkjlpjgkfjcaadoor", sum := "74139b213f54bf621267d3ef15254cede19bbb7c5a6a8c0ccd2d3127cf2767dd", checked := Tryd.checked }
namespace Rows
def none {H : Type} : Left H := { results := [], args := [] }

/- WHAT THE LISTED PACKAGE-LEVEL VARIABLES READ AS WHEN THE CALL BEGINS. Each datum BY PROGRAM (the guide's laid-datum.mjs) off the statement by which the dump's own 'gosem.cut.vars' lays the variable. In a bare row this is a premise. The card (YtbmkjlpjgkfjcaaDoorCards.lean) ties it to the program's text. -/
def laid_math_bits_deBruijn64tab {H : Type} : DataW H := .agg [.lit (.int .u8 0), .lit (.int .u8 1), .lit (.int .u8 56), .lit (.int .u8 2), .lit (.int .u8 57), .lit (.int .u8 49), .lit (.int .u8 28), .lit (.int .u8 3), .lit (.int .u8 61), .lit (.int .u8 58), .lit (.int .u8 42), .lit (.int .u8 50), .lit (.int .u8 38), .lit (.int .u8 29), .lit (.int .u8 17), .lit (.int .u8 4), .lit (.int .u8 62), .lit (.int .u8 47), .lit (.int .u8 59), .lit (.int .u8 36), .lit (.int .u8 45), .lit (.int .u8 43), .lit (.int .u8 51), .lit (.int .u8 22), .lit (.int .u8 53), .lit (.int .u8 39), .lit (.int .u8 33), .lit (.int .u8 30), .lit (.int .u8 24), .lit (.int .u8 18), .lit (.int .u8 12), .lit (.int .u8 5), .lit (.int .u8 63), .lit (.int .u8 55), .lit (.int .u8 48), .lit (.int .u8 27), .lit (.int .u8 60), .lit (.int .u8 41), .lit (.int .u8 37), .lit (.int .u8 16), .lit (.int .u8 46), .lit (.int .u8 35), .lit (.int .u8 44), .lit (.int .u8 21), .lit (.int .u8 52), .lit (.int .u8 32), .lit (.int .u8 23), .lit (.int .u8 11), .lit (.int .u8 54), .lit (.int .u8 26), .lit (.int .u8 40), .lit (.int .u8 15), .lit (.int .u8 34), .lit (.int .u8 20), .lit (.int .u8 31), .lit (.int .u8 10), .lit (.int .u8 25), .lit (.int .u8 14), .lit (.int .u8 19), .lit (.int .u8 9), .lit (.int .u8 13), .lit (.int .u8 8), .lit (.int .u8 7), .lit (.int .u8 6)]

/-- 'marquetrylaw02.HeapDoes': WHATEVER THE INPUT: true; the input reads as it did. -/
def heapDoesSpec : ChangeSpec := { name := "heapDoes", fn := fun _ => fun
  | [d1, d2] => { results := [.lit (.bool true)], args := [d1, d2] }
  | _ => none }
def heapDoesRow : OpenClaim := { program := "ytbmkjlpjgkfjcaadoor", sum := "74139b213f54bf621267d3ef15254cede19bbb7c5a6a8c0ccd2d3127cf2767dd", func := "marquetry/marquetrylaw02.HeapDoes", spec := "heapDoes", inPlace := ["slices.overlaps[marquetry/heap.run]"], unfollowed := true, recurses := true, named := ["math/bits.deBruijn64tab"], apart := false, laid := [("math/bits.deBruijn64tab", laid_math_bits_deBruijn64tab)] }
def HeapDoesSaid : Prop := heapDoesRow.holds Tryd.pinned (OpenSpec.ofChange heapDoesSpec)

/-- ITS FALSE NEIGHBOUR: 'it returns false'. Refute it at one input. -/
def heapDoesWrong : ChangeSpec := { name := "heapDoes", fn := fun _ => fun
  | [d1, d2] => { results := [.lit (.bool false)], args := [d1, d2] }
  | _ => none }
def HeapDoesWrongFalsely : Prop := heapDoesRow.holds Tryd.pinned (OpenSpec.ofChange heapDoesWrong)

/-- 'marquetrylaw02.HeapApart': WHATEVER THE INPUT: true; the input reads as it did. -/
def heapApartSpec : ChangeSpec := { name := "heapApart", fn := fun _ => fun
  | [d1, d2] => { results := [.lit (.bool true)], args := [d1, d2] }
  | _ => none }
def heapApartRow : OpenClaim := { program := "ytbmkjlpjgkfjcaadoor", sum := "74139b213f54bf621267d3ef15254cede19bbb7c5a6a8c0ccd2d3127cf2767dd", func := "marquetry/marquetrylaw02.HeapApart", spec := "heapApart", inPlace := ["slices.overlaps[marquetry/heap.run]"], unfollowed := true, recurses := true, named := ["math/bits.deBruijn64tab"], apart := false, laid := [("math/bits.deBruijn64tab", laid_math_bits_deBruijn64tab)] }
def HeapApartSaid : Prop := heapApartRow.holds Tryd.pinned (OpenSpec.ofChange heapApartSpec)

/-- ITS FALSE NEIGHBOUR: 'it returns false'. Refute it at one input. -/
def heapApartWrong : ChangeSpec := { name := "heapApart", fn := fun _ => fun
  | [d1, d2] => { results := [.lit (.bool false)], args := [d1, d2] }
  | _ => none }
def HeapApartWrongFalsely : Prop := heapApartRow.holds Tryd.pinned (OpenSpec.ofChange heapApartWrong)

/-- 'marquetrylaw03.GcDoes': WHATEVER THE INPUT: true; the input reads as it did. -/
def gcDoesSpec : ChangeSpec := { name := "gcDoes", fn := fun _ => fun
  | [d1, d2, d3] => { results := [.lit (.bool true)], args := [d1, d2, d3] }
  | _ => none }
def gcDoesRow : OpenClaim := { program := "ytbmkjlpjgkfjcaadoor", sum := "74139b213f54bf621267d3ef15254cede19bbb7c5a6a8c0ccd2d3127cf2767dd", func := "marquetry/marquetrylaw03.GcDoes", spec := "gcDoes", inPlace := ["slices.overlaps[marquetry/heap.run]"], unfollowed := true, recurses := true, named := ["math/bits.deBruijn64tab"], apart := false, laid := [("math/bits.deBruijn64tab", laid_math_bits_deBruijn64tab)] }
def GcDoesSaid : Prop := gcDoesRow.holds Tryd.pinned (OpenSpec.ofChange gcDoesSpec)

/-- ITS FALSE NEIGHBOUR: 'it returns false'. Refute it at one input. -/
def gcDoesWrong : ChangeSpec := { name := "gcDoes", fn := fun _ => fun
  | [d1, d2, d3] => { results := [.lit (.bool false)], args := [d1, d2, d3] }
  | _ => none }
def GcDoesWrongFalsely : Prop := gcDoesRow.holds Tryd.pinned (OpenSpec.ofChange gcDoesWrong)

/-- 'marquetrylaw03.GcKeeps': WHATEVER THE INPUT: true; the input reads as it did. -/
def gcKeepsSpec : ChangeSpec := { name := "gcKeeps", fn := fun _ => fun
  | [d1, d2, d3, d4] => { results := [.lit (.bool true)], args := [d1, d2, d3, d4] }
  | _ => none }
def gcKeepsRow : OpenClaim := { program := "ytbmkjlpjgkfjcaadoor", sum := "74139b213f54bf621267d3ef15254cede19bbb7c5a6a8c0ccd2d3127cf2767dd", func := "marquetry/marquetrylaw03.GcKeeps", spec := "gcKeeps", inPlace := ["slices.overlaps[marquetry/heap.run]"], unfollowed := true, recurses := true, named := ["math/bits.deBruijn64tab"], apart := false, laid := [("math/bits.deBruijn64tab", laid_math_bits_deBruijn64tab)] }
def GcKeepsSaid : Prop := gcKeepsRow.holds Tryd.pinned (OpenSpec.ofChange gcKeepsSpec)

/-- ITS FALSE NEIGHBOUR: 'it returns false'. Refute it at one input. -/
def gcKeepsWrong : ChangeSpec := { name := "gcKeeps", fn := fun _ => fun
  | [d1, d2, d3, d4] => { results := [.lit (.bool false)], args := [d1, d2, d3, d4] }
  | _ => none }
def GcKeepsWrongFalsely : Prop := gcKeepsRow.holds Tryd.pinned (OpenSpec.ofChange gcKeepsWrong)

/-- 'marquetrylaw03.GcFrees': WHATEVER THE INPUT: true; the input reads as it did. -/
def gcFreesSpec : ChangeSpec := { name := "gcFrees", fn := fun _ => fun
  | [d1, d2, d3, d4] => { results := [.lit (.bool true)], args := [d1, d2, d3, d4] }
  | _ => none }
def gcFreesRow : OpenClaim := { program := "ytbmkjlpjgkfjcaadoor", sum := "74139b213f54bf621267d3ef15254cede19bbb7c5a6a8c0ccd2d3127cf2767dd", func := "marquetry/marquetrylaw03.GcFrees", spec := "gcFrees", inPlace := ["slices.overlaps[marquetry/heap.run]"], unfollowed := true, recurses := true, named := ["math/bits.deBruijn64tab"], apart := false, laid := [("math/bits.deBruijn64tab", laid_math_bits_deBruijn64tab)] }
def GcFreesSaid : Prop := gcFreesRow.holds Tryd.pinned (OpenSpec.ofChange gcFreesSpec)

/-- ITS FALSE NEIGHBOUR: 'it returns false'. Refute it at one input. -/
def gcFreesWrong : ChangeSpec := { name := "gcFrees", fn := fun _ => fun
  | [d1, d2, d3, d4] => { results := [.lit (.bool false)], args := [d1, d2, d3, d4] }
  | _ => none }
def GcFreesWrongFalsely : Prop := gcFreesRow.holds Tryd.pinned (OpenSpec.ofChange gcFreesWrong)

/-- 'marquetrylaw03.GcSteps': WHATEVER THE INPUT: true; the input reads as it did. -/
def gcStepsSpec : ChangeSpec := { name := "gcSteps", fn := fun _ => fun
  | [d1, d2, d3, d4] => { results := [.lit (.bool true)], args := [d1, d2, d3, d4] }
  | _ => none }
def gcStepsRow : OpenClaim := { program := "ytbmkjlpjgkfjcaadoor", sum := "74139b213f54bf621267d3ef15254cede19bbb7c5a6a8c0ccd2d3127cf2767dd", func := "marquetry/marquetrylaw03.GcSteps", spec := "gcSteps", inPlace := ["slices.overlaps[marquetry/heap.run]"], unfollowed := true, recurses := true, named := ["math/bits.deBruijn64tab"], apart := false, laid := [("math/bits.deBruijn64tab", laid_math_bits_deBruijn64tab)] }
def GcStepsSaid : Prop := gcStepsRow.holds Tryd.pinned (OpenSpec.ofChange gcStepsSpec)

/-- ITS FALSE NEIGHBOUR: 'it returns false'. Refute it at one input. -/
def gcStepsWrong : ChangeSpec := { name := "gcSteps", fn := fun _ => fun
  | [d1, d2, d3, d4] => { results := [.lit (.bool false)], args := [d1, d2, d3, d4] }
  | _ => none }
def GcStepsWrongFalsely : Prop := gcStepsRow.holds Tryd.pinned (OpenSpec.ofChange gcStepsWrong)

/-- 'marquetrylaw03.GcSafe': WHATEVER THE INPUT: true; the input reads as it did. -/
def gcSafeSpec : ChangeSpec := { name := "gcSafe", fn := fun _ => fun
  | [d1, d2] => { results := [.lit (.bool true)], args := [d1, d2] }
  | _ => none }
def gcSafeRow : OpenClaim := { program := "ytbmkjlpjgkfjcaadoor", sum := "74139b213f54bf621267d3ef15254cede19bbb7c5a6a8c0ccd2d3127cf2767dd", func := "marquetry/marquetrylaw03.GcSafe", spec := "gcSafe", inPlace := ["slices.overlaps[marquetry/heap.run]"], unfollowed := true, recurses := true, named := ["math/bits.deBruijn64tab"], apart := false, laid := [("math/bits.deBruijn64tab", laid_math_bits_deBruijn64tab)] }
def GcSafeSaid : Prop := gcSafeRow.holds Tryd.pinned (OpenSpec.ofChange gcSafeSpec)

/-- ITS FALSE NEIGHBOUR: 'it returns false'. Refute it at one input. -/
def gcSafeWrong : ChangeSpec := { name := "gcSafe", fn := fun _ => fun
  | [d1, d2] => { results := [.lit (.bool false)], args := [d1, d2] }
  | _ => none }
def GcSafeWrongFalsely : Prop := gcSafeRow.holds Tryd.pinned (OpenSpec.ofChange gcSafeWrong)

/-- 'marquetrylaw04.StoreSame': WHATEVER THE INPUT: true; the input reads as it did. -/
def storeSameSpec : ChangeSpec := { name := "storeSame", fn := fun _ => fun
  | [d1, d2] => { results := [.lit (.bool true)], args := [d1, d2] }
  | _ => none }
def storeSameRow : OpenClaim := { program := "ytbmkjlpjgkfjcaadoor", sum := "74139b213f54bf621267d3ef15254cede19bbb7c5a6a8c0ccd2d3127cf2767dd", func := "marquetry/marquetrylaw04.StoreSame", spec := "storeSame", inPlace := ["slices.overlaps[marquetry/heap.run]"], unfollowed := true, recurses := true, named := ["math/bits.deBruijn64tab"], apart := false, laid := [("math/bits.deBruijn64tab", laid_math_bits_deBruijn64tab)] }
def StoreSameSaid : Prop := storeSameRow.holds Tryd.pinned (OpenSpec.ofChange storeSameSpec)

/-- ITS FALSE NEIGHBOUR: 'it returns false'. Refute it at one input. -/
def storeSameWrong : ChangeSpec := { name := "storeSame", fn := fun _ => fun
  | [d1, d2] => { results := [.lit (.bool false)], args := [d1, d2] }
  | _ => none }
def StoreSameWrongFalsely : Prop := storeSameRow.holds Tryd.pinned (OpenSpec.ofChange storeSameWrong)

/-- 'marquetrylaw04.StoreTexts': WHATEVER THE INPUT: true; the input reads as it did. -/
def storeTextsSpec : ChangeSpec := { name := "storeTexts", fn := fun _ => fun
  | [d1, d2, d3] => { results := [.lit (.bool true)], args := [d1, d2, d3] }
  | _ => none }
def storeTextsRow : OpenClaim := { program := "ytbmkjlpjgkfjcaadoor", sum := "74139b213f54bf621267d3ef15254cede19bbb7c5a6a8c0ccd2d3127cf2767dd", func := "marquetry/marquetrylaw04.StoreTexts", spec := "storeTexts", inPlace := ["slices.overlaps[marquetry/heap.run]"], unfollowed := true, recurses := true, named := ["math/bits.deBruijn64tab"], apart := false, laid := [("math/bits.deBruijn64tab", laid_math_bits_deBruijn64tab)] }
def StoreTextsSaid : Prop := storeTextsRow.holds Tryd.pinned (OpenSpec.ofChange storeTextsSpec)

/-- ITS FALSE NEIGHBOUR: 'it returns false'. Refute it at one input. -/
def storeTextsWrong : ChangeSpec := { name := "storeTexts", fn := fun _ => fun
  | [d1, d2, d3] => { results := [.lit (.bool false)], args := [d1, d2, d3] }
  | _ => none }
def StoreTextsWrongFalsely : Prop := storeTextsRow.holds Tryd.pinned (OpenSpec.ofChange storeTextsWrong)

/-- 'marquetrylaw04.StoreCycles': WHATEVER THE INPUT: true; the input reads as it did. -/
def storeCyclesSpec : ChangeSpec := { name := "storeCycles", fn := fun _ => fun
  | [d1, d2] => { results := [.lit (.bool true)], args := [d1, d2] }
  | _ => none }
def storeCyclesRow : OpenClaim := { program := "ytbmkjlpjgkfjcaadoor", sum := "74139b213f54bf621267d3ef15254cede19bbb7c5a6a8c0ccd2d3127cf2767dd", func := "marquetry/marquetrylaw04.StoreCycles", spec := "storeCycles", inPlace := ["slices.overlaps[marquetry/heap.run]"], unfollowed := true, recurses := true, named := ["math/bits.deBruijn64tab"], apart := false, laid := [("math/bits.deBruijn64tab", laid_math_bits_deBruijn64tab)] }
def StoreCyclesSaid : Prop := storeCyclesRow.holds Tryd.pinned (OpenSpec.ofChange storeCyclesSpec)

/-- ITS FALSE NEIGHBOUR: 'it returns false'. Refute it at one input. -/
def storeCyclesWrong : ChangeSpec := { name := "storeCycles", fn := fun _ => fun
  | [d1, d2] => { results := [.lit (.bool false)], args := [d1, d2] }
  | _ => none }
def StoreCyclesWrongFalsely : Prop := storeCyclesRow.holds Tryd.pinned (OpenSpec.ofChange storeCyclesWrong)

/- THE SECOND FORM. 'bulk': how many values and letters a reading holds, each counted each time it is reached (what is shared counts as often as it is met; a slice's spare places count too). A statement '..UptoSaid' is the law's where the arguments, and the package variables that the reading takes, are together of bulk at most 1048576: NARROWER than '..Said'. Prove '..Said' where nothing that the law and all that it calls make is longer than what came in: it says more and counts as full. Else prove '..UptoSaid'. A law counts once. -/
mutual
def uptoBulk {H : Type} : DataW H → Nat
  | .lit (.string bytes) => bytes.length + 1
  | .lit _ => 1
  | .nil => 1
  | .ptr d => uptoBulk d + 1
  | .slice elems spare => uptoBulkAll elems + uptoBulkAll spare + 1
  | .agg parts => uptoBulkAll parts + 1
  | .iface _ d => uptoBulk d + 1
  | .map entries => uptoBulkEntries entries + 1
  | .held _ => 1
def uptoBulkAll {H : Type} : List (DataW H) → Nat
  | [] => 0
  | d :: r => uptoBulk d + uptoBulkAll r
def uptoBulkEntries {H : Type} : List (Lit × DataW H) → Nat
  | [] => 0
  | x :: r => uptoBulkEntry x + uptoBulkEntries r
def uptoBulkEntry {H : Type} : Lit × DataW H → Nat
  | (.string bytes, d) => bytes.length + uptoBulk d + 1
  | (_, d) => uptoBulk d + 1
 end
def uptoSmall : (H : Type) → List (DataW H) → Bool := fun _ ds => decide (uptoBulkAll ds ≤ 1048576)
def OpenSpec.upto (s : _root_.Go.ChangeSpec) : _root_.Go.OpenSpec := { _root_.Go.OpenSpec.ofChange s with cond := some uptoSmall }

/-- 'marquetrylaw02.HeapDoes', WHERE WHAT IT READS IS OF BULK AT MOST 1048576: true; the input reads as it did. -/
def heapDoesUptoRow : OpenClaim := { program := "ytbmkjlpjgkfjcaadoor", sum := "74139b213f54bf621267d3ef15254cede19bbb7c5a6a8c0ccd2d3127cf2767dd", func := "marquetry/marquetrylaw02.HeapDoes", spec := "heapDoes", inPlace := ["slices.overlaps[marquetry/heap.run]"], unfollowed := true, recurses := true, named := ["math/bits.deBruijn64tab"], apart := false, laid := [("math/bits.deBruijn64tab", laid_math_bits_deBruijn64tab)], narrowed := true }
def HeapDoesUptoSaid : Prop := heapDoesUptoRow.holds Tryd.pinned (OpenSpec.upto heapDoesSpec)

/-- 'marquetrylaw02.HeapApart', WHERE WHAT IT READS IS OF BULK AT MOST 1048576: true; the input reads as it did. -/
def heapApartUptoRow : OpenClaim := { program := "ytbmkjlpjgkfjcaadoor", sum := "74139b213f54bf621267d3ef15254cede19bbb7c5a6a8c0ccd2d3127cf2767dd", func := "marquetry/marquetrylaw02.HeapApart", spec := "heapApart", inPlace := ["slices.overlaps[marquetry/heap.run]"], unfollowed := true, recurses := true, named := ["math/bits.deBruijn64tab"], apart := false, laid := [("math/bits.deBruijn64tab", laid_math_bits_deBruijn64tab)], narrowed := true }
def HeapApartUptoSaid : Prop := heapApartUptoRow.holds Tryd.pinned (OpenSpec.upto heapApartSpec)

/-- 'marquetrylaw03.GcDoes', WHERE WHAT IT READS IS OF BULK AT MOST 1048576: true; the input reads as it did. -/
def gcDoesUptoRow : OpenClaim := { program := "ytbmkjlpjgkfjcaadoor", sum := "74139b213f54bf621267d3ef15254cede19bbb7c5a6a8c0ccd2d3127cf2767dd", func := "marquetry/marquetrylaw03.GcDoes", spec := "gcDoes", inPlace := ["slices.overlaps[marquetry/heap.run]"], unfollowed := true, recurses := true, named := ["math/bits.deBruijn64tab"], apart := false, laid := [("math/bits.deBruijn64tab", laid_math_bits_deBruijn64tab)], narrowed := true }
def GcDoesUptoSaid : Prop := gcDoesUptoRow.holds Tryd.pinned (OpenSpec.upto gcDoesSpec)

/-- 'marquetrylaw03.GcKeeps', WHERE WHAT IT READS IS OF BULK AT MOST 1048576: true; the input reads as it did. -/
def gcKeepsUptoRow : OpenClaim := { program := "ytbmkjlpjgkfjcaadoor", sum := "74139b213f54bf621267d3ef15254cede19bbb7c5a6a8c0ccd2d3127cf2767dd", func := "marquetry/marquetrylaw03.GcKeeps", spec := "gcKeeps", inPlace := ["slices.overlaps[marquetry/heap.run]"], unfollowed := true, recurses := true, named := ["math/bits.deBruijn64tab"], apart := false, laid := [("math/bits.deBruijn64tab", laid_math_bits_deBruijn64tab)], narrowed := true }
def GcKeepsUptoSaid : Prop := gcKeepsUptoRow.holds Tryd.pinned (OpenSpec.upto gcKeepsSpec)

/-- 'marquetrylaw03.GcFrees', WHERE WHAT IT READS IS OF BULK AT MOST 1048576: true; the input reads as it did. -/
def gcFreesUptoRow : OpenClaim := { program := "ytbmkjlpjgkfjcaadoor", sum := "74139b213f54bf621267d3ef15254cede19bbb7c5a6a8c0ccd2d3127cf2767dd", func := "marquetry/marquetrylaw03.GcFrees", spec := "gcFrees", inPlace := ["slices.overlaps[marquetry/heap.run]"], unfollowed := true, recurses := true, named := ["math/bits.deBruijn64tab"], apart := false, laid := [("math/bits.deBruijn64tab", laid_math_bits_deBruijn64tab)], narrowed := true }
def GcFreesUptoSaid : Prop := gcFreesUptoRow.holds Tryd.pinned (OpenSpec.upto gcFreesSpec)

/-- 'marquetrylaw03.GcSteps', WHERE WHAT IT READS IS OF BULK AT MOST 1048576: true; the input reads as it did. -/
def gcStepsUptoRow : OpenClaim := { program := "ytbmkjlpjgkfjcaadoor", sum := "74139b213f54bf621267d3ef15254cede19bbb7c5a6a8c0ccd2d3127cf2767dd", func := "marquetry/marquetrylaw03.GcSteps", spec := "gcSteps", inPlace := ["slices.overlaps[marquetry/heap.run]"], unfollowed := true, recurses := true, named := ["math/bits.deBruijn64tab"], apart := false, laid := [("math/bits.deBruijn64tab", laid_math_bits_deBruijn64tab)], narrowed := true }
def GcStepsUptoSaid : Prop := gcStepsUptoRow.holds Tryd.pinned (OpenSpec.upto gcStepsSpec)

/-- 'marquetrylaw03.GcSafe', WHERE WHAT IT READS IS OF BULK AT MOST 1048576: true; the input reads as it did. -/
def gcSafeUptoRow : OpenClaim := { program := "ytbmkjlpjgkfjcaadoor", sum := "74139b213f54bf621267d3ef15254cede19bbb7c5a6a8c0ccd2d3127cf2767dd", func := "marquetry/marquetrylaw03.GcSafe", spec := "gcSafe", inPlace := ["slices.overlaps[marquetry/heap.run]"], unfollowed := true, recurses := true, named := ["math/bits.deBruijn64tab"], apart := false, laid := [("math/bits.deBruijn64tab", laid_math_bits_deBruijn64tab)], narrowed := true }
def GcSafeUptoSaid : Prop := gcSafeUptoRow.holds Tryd.pinned (OpenSpec.upto gcSafeSpec)

/-- 'marquetrylaw04.StoreSame', WHERE WHAT IT READS IS OF BULK AT MOST 1048576: true; the input reads as it did. -/
def storeSameUptoRow : OpenClaim := { program := "ytbmkjlpjgkfjcaadoor", sum := "74139b213f54bf621267d3ef15254cede19bbb7c5a6a8c0ccd2d3127cf2767dd", func := "marquetry/marquetrylaw04.StoreSame", spec := "storeSame", inPlace := ["slices.overlaps[marquetry/heap.run]"], unfollowed := true, recurses := true, named := ["math/bits.deBruijn64tab"], apart := false, laid := [("math/bits.deBruijn64tab", laid_math_bits_deBruijn64tab)], narrowed := true }
def StoreSameUptoSaid : Prop := storeSameUptoRow.holds Tryd.pinned (OpenSpec.upto storeSameSpec)

/-- 'marquetrylaw04.StoreTexts', WHERE WHAT IT READS IS OF BULK AT MOST 1048576: true; the input reads as it did. -/
def storeTextsUptoRow : OpenClaim := { program := "ytbmkjlpjgkfjcaadoor", sum := "74139b213f54bf621267d3ef15254cede19bbb7c5a6a8c0ccd2d3127cf2767dd", func := "marquetry/marquetrylaw04.StoreTexts", spec := "storeTexts", inPlace := ["slices.overlaps[marquetry/heap.run]"], unfollowed := true, recurses := true, named := ["math/bits.deBruijn64tab"], apart := false, laid := [("math/bits.deBruijn64tab", laid_math_bits_deBruijn64tab)], narrowed := true }
def StoreTextsUptoSaid : Prop := storeTextsUptoRow.holds Tryd.pinned (OpenSpec.upto storeTextsSpec)

/-- 'marquetrylaw04.StoreCycles', WHERE WHAT IT READS IS OF BULK AT MOST 1048576: true; the input reads as it did. -/
def storeCyclesUptoRow : OpenClaim := { program := "ytbmkjlpjgkfjcaadoor", sum := "74139b213f54bf621267d3ef15254cede19bbb7c5a6a8c0ccd2d3127cf2767dd", func := "marquetry/marquetrylaw04.StoreCycles", spec := "storeCycles", inPlace := ["slices.overlaps[marquetry/heap.run]"], unfollowed := true, recurses := true, named := ["math/bits.deBruijn64tab"], apart := false, laid := [("math/bits.deBruijn64tab", laid_math_bits_deBruijn64tab)], narrowed := true }
def StoreCyclesUptoSaid : Prop := storeCyclesUptoRow.holds Tryd.pinned (OpenSpec.upto storeCyclesSpec)

end Rows
end Go.Proofs.YtbmkjlpjgkfjcaaDoor
