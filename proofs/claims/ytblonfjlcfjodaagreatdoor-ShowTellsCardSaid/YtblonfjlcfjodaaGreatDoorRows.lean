/-
  NARROWER THAN 'FOR EVERY INPUT', by the rows' own cells (each row's printed sentence says how): ParseReads: laid · ShowTells: loops, laid · ShowPatterns: loops, laid · ResolveFits: laid · ResolveNames: laid · ResolveShort: laid · ResolveBound: laid · ResolveShift: laid.
  DERIVED. THE GIVEN ROWS OF THIS SEAT. 8 by the template 'for every input the law returns true; each argument reads behind the call as it read before'; 0 by the template 'total and deterministic' (their statements: YtblonfjlcfjodaaGreatDoorTotals.lean).
  GIVEN WITH THE SEED: the statements are not yours to turn. If you find one false, say at which input.
  Laid BY PROGRAM, IN A SANDBOX (cutbox-rows.mjs): the forced cells as the released guide's own fill.sh prints them over the translation d6bba976a531b630… (all of the seat's roots in one cut). By AI agents, Wed Nov 11 2026. No macro, syntax, notation, axiom, sorry.
-/
import Derived.Test.YtblonfjlcfjodaaGreatDoorChecked
import GoSem.Claim
import GoSem.ClaimJoined
import GoSem.ClaimMapViews
import Derived.JoinedTies
import Derived.KernelRfl
namespace Go.Proofs.YtblonfjlcfjodaaGreatDoor
/- THE CELL 'sum', in the pinned program and in every row, IS THE sha256 OF THE DUMP (.gsa) THAT YtblonfjlcfjodaaGreatDoorProg.lean LOADS. Nothing in Lean hashes anything: it is a label: what it is worth is what the hold of that sum in a sandbox is worth. -/
noncomputable def Tryz.pinned : Pinned := { name := "ytblonfjlcfjodaagreatdoor", sum := "d6bba976a531b630b6ef9470db6de836d6916231e6174af0f707182d085de5af", checked := Tryz.checked }
namespace Rows
def none {H : Type} : Left H := { results := [], args := [] }

/- WHAT THE LISTED PACKAGE-LEVEL VARIABLES READ AS WHEN THE CALL BEGINS. Each datum BY PROGRAM (the guide's laid-datum.mjs) off the statement by which the dump's own 'gosem.cut.vars' lays the variable. In a bare row this is a premise. The card (YtblonfjlcfjodaaGreatDoorCards.lean) ties it to the program's text. -/
def laid_marquetry_lex_symbols {H : Type} : DataW H := .slice [.lit (.string [45, 62]), .lit (.string [58, 61]), .lit (.string [38, 38]), .lit (.string [124, 124]), .lit (.string [40]), .lit (.string [41]), .lit (.string [123]), .lit (.string [125]), .lit (.string [61]), .lit (.string [59]), .lit (.string [44]), .lit (.string [46]), .lit (.string [124]), .lit (.string [43]), .lit (.string [45]), .lit (.string [42]), .lit (.string [47]), .lit (.string [37]), .lit (.string [60]), .lit (.string [33])] []
def laid_marquetry_parse_levels {H : Type} : DataW H := .agg [.agg [.lit (.int .i64 22), .lit (.int .i64 2), .agg [.lit (.string [124, 124]), .lit (.string []), .lit (.string [])]], .agg [.lit (.int .i64 21), .lit (.int .i64 2), .agg [.lit (.string [38, 38]), .lit (.string []), .lit (.string [])]], .agg [.lit (.int .i64 19), .lit (.int .i64 0), .agg [.lit (.string [61]), .lit (.string [60]), .lit (.string [])]], .agg [.lit (.int .i64 19), .lit (.int .i64 1), .agg [.lit (.string [43]), .lit (.string [45]), .lit (.string [])]], .agg [.lit (.int .i64 19), .lit (.int .i64 1), .agg [.lit (.string [42]), .lit (.string [47]), .lit (.string [37])]]]
def laid_marquetry_parse_words {H : Type} : DataW H := .agg [.agg [.lit (.string [114, 101, 102]), .lit (.string [108, 101, 110]), .lit (.string [115, 105, 122, 101]), .lit (.string [103, 101, 116, 99]), .lit (.string [112, 117, 116, 99])], .agg [.lit (.string [97, 114, 114, 97, 121]), .lit (.string [103, 101, 116]), .lit (.string [98, 121, 116, 101]), .lit (.string [99, 97, 116]), .lit (.string [])], .agg [.lit (.string [115, 101, 116]), .lit (.string []), .lit (.string []), .lit (.string []), .lit (.string [])]]
def laid_math_bits_deBruijn32tab {H : Type} : DataW H := .agg [.lit (.int .u8 0), .lit (.int .u8 1), .lit (.int .u8 28), .lit (.int .u8 2), .lit (.int .u8 29), .lit (.int .u8 14), .lit (.int .u8 24), .lit (.int .u8 3), .lit (.int .u8 30), .lit (.int .u8 22), .lit (.int .u8 20), .lit (.int .u8 15), .lit (.int .u8 25), .lit (.int .u8 17), .lit (.int .u8 4), .lit (.int .u8 8), .lit (.int .u8 31), .lit (.int .u8 27), .lit (.int .u8 13), .lit (.int .u8 23), .lit (.int .u8 21), .lit (.int .u8 19), .lit (.int .u8 16), .lit (.int .u8 7), .lit (.int .u8 26), .lit (.int .u8 12), .lit (.int .u8 18), .lit (.int .u8 6), .lit (.int .u8 11), .lit (.int .u8 5), .lit (.int .u8 10), .lit (.int .u8 9)]
def laid_math_bits_deBruijn64tab {H : Type} : DataW H := .agg [.lit (.int .u8 0), .lit (.int .u8 1), .lit (.int .u8 56), .lit (.int .u8 2), .lit (.int .u8 57), .lit (.int .u8 49), .lit (.int .u8 28), .lit (.int .u8 3), .lit (.int .u8 61), .lit (.int .u8 58), .lit (.int .u8 42), .lit (.int .u8 50), .lit (.int .u8 38), .lit (.int .u8 29), .lit (.int .u8 17), .lit (.int .u8 4), .lit (.int .u8 62), .lit (.int .u8 47), .lit (.int .u8 59), .lit (.int .u8 36), .lit (.int .u8 45), .lit (.int .u8 43), .lit (.int .u8 51), .lit (.int .u8 22), .lit (.int .u8 53), .lit (.int .u8 39), .lit (.int .u8 33), .lit (.int .u8 30), .lit (.int .u8 24), .lit (.int .u8 18), .lit (.int .u8 12), .lit (.int .u8 5), .lit (.int .u8 63), .lit (.int .u8 55), .lit (.int .u8 48), .lit (.int .u8 27), .lit (.int .u8 60), .lit (.int .u8 41), .lit (.int .u8 37), .lit (.int .u8 16), .lit (.int .u8 46), .lit (.int .u8 35), .lit (.int .u8 44), .lit (.int .u8 21), .lit (.int .u8 52), .lit (.int .u8 32), .lit (.int .u8 23), .lit (.int .u8 11), .lit (.int .u8 54), .lit (.int .u8 26), .lit (.int .u8 40), .lit (.int .u8 15), .lit (.int .u8 34), .lit (.int .u8 20), .lit (.int .u8 31), .lit (.int .u8 10), .lit (.int .u8 25), .lit (.int .u8 14), .lit (.int .u8 19), .lit (.int .u8 9), .lit (.int .u8 13), .lit (.int .u8 8), .lit (.int .u8 7), .lit (.int .u8 6)]
def laid_internal_strconv_uint64pow10 {H : Type} : DataW H := .agg [.lit (.int .u64 1), .lit (.int .u64 10), .lit (.int .u64 100), .lit (.int .u64 1000), .lit (.int .u64 10000), .lit (.int .u64 100000), .lit (.int .u64 1000000), .lit (.int .u64 10000000), .lit (.int .u64 100000000), .lit (.int .u64 1000000000), .lit (.int .u64 10000000000), .lit (.int .u64 100000000000), .lit (.int .u64 1000000000000), .lit (.int .u64 10000000000000), .lit (.int .u64 100000000000000), .lit (.int .u64 1000000000000000), .lit (.int .u64 10000000000000000), .lit (.int .u64 100000000000000000), .lit (.int .u64 1000000000000000000), .lit (.int .u64 10000000000000000000)]
def laid_marquetry_resolve_termKinds {H : Type} : DataW H := .agg [.lit (.int .i64 0), .lit (.int .i64 1), .lit (.int .i64 2), .lit (.int .i64 3), .lit (.int .i64 4), .lit (.int .i64 5), .lit (.int .i64 6), .lit (.int .i64 7), .lit (.int .i64 8), .lit (.int .i64 9), .lit (.int .i64 10), .lit (.int .i64 11), .lit (.int .i64 12), .lit (.int .i64 13), .lit (.int .i64 14), .lit (.int .i64 15), .lit (.int .i64 16), .lit (.int .i64 17), .lit (.int .i64 18), .lit (.int .i64 19), .lit (.int .i64 9), .lit (.int .i64 11), .lit (.int .i64 11)]

/-- 'marquetrylaw06.ParseReads': WHATEVER THE INPUT: true; the input reads as it did. -/
def parseReadsSpec : ChangeSpec := { name := "parseReads", fn := fun _ => fun
  | [d] => { results := [.lit (.bool true)], args := [d] }
  | _ => none }
def parseReadsRow : OpenClaim := { program := "ytblonfjlcfjodaagreatdoor", sum := "d6bba976a531b630b6ef9470db6de836d6916231e6174af0f707182d085de5af", func := "marquetry/marquetrylaw06.ParseReads", spec := "parseReads", inPlace := ["internal/bytealg.IndexByteString", "internal/abi.NoEscape"], unfollowed := true, recurses := true, named := ["marquetry/lex.symbols", "marquetry/parse.levels", "marquetry/parse.words"], apart := false, laid := [("marquetry/lex.symbols", laid_marquetry_lex_symbols), ("marquetry/parse.levels", laid_marquetry_parse_levels), ("marquetry/parse.words", laid_marquetry_parse_words)] }
def ParseReadsSaid : Prop := parseReadsRow.holds Tryz.pinned (OpenSpec.ofChange parseReadsSpec)

/-- ITS FALSE NEIGHBOUR: 'it returns false'. Refute it at one input. -/
def parseReadsWrong : ChangeSpec := { name := "parseReads", fn := fun _ => fun
  | [d] => { results := [.lit (.bool false)], args := [d] }
  | _ => none }
def ParseReadsWrongFalsely : Prop := parseReadsRow.holds Tryz.pinned (OpenSpec.ofChange parseReadsWrong)

/-- 'marquetrylaw07.ShowTells': WHATEVER THE INPUT: true; the input reads as it did. -/
def showTellsSpec : ChangeSpec := { name := "showTells", fn := fun _ => fun
  | [d] => { results := [.lit (.bool true)], args := [d] }
  | _ => none }
def showTellsRow : OpenClaim := { program := "ytblonfjlcfjodaagreatdoor", sum := "d6bba976a531b630b6ef9470db6de836d6916231e6174af0f707182d085de5af", func := "marquetry/marquetrylaw07.ShowTells", spec := "showTells", inPlace := ["internal/bytealg.IndexByteString", "internal/abi.NoEscape"], unfollowed := true, recurses := true, named := ["marquetry/lex.symbols", "marquetry/parse.levels", "marquetry/parse.words", "internal/strconv.uint64pow10", "math/bits.deBruijn32tab", "math/bits.deBruijn64tab"], loops := true, apart := false, laid := [("math/bits.deBruijn32tab", laid_math_bits_deBruijn32tab), ("math/bits.deBruijn64tab", laid_math_bits_deBruijn64tab), ("internal/strconv.uint64pow10", laid_internal_strconv_uint64pow10), ("marquetry/lex.symbols", laid_marquetry_lex_symbols), ("marquetry/parse.levels", laid_marquetry_parse_levels), ("marquetry/parse.words", laid_marquetry_parse_words)] }
def ShowTellsSaid : Prop := showTellsRow.holds Tryz.pinned (OpenSpec.ofChange showTellsSpec)

/-- ITS FALSE NEIGHBOUR: 'it returns false'. Refute it at one input. -/
def showTellsWrong : ChangeSpec := { name := "showTells", fn := fun _ => fun
  | [d] => { results := [.lit (.bool false)], args := [d] }
  | _ => none }
def ShowTellsWrongFalsely : Prop := showTellsRow.holds Tryz.pinned (OpenSpec.ofChange showTellsWrong)

/-- 'marquetrylaw07.ShowPatterns': WHATEVER THE INPUT: true; the input reads as it did. -/
def showPatternsSpec : ChangeSpec := { name := "showPatterns", fn := fun _ => fun
  | [d] => { results := [.lit (.bool true)], args := [d] }
  | _ => none }
def showPatternsRow : OpenClaim := { program := "ytblonfjlcfjodaagreatdoor", sum := "d6bba976a531b630b6ef9470db6de836d6916231e6174af0f707182d085de5af", func := "marquetry/marquetrylaw07.ShowPatterns", spec := "showPatterns", inPlace := ["internal/bytealg.IndexByteString", "internal/abi.NoEscape"], unfollowed := true, recurses := true, named := ["marquetry/lex.symbols", "marquetry/parse.levels", "marquetry/parse.words", "internal/strconv.uint64pow10", "math/bits.deBruijn32tab", "math/bits.deBruijn64tab"], loops := true, apart := false, laid := [("math/bits.deBruijn32tab", laid_math_bits_deBruijn32tab), ("math/bits.deBruijn64tab", laid_math_bits_deBruijn64tab), ("internal/strconv.uint64pow10", laid_internal_strconv_uint64pow10), ("marquetry/lex.symbols", laid_marquetry_lex_symbols), ("marquetry/parse.levels", laid_marquetry_parse_levels), ("marquetry/parse.words", laid_marquetry_parse_words)] }
def ShowPatternsSaid : Prop := showPatternsRow.holds Tryz.pinned (OpenSpec.ofChange showPatternsSpec)

/-- ITS FALSE NEIGHBOUR: 'it returns false'. Refute it at one input. -/
def showPatternsWrong : ChangeSpec := { name := "showPatterns", fn := fun _ => fun
  | [d] => { results := [.lit (.bool false)], args := [d] }
  | _ => none }
def ShowPatternsWrongFalsely : Prop := showPatternsRow.holds Tryz.pinned (OpenSpec.ofChange showPatternsWrong)

/-- 'marquetrylaw08.ResolveFits': WHATEVER THE INPUT: true; the input reads as it did. -/
def resolveFitsSpec : ChangeSpec := { name := "resolveFits", fn := fun _ => fun
  | [d] => { results := [.lit (.bool true)], args := [d] }
  | _ => none }
def resolveFitsRow : OpenClaim := { program := "ytblonfjlcfjodaagreatdoor", sum := "d6bba976a531b630b6ef9470db6de836d6916231e6174af0f707182d085de5af", func := "marquetry/marquetrylaw08.ResolveFits", spec := "resolveFits", inPlace := ["internal/bytealg.IndexByteString", "internal/abi.NoEscape"], unfollowed := true, recurses := true, named := ["marquetry/lex.symbols", "marquetry/parse.levels", "marquetry/parse.words", "internal/strconv.uint64pow10", "math/bits.deBruijn32tab", "math/bits.deBruijn64tab", "marquetry/resolve.termKinds"], apart := false, laid := [("math/bits.deBruijn32tab", laid_math_bits_deBruijn32tab), ("math/bits.deBruijn64tab", laid_math_bits_deBruijn64tab), ("internal/strconv.uint64pow10", laid_internal_strconv_uint64pow10), ("marquetry/lex.symbols", laid_marquetry_lex_symbols), ("marquetry/parse.levels", laid_marquetry_parse_levels), ("marquetry/parse.words", laid_marquetry_parse_words), ("marquetry/resolve.termKinds", laid_marquetry_resolve_termKinds)] }
def ResolveFitsSaid : Prop := resolveFitsRow.holds Tryz.pinned (OpenSpec.ofChange resolveFitsSpec)

/-- ITS FALSE NEIGHBOUR: 'it returns false'. Refute it at one input. -/
def resolveFitsWrong : ChangeSpec := { name := "resolveFits", fn := fun _ => fun
  | [d] => { results := [.lit (.bool false)], args := [d] }
  | _ => none }
def ResolveFitsWrongFalsely : Prop := resolveFitsRow.holds Tryz.pinned (OpenSpec.ofChange resolveFitsWrong)

/-- 'marquetrylaw08.ResolveNames': WHATEVER THE INPUT: true; the input reads as it did. -/
def resolveNamesSpec : ChangeSpec := { name := "resolveNames", fn := fun _ => fun
  | [d] => { results := [.lit (.bool true)], args := [d] }
  | _ => none }
def resolveNamesRow : OpenClaim := { program := "ytblonfjlcfjodaagreatdoor", sum := "d6bba976a531b630b6ef9470db6de836d6916231e6174af0f707182d085de5af", func := "marquetry/marquetrylaw08.ResolveNames", spec := "resolveNames", inPlace := ["internal/bytealg.IndexByteString", "internal/abi.NoEscape"], unfollowed := true, recurses := true, named := ["marquetry/lex.symbols", "marquetry/parse.levels", "marquetry/parse.words", "internal/strconv.uint64pow10", "math/bits.deBruijn32tab", "math/bits.deBruijn64tab", "marquetry/resolve.termKinds"], apart := false, laid := [("math/bits.deBruijn32tab", laid_math_bits_deBruijn32tab), ("math/bits.deBruijn64tab", laid_math_bits_deBruijn64tab), ("internal/strconv.uint64pow10", laid_internal_strconv_uint64pow10), ("marquetry/lex.symbols", laid_marquetry_lex_symbols), ("marquetry/parse.levels", laid_marquetry_parse_levels), ("marquetry/parse.words", laid_marquetry_parse_words), ("marquetry/resolve.termKinds", laid_marquetry_resolve_termKinds)] }
def ResolveNamesSaid : Prop := resolveNamesRow.holds Tryz.pinned (OpenSpec.ofChange resolveNamesSpec)

/-- ITS FALSE NEIGHBOUR: 'it returns false'. Refute it at one input. -/
def resolveNamesWrong : ChangeSpec := { name := "resolveNames", fn := fun _ => fun
  | [d] => { results := [.lit (.bool false)], args := [d] }
  | _ => none }
def ResolveNamesWrongFalsely : Prop := resolveNamesRow.holds Tryz.pinned (OpenSpec.ofChange resolveNamesWrong)

/-- 'marquetrylaw08.ResolveShort': WHATEVER THE INPUT: true; the input reads as it did. -/
def resolveShortSpec : ChangeSpec := { name := "resolveShort", fn := fun _ => fun
  | [d1, d2] => { results := [.lit (.bool true)], args := [d1, d2] }
  | _ => none }
def resolveShortRow : OpenClaim := { program := "ytblonfjlcfjodaagreatdoor", sum := "d6bba976a531b630b6ef9470db6de836d6916231e6174af0f707182d085de5af", func := "marquetry/marquetrylaw08.ResolveShort", spec := "resolveShort", inPlace := ["internal/bytealg.IndexByteString", "internal/abi.NoEscape"], unfollowed := true, recurses := true, named := ["marquetry/lex.symbols", "marquetry/parse.levels", "marquetry/parse.words", "internal/strconv.uint64pow10", "math/bits.deBruijn32tab", "math/bits.deBruijn64tab", "marquetry/resolve.termKinds"], apart := false, laid := [("math/bits.deBruijn32tab", laid_math_bits_deBruijn32tab), ("math/bits.deBruijn64tab", laid_math_bits_deBruijn64tab), ("internal/strconv.uint64pow10", laid_internal_strconv_uint64pow10), ("marquetry/lex.symbols", laid_marquetry_lex_symbols), ("marquetry/parse.levels", laid_marquetry_parse_levels), ("marquetry/parse.words", laid_marquetry_parse_words), ("marquetry/resolve.termKinds", laid_marquetry_resolve_termKinds)] }
def ResolveShortSaid : Prop := resolveShortRow.holds Tryz.pinned (OpenSpec.ofChange resolveShortSpec)

/-- ITS FALSE NEIGHBOUR: 'it returns false'. Refute it at one input. -/
def resolveShortWrong : ChangeSpec := { name := "resolveShort", fn := fun _ => fun
  | [d1, d2] => { results := [.lit (.bool false)], args := [d1, d2] }
  | _ => none }
def ResolveShortWrongFalsely : Prop := resolveShortRow.holds Tryz.pinned (OpenSpec.ofChange resolveShortWrong)

/-- 'marquetrylaw08.ResolveBound': WHATEVER THE INPUT: true; the input reads as it did. -/
def resolveBoundSpec : ChangeSpec := { name := "resolveBound", fn := fun _ => fun
  | [d] => { results := [.lit (.bool true)], args := [d] }
  | _ => none }
def resolveBoundRow : OpenClaim := { program := "ytblonfjlcfjodaagreatdoor", sum := "d6bba976a531b630b6ef9470db6de836d6916231e6174af0f707182d085de5af", func := "marquetry/marquetrylaw08.ResolveBound", spec := "resolveBound", inPlace := ["internal/bytealg.IndexByteString", "internal/abi.NoEscape"], unfollowed := true, recurses := true, named := ["marquetry/lex.symbols", "marquetry/parse.levels", "marquetry/parse.words", "internal/strconv.uint64pow10", "math/bits.deBruijn32tab", "math/bits.deBruijn64tab", "marquetry/resolve.termKinds"], apart := false, laid := [("math/bits.deBruijn32tab", laid_math_bits_deBruijn32tab), ("math/bits.deBruijn64tab", laid_math_bits_deBruijn64tab), ("internal/strconv.uint64pow10", laid_internal_strconv_uint64pow10), ("marquetry/lex.symbols", laid_marquetry_lex_symbols), ("marquetry/parse.levels", laid_marquetry_parse_levels), ("marquetry/parse.words", laid_marquetry_parse_words), ("marquetry/resolve.termKinds", laid_marquetry_resolve_termKinds)] }
def ResolveBoundSaid : Prop := resolveBoundRow.holds Tryz.pinned (OpenSpec.ofChange resolveBoundSpec)

/-- ITS FALSE NEIGHBOUR: 'it returns false'. Refute it at one input. -/
def resolveBoundWrong : ChangeSpec := { name := "resolveBound", fn := fun _ => fun
  | [d] => { results := [.lit (.bool false)], args := [d] }
  | _ => none }
def ResolveBoundWrongFalsely : Prop := resolveBoundRow.holds Tryz.pinned (OpenSpec.ofChange resolveBoundWrong)

/-- 'marquetrylaw08.ResolveShift': WHATEVER THE INPUT: true; the input reads as it did. -/
def resolveShiftSpec : ChangeSpec := { name := "resolveShift", fn := fun _ => fun
  | [d] => { results := [.lit (.bool true)], args := [d] }
  | _ => none }
def resolveShiftRow : OpenClaim := { program := "ytblonfjlcfjodaagreatdoor", sum := "d6bba976a531b630b6ef9470db6de836d6916231e6174af0f707182d085de5af", func := "marquetry/marquetrylaw08.ResolveShift", spec := "resolveShift", inPlace := ["internal/bytealg.IndexByteString", "internal/abi.NoEscape"], unfollowed := true, recurses := true, named := ["marquetry/lex.symbols", "marquetry/parse.levels", "marquetry/parse.words", "internal/strconv.uint64pow10", "math/bits.deBruijn32tab", "math/bits.deBruijn64tab", "marquetry/resolve.termKinds"], apart := false, laid := [("math/bits.deBruijn32tab", laid_math_bits_deBruijn32tab), ("math/bits.deBruijn64tab", laid_math_bits_deBruijn64tab), ("internal/strconv.uint64pow10", laid_internal_strconv_uint64pow10), ("marquetry/lex.symbols", laid_marquetry_lex_symbols), ("marquetry/parse.levels", laid_marquetry_parse_levels), ("marquetry/parse.words", laid_marquetry_parse_words), ("marquetry/resolve.termKinds", laid_marquetry_resolve_termKinds)] }
def ResolveShiftSaid : Prop := resolveShiftRow.holds Tryz.pinned (OpenSpec.ofChange resolveShiftSpec)

/-- ITS FALSE NEIGHBOUR: 'it returns false'. Refute it at one input. -/
def resolveShiftWrong : ChangeSpec := { name := "resolveShift", fn := fun _ => fun
  | [d] => { results := [.lit (.bool false)], args := [d] }
  | _ => none }
def ResolveShiftWrongFalsely : Prop := resolveShiftRow.holds Tryz.pinned (OpenSpec.ofChange resolveShiftWrong)

/- THE SECOND FORM. 'bulk': how many values and letters a reading holds, each counted each time it is reached (what is shared counts as often as it is met; a slice's spare places count too). A statement '..UptoSaid' is the law's where the arguments, and the package variables that the reading takes, are together of bulk at most 1048576: NARROWER than '..Said'. Prove '..Said' where nothing that the law and all that it calls make is longer than what came in: it says more and counts as full. Else prove '..UptoSaid'. A law counts once. -/
mutual
def uptoBulk {H : Type} : DataW H → Nat
  | .lit (.string bytes) => bytes.length + 1
  | .lit _ => 1
  | .nil => 1
  | .ptr d => uptoBulk d + 1
  | .slice elems spare => uptoBulkAll elems + uptoBulkAll spare + 1
  | .agg parts => uptoBulkAll parts + 1
  | .iface _ d => uptoBulk d + 1
  | .map entries => uptoBulkEntries entries + 1
  | .held _ => 1
def uptoBulkAll {H : Type} : List (DataW H) → Nat
  | [] => 0
  | d :: r => uptoBulk d + uptoBulkAll r
def uptoBulkEntries {H : Type} : List (Lit × DataW H) → Nat
  | [] => 0
  | x :: r => uptoBulkEntry x + uptoBulkEntries r
def uptoBulkEntry {H : Type} : Lit × DataW H → Nat
  | (.string bytes, d) => bytes.length + uptoBulk d + 1
  | (_, d) => uptoBulk d + 1
 end
def uptoSmall : (H : Type) → List (DataW H) → Bool := fun _ ds => decide (uptoBulkAll ds ≤ 1048576)
def OpenSpec.upto (s : _root_.Go.ChangeSpec) : _root_.Go.OpenSpec := { _root_.Go.OpenSpec.ofChange s with cond := some uptoSmall }

/-- 'marquetrylaw06.ParseReads', WHERE WHAT IT READS IS OF BULK AT MOST 1048576: true; the input reads as it did. -/
def parseReadsUptoRow : OpenClaim := { program := "ytblonfjlcfjodaagreatdoor", sum := "d6bba976a531b630b6ef9470db6de836d6916231e6174af0f707182d085de5af", func := "marquetry/marquetrylaw06.ParseReads", spec := "parseReads", inPlace := ["internal/bytealg.IndexByteString", "internal/abi.NoEscape"], unfollowed := true, recurses := true, named := ["marquetry/lex.symbols", "marquetry/parse.levels", "marquetry/parse.words"], apart := false, laid := [("marquetry/lex.symbols", laid_marquetry_lex_symbols), ("marquetry/parse.levels", laid_marquetry_parse_levels), ("marquetry/parse.words", laid_marquetry_parse_words)], narrowed := true }
def ParseReadsUptoSaid : Prop := parseReadsUptoRow.holds Tryz.pinned (OpenSpec.upto parseReadsSpec)

/-- 'marquetrylaw07.ShowTells', WHERE WHAT IT READS IS OF BULK AT MOST 1048576: true; the input reads as it did. -/
def showTellsUptoRow : OpenClaim := { program := "ytblonfjlcfjodaagreatdoor", sum := "d6bba976a531b630b6ef9470db6de836d6916231e6174af0f707182d085de5af", func := "marquetry/marquetrylaw07.ShowTells", spec := "showTells", inPlace := ["internal/bytealg.IndexByteString", "internal/abi.NoEscape"], unfollowed := true, recurses := true, named := ["marquetry/lex.symbols", "marquetry/parse.levels", "marquetry/parse.words", "internal/strconv.uint64pow10", "math/bits.deBruijn32tab", "math/bits.deBruijn64tab"], loops := true, apart := false, laid := [("math/bits.deBruijn32tab", laid_math_bits_deBruijn32tab), ("math/bits.deBruijn64tab", laid_math_bits_deBruijn64tab), ("internal/strconv.uint64pow10", laid_internal_strconv_uint64pow10), ("marquetry/lex.symbols", laid_marquetry_lex_symbols), ("marquetry/parse.levels", laid_marquetry_parse_levels), ("marquetry/parse.words", laid_marquetry_parse_words)], narrowed := true }
def ShowTellsUptoSaid : Prop := showTellsUptoRow.holds Tryz.pinned (OpenSpec.upto showTellsSpec)

/-- 'marquetrylaw07.ShowPatterns', WHERE WHAT IT READS IS OF BULK AT MOST 1048576: true; the input reads as it did. -/
def showPatternsUptoRow : OpenClaim := { program := "ytblonfjlcfjodaagreatdoor", sum := "d6bba976a531b630b6ef9470db6de836d6916231e6174af0f707182d085de5af", func := "marquetry/marquetrylaw07.ShowPatterns", spec := "showPatterns", inPlace := ["internal/bytealg.IndexByteString", "internal/abi.NoEscape"], unfollowed := true, recurses := true, named := ["marquetry/lex.symbols", "marquetry/parse.levels", "marquetry/parse.words", "internal/strconv.uint64pow10", "math/bits.deBruijn32tab", "math/bits.deBruijn64tab"], loops := true, apart := false, laid := [("math/bits.deBruijn32tab", laid_math_bits_deBruijn32tab), ("math/bits.deBruijn64tab", laid_math_bits_deBruijn64tab), ("internal/strconv.uint64pow10", laid_internal_strconv_uint64pow10), ("marquetry/lex.symbols", laid_marquetry_lex_symbols), ("marquetry/parse.levels", laid_marquetry_parse_levels), ("marquetry/parse.words", laid_marquetry_parse_words)], narrowed := true }
def ShowPatternsUptoSaid : Prop := showPatternsUptoRow.holds Tryz.pinned (OpenSpec.upto showPatternsSpec)

/-- 'marquetrylaw08.ResolveFits', WHERE WHAT IT READS IS OF BULK AT MOST 1048576: true; the input reads as it did. -/
def resolveFitsUptoRow : OpenClaim := { program := "ytblonfjlcfjodaagreatdoor", sum := "d6bba976a531b630b6ef9470db6de836d6916231e6174af0f707182d085de5af", func := "marquetry/marquetrylaw08.ResolveFits", spec := "resolveFits", inPlace := ["internal/bytealg.IndexByteString", "internal/abi.NoEscape"], unfollowed := true, recurses := true, named := ["marquetry/lex.symbols", "marquetry/parse.levels", "marquetry/parse.words", "internal/strconv.uint64pow10", "math/bits.deBruijn32tab", "math/bits.deBruijn64tab", "marquetry/resolve.termKinds"], apart := false, laid := [("math/bits.deBruijn32tab", laid_math_bits_deBruijn32tab), ("math/bits.deBruijn64tab", laid_math_bits_deBruijn64tab), ("internal/strconv.uint64pow10", laid_internal_strconv_uint64pow10), ("marquetry/lex.symbols", laid_marquetry_lex_symbols), ("marquetry/parse.levels", laid_marquetry_parse_levels), ("marquetry/parse.words", laid_marquetry_parse_words), ("marquetry/resolve.termKinds", laid_marquetry_resolve_termKinds)], narrowed := true }
def ResolveFitsUptoSaid : Prop := resolveFitsUptoRow.holds Tryz.pinned (OpenSpec.upto resolveFitsSpec)

/-- 'marquetrylaw08.ResolveNames', WHERE WHAT IT READS IS OF BULK AT MOST 1048576: true; the input reads as it did. -/
def resolveNamesUptoRow : OpenClaim := { program := "ytblonfjlcfjodaagreatdoor", sum := "d6bba976a531b630b6ef9470db6de836d6916231e6174af0f707182d085de5af", func := "marquetry/marquetrylaw08.ResolveNames", spec := "resolveNames", inPlace := ["internal/bytealg.IndexByteString", "internal/abi.NoEscape"], unfollowed := true, recurses := true, named := ["marquetry/lex.symbols", "marquetry/parse.levels", "marquetry/parse.words", "internal/strconv.uint64pow10", "math/bits.deBruijn32tab", "math/bits.deBruijn64tab", "marquetry/resolve.termKinds"], apart := false, laid := [("math/bits.deBruijn32tab", laid_math_bits_deBruijn32tab), ("math/bits.deBruijn64tab", laid_math_bits_deBruijn64tab), ("internal/strconv.uint64pow10", laid_internal_strconv_uint64pow10), ("marquetry/lex.symbols", laid_marquetry_lex_symbols), ("marquetry/parse.levels", laid_marquetry_parse_levels), ("marquetry/parse.words", laid_marquetry_parse_words), ("marquetry/resolve.termKinds", laid_marquetry_resolve_termKinds)], narrowed := true }
def ResolveNamesUptoSaid : Prop := resolveNamesUptoRow.holds Tryz.pinned (OpenSpec.upto resolveNamesSpec)

/-- 'marquetrylaw08.ResolveShort', WHERE WHAT IT READS IS OF BULK AT MOST 1048576: true; the input reads as it did. -/
def resolveShortUptoRow : OpenClaim := { program := "ytblonfjlcfjodaagreatdoor", sum := "d6bba976a531b630b6ef9470db6de836d6916231e6174af0f707182d085de5af", func := "marquetry/marquetrylaw08.ResolveShort", spec := "resolveShort", inPlace := ["internal/bytealg.IndexByteString", "internal/abi.NoEscape"], unfollowed := true, recurses := true, named := ["marquetry/lex.symbols", "marquetry/parse.levels", "marquetry/parse.words", "internal/strconv.uint64pow10", "math/bits.deBruijn32tab", "math/bits.deBruijn64tab", "marquetry/resolve.termKinds"], apart := false, laid := [("math/bits.deBruijn32tab", laid_math_bits_deBruijn32tab), ("math/bits.deBruijn64tab", laid_math_bits_deBruijn64tab), ("internal/strconv.uint64pow10", laid_internal_strconv_uint64pow10), ("marquetry/lex.symbols", laid_marquetry_lex_symbols), ("marquetry/parse.levels", laid_marquetry_parse_levels), ("marquetry/parse.words", laid_marquetry_parse_words), ("marquetry/resolve.termKinds", laid_marquetry_resolve_termKinds)], narrowed := true }
def ResolveShortUptoSaid : Prop := resolveShortUptoRow.holds Tryz.pinned (OpenSpec.upto resolveShortSpec)

/-- 'marquetrylaw08.ResolveBound', WHERE WHAT IT READS IS OF BULK AT MOST 1048576: true; the input reads as it did. -/
def resolveBoundUptoRow : OpenClaim := { program := "ytblonfjlcfjodaagreatdoor", sum := "d6bba976a531b630b6ef9470db6de836d6916231e6174af0f707182d085de5af", func := "marquetry/marquetrylaw08.ResolveBound", spec := "resolveBound", inPlace := ["internal/bytealg.IndexByteString", "internal/abi.NoEscape"], unfollowed := true, recurses := true, named := ["marquetry/lex.symbols", "marquetry/parse.levels", "marquetry/parse.words", "internal/strconv.uint64pow10", "math/bits.deBruijn32tab", "math/bits.deBruijn64tab", "marquetry/resolve.termKinds"], apart := false, laid := [("math/bits.deBruijn32tab", laid_math_bits_deBruijn32tab), ("math/bits.deBruijn64tab", laid_math_bits_deBruijn64tab), ("internal/strconv.uint64pow10", laid_internal_strconv_uint64pow10), ("marquetry/lex.symbols", laid_marquetry_lex_symbols), ("marquetry/parse.levels", laid_marquetry_parse_levels), ("marquetry/parse.words", laid_marquetry_parse_words), ("marquetry/resolve.termKinds", laid_marquetry_resolve_termKinds)], narrowed := true }
def ResolveBoundUptoSaid : Prop := resolveBoundUptoRow.holds Tryz.pinned (OpenSpec.upto resolveBoundSpec)

/-- 'marquetrylaw08.ResolveShift', WHERE WHAT IT READS IS OF BULK AT MOST 1048576: true; the input reads as it did. -/
def resolveShiftUptoRow : OpenClaim := { program := "ytblonfjlcfjodaagreatdoor", sum := "d6bba976a531b630b6ef9470db6de836d6916231e6174af0f707182d085de5af", func := "marquetry/marquetrylaw08.ResolveShift", spec := "resolveShift", inPlace := ["internal/bytealg.IndexByteString", "internal/abi.NoEscape"], unfollowed := true, recurses := true, named := ["marquetry/lex.symbols", "marquetry/parse.levels", "marquetry/parse.words", "internal/strconv.uint64pow10", "math/bits.deBruijn32tab", "math/bits.deBruijn64tab", "marquetry/resolve.termKinds"], apart := false, laid := [("math/bits.deBruijn32tab", laid_math_bits_deBruijn32tab), ("math/bits.deBruijn64tab", laid_math_bits_deBruijn64tab), ("internal/strconv.uint64pow10", laid_internal_strconv_uint64pow10), ("marquetry/lex.symbols", laid_marquetry_lex_symbols), ("marquetry/parse.levels", laid_marquetry_parse_levels), ("marquetry/parse.words", laid_marquetry_parse_words), ("marquetry/resolve.termKinds", laid_marquetry_resolve_termKinds)], narrowed := true }
def ResolveShiftUptoSaid : Prop := resolveShiftUptoRow.holds Tryz.pinned (OpenSpec.upto resolveShiftSpec)

end Rows
end Go.Proofs.YtblonfjlcfjodaaGreatDoor
