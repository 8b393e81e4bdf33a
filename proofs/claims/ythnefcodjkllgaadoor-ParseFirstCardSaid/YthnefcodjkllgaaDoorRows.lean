/-
  NARROWER THAN 'FOR EVERY INPUT', by the rows' own cells (each row's printed sentence says how): WordTexts: laid · WordQuotes: laid · LexReads: laid · LexBack: laid · ParseCounts: loops, laid · ParseBlanks: laid · ParseBrackets: laid · ParseCuts: laid · ParsePlaces: laid · ParseBinds: laid · ParseFirst: laid.
  DERIVED. THE GIVEN ROWS OF THIS SEAT. 11 by the template 'for every input the law returns true; each argument reads behind the call as it read before'; 0 by the template 'total and deterministic' (their statements: YthnefcodjkllgaaDoorTotals.lean).
  GIVEN WITH THE SEED: the statements are not yours to turn. If you find one false, say at which input.
  Laid BY PROGRAM, IN A SANDBOX (cutbox-rows.mjs): the forced cells as the released guide's own fill.sh prints them over the translation c8e6a005936c6bf2… (all of the seat's roots in one cut). By AI agents, Wed Nov 11 2026. No macro, syntax, notation, axiom, sorry.
-/
import Derived.Test.YthnefcodjkllgaaDoorChecked
import GoSem.Claim
import GoSem.ClaimJoined
import GoSem.ClaimMapViews
import Derived.JoinedTies
import Derived.KernelRfl
namespace Go.Proofs.YthnefcodjkllgaaDoor
/- THE CELL 'sum', in the pinned program and in every row, IS THE sha256 OF THE DUMP (.gsa) THAT YthnefcodjkllgaaDoorProg.lean LOADS. Nothing in Lean hashes anything: it is a label: what it is worth is what the hold of that sum in a sandbox is worth. -/
noncomputable def Tryd.pinned : Pinned := { name := "ythnefcodjkllgaadoor", sum := "c8e6a005936c6bf2d5efdbe5ded81ca7de78672bfaefc2cc397139ae4a724ee4", checked := Tryd.checked }
namespace Rows
def none {H : Type} : Left H := { results := [], args := [] }

/- WHAT THE LISTED PACKAGE-LEVEL VARIABLES READ AS WHEN THE CALL BEGINS. Each datum BY PROGRAM (the guide's laid-datum.mjs) off the statement by which the dump's own 'gosem.cut.vars' lays the variable. In a bare row this is a premise. The card (YthnefcodjkllgaaDoorCards.lean) ties it to the program's text. -/
def laid_math_bits_deBruijn32tab {H : Type} : DataW H := .agg [.lit (.int .u8 0), .lit (.int .u8 1), .lit (.int .u8 28), .lit (.int .u8 2), .lit (.int .u8 29), .lit (.int .u8 14), .lit (.int .u8 24), .lit (.int .u8 3), .lit (.int .u8 30), .lit (.int .u8 22), .lit (.int .u8 20), .lit (.int .u8 15), .lit (.int .u8 25), .lit (.int .u8 17), .lit (.int .u8 4), .lit (.int .u8 8), .lit (.int .u8 31), .lit (.int .u8 27), .lit (.int .u8 13), .lit (.int .u8 23), .lit (.int .u8 21), .lit (.int .u8 19), .lit (.int .u8 16), .lit (.int .u8 7), .lit (.int .u8 26), .lit (.int .u8 12), .lit (.int .u8 18), .lit (.int .u8 6), .lit (.int .u8 11), .lit (.int .u8 5), .lit (.int .u8 10), .lit (.int .u8 9)]
def laid_math_bits_deBruijn64tab {H : Type} : DataW H := .agg [.lit (.int .u8 0), .lit (.int .u8 1), .lit (.int .u8 56), .lit (.int .u8 2), .lit (.int .u8 57), .lit (.int .u8 49), .lit (.int .u8 28), .lit (.int .u8 3), .lit (.int .u8 61), .lit (.int .u8 58), .lit (.int .u8 42), .lit (.int .u8 50), .lit (.int .u8 38), .lit (.int .u8 29), .lit (.int .u8 17), .lit (.int .u8 4), .lit (.int .u8 62), .lit (.int .u8 47), .lit (.int .u8 59), .lit (.int .u8 36), .lit (.int .u8 45), .lit (.int .u8 43), .lit (.int .u8 51), .lit (.int .u8 22), .lit (.int .u8 53), .lit (.int .u8 39), .lit (.int .u8 33), .lit (.int .u8 30), .lit (.int .u8 24), .lit (.int .u8 18), .lit (.int .u8 12), .lit (.int .u8 5), .lit (.int .u8 63), .lit (.int .u8 55), .lit (.int .u8 48), .lit (.int .u8 27), .lit (.int .u8 60), .lit (.int .u8 41), .lit (.int .u8 37), .lit (.int .u8 16), .lit (.int .u8 46), .lit (.int .u8 35), .lit (.int .u8 44), .lit (.int .u8 21), .lit (.int .u8 52), .lit (.int .u8 32), .lit (.int .u8 23), .lit (.int .u8 11), .lit (.int .u8 54), .lit (.int .u8 26), .lit (.int .u8 40), .lit (.int .u8 15), .lit (.int .u8 34), .lit (.int .u8 20), .lit (.int .u8 31), .lit (.int .u8 10), .lit (.int .u8 25), .lit (.int .u8 14), .lit (.int .u8 19), .lit (.int .u8 9), .lit (.int .u8 13), .lit (.int .u8 8), .lit (.int .u8 7), .lit (.int .u8 6)]
def laid_internal_strconv_uint64pow10 {H : Type} : DataW H := .agg [.lit (.int .u64 1), .lit (.int .u64 10), .lit (.int .u64 100), .lit (.int .u64 1000), .lit (.int .u64 10000), .lit (.int .u64 100000), .lit (.int .u64 1000000), .lit (.int .u64 10000000), .lit (.int .u64 100000000), .lit (.int .u64 1000000000), .lit (.int .u64 10000000000), .lit (.int .u64 100000000000), .lit (.int .u64 1000000000000), .lit (.int .u64 10000000000000), .lit (.int .u64 100000000000000), .lit (.int .u64 1000000000000000), .lit (.int .u64 10000000000000000), .lit (.int .u64 100000000000000000), .lit (.int .u64 1000000000000000000), .lit (.int .u64 10000000000000000000)]
def laid_marquetry_lex_symbols {H : Type} : DataW H := .slice [.lit (.string [45, 62]), .lit (.string [58, 61]), .lit (.string [38, 38]), .lit (.string [124, 124]), .lit (.string [40]), .lit (.string [41]), .lit (.string [123]), .lit (.string [125]), .lit (.string [61]), .lit (.string [59]), .lit (.string [44]), .lit (.string [46]), .lit (.string [124]), .lit (.string [43]), .lit (.string [45]), .lit (.string [42]), .lit (.string [47]), .lit (.string [37]), .lit (.string [60]), .lit (.string [33])] []
def laid_marquetry_parse_levels {H : Type} : DataW H := .agg [.agg [.lit (.int .i64 22), .lit (.int .i64 2), .agg [.lit (.string [124, 124]), .lit (.string []), .lit (.string [])]], .agg [.lit (.int .i64 21), .lit (.int .i64 2), .agg [.lit (.string [38, 38]), .lit (.string []), .lit (.string [])]], .agg [.lit (.int .i64 19), .lit (.int .i64 0), .agg [.lit (.string [61]), .lit (.string [60]), .lit (.string [])]], .agg [.lit (.int .i64 19), .lit (.int .i64 1), .agg [.lit (.string [43]), .lit (.string [45]), .lit (.string [])]], .agg [.lit (.int .i64 19), .lit (.int .i64 1), .agg [.lit (.string [42]), .lit (.string [47]), .lit (.string [37])]]]
def laid_marquetry_parse_words {H : Type} : DataW H := .agg [.agg [.lit (.string [114, 101, 102]), .lit (.string [108, 101, 110]), .lit (.string [115, 105, 122, 101]), .lit (.string [103, 101, 116, 99]), .lit (.string [112, 117, 116, 99])], .agg [.lit (.string [97, 114, 114, 97, 121]), .lit (.string [103, 101, 116]), .lit (.string [98, 121, 116, 101]), .lit (.string [99, 97, 116]), .lit (.string [])], .agg [.lit (.string [115, 101, 116]), .lit (.string []), .lit (.string []), .lit (.string []), .lit (.string [])]]

/-- 'marquetrylaw01.WordTexts': WHATEVER THE INPUT: true; the input reads as it did. -/
def wordTextsSpec : ChangeSpec := { name := "wordTexts", fn := fun _ => fun
  | [d1, d2] => { results := [.lit (.bool true)], args := [d1, d2] }
  | _ => none }
def wordTextsRow : OpenClaim := { program := "ythnefcodjkllgaadoor", sum := "c8e6a005936c6bf2d5efdbe5ded81ca7de78672bfaefc2cc397139ae4a724ee4", func := "marquetry/marquetrylaw01.WordTexts", spec := "wordTexts", inPlace := ["internal/bytealg.IndexByteString", "internal/abi.NoEscape"], unfollowed := true, recurses := true, named := ["internal/strconv.uint64pow10", "math/bits.deBruijn32tab", "math/bits.deBruijn64tab"], apart := false, laid := [("math/bits.deBruijn32tab", laid_math_bits_deBruijn32tab), ("math/bits.deBruijn64tab", laid_math_bits_deBruijn64tab), ("internal/strconv.uint64pow10", laid_internal_strconv_uint64pow10)] }
def WordTextsSaid : Prop := wordTextsRow.holds Tryd.pinned (OpenSpec.ofChange wordTextsSpec)

/-- ITS FALSE NEIGHBOUR: 'it returns false'. Refute it at one input. -/
def wordTextsWrong : ChangeSpec := { name := "wordTexts", fn := fun _ => fun
  | [d1, d2] => { results := [.lit (.bool false)], args := [d1, d2] }
  | _ => none }
def WordTextsWrongFalsely : Prop := wordTextsRow.holds Tryd.pinned (OpenSpec.ofChange wordTextsWrong)

/-- 'marquetrylaw01.WordQuotes': WHATEVER THE INPUT: true; the input reads as it did. -/
def wordQuotesSpec : ChangeSpec := { name := "wordQuotes", fn := fun _ => fun
  | [d] => { results := [.lit (.bool true)], args := [d] }
  | _ => none }
def wordQuotesRow : OpenClaim := { program := "ythnefcodjkllgaadoor", sum := "c8e6a005936c6bf2d5efdbe5ded81ca7de78672bfaefc2cc397139ae4a724ee4", func := "marquetry/marquetrylaw01.WordQuotes", spec := "wordQuotes", inPlace := ["internal/bytealg.IndexByteString", "internal/abi.NoEscape"], unfollowed := true, recurses := true, named := ["internal/strconv.uint64pow10", "math/bits.deBruijn32tab", "math/bits.deBruijn64tab"], apart := false, laid := [("math/bits.deBruijn32tab", laid_math_bits_deBruijn32tab), ("math/bits.deBruijn64tab", laid_math_bits_deBruijn64tab), ("internal/strconv.uint64pow10", laid_internal_strconv_uint64pow10)] }
def WordQuotesSaid : Prop := wordQuotesRow.holds Tryd.pinned (OpenSpec.ofChange wordQuotesSpec)

/-- ITS FALSE NEIGHBOUR: 'it returns false'. Refute it at one input. -/
def wordQuotesWrong : ChangeSpec := { name := "wordQuotes", fn := fun _ => fun
  | [d] => { results := [.lit (.bool false)], args := [d] }
  | _ => none }
def WordQuotesWrongFalsely : Prop := wordQuotesRow.holds Tryd.pinned (OpenSpec.ofChange wordQuotesWrong)

/-- 'marquetrylaw05.LexReads': WHATEVER THE INPUT: true; the input reads as it did. -/
def lexReadsSpec : ChangeSpec := { name := "lexReads", fn := fun _ => fun
  | [d] => { results := [.lit (.bool true)], args := [d] }
  | _ => none }
def lexReadsRow : OpenClaim := { program := "ythnefcodjkllgaadoor", sum := "c8e6a005936c6bf2d5efdbe5ded81ca7de78672bfaefc2cc397139ae4a724ee4", func := "marquetry/marquetrylaw05.LexReads", spec := "lexReads", inPlace := ["internal/bytealg.IndexByteString", "internal/abi.NoEscape"], named := ["marquetry/lex.symbols"], apart := false, laid := [("marquetry/lex.symbols", laid_marquetry_lex_symbols)] }
def LexReadsSaid : Prop := lexReadsRow.holds Tryd.pinned (OpenSpec.ofChange lexReadsSpec)

/-- ITS FALSE NEIGHBOUR: 'it returns false'. Refute it at one input. -/
def lexReadsWrong : ChangeSpec := { name := "lexReads", fn := fun _ => fun
  | [d] => { results := [.lit (.bool false)], args := [d] }
  | _ => none }
def LexReadsWrongFalsely : Prop := lexReadsRow.holds Tryd.pinned (OpenSpec.ofChange lexReadsWrong)

/-- 'marquetrylaw05.LexBack': WHATEVER THE INPUT: true; the input reads as it did. -/
def lexBackSpec : ChangeSpec := { name := "lexBack", fn := fun _ => fun
  | [d] => { results := [.lit (.bool true)], args := [d] }
  | _ => none }
def lexBackRow : OpenClaim := { program := "ythnefcodjkllgaadoor", sum := "c8e6a005936c6bf2d5efdbe5ded81ca7de78672bfaefc2cc397139ae4a724ee4", func := "marquetry/marquetrylaw05.LexBack", spec := "lexBack", inPlace := ["internal/bytealg.IndexByteString", "internal/abi.NoEscape"], recurses := true, named := ["marquetry/lex.symbols"], apart := false, laid := [("marquetry/lex.symbols", laid_marquetry_lex_symbols)] }
def LexBackSaid : Prop := lexBackRow.holds Tryd.pinned (OpenSpec.ofChange lexBackSpec)

/-- ITS FALSE NEIGHBOUR: 'it returns false'. Refute it at one input. -/
def lexBackWrong : ChangeSpec := { name := "lexBack", fn := fun _ => fun
  | [d] => { results := [.lit (.bool false)], args := [d] }
  | _ => none }
def LexBackWrongFalsely : Prop := lexBackRow.holds Tryd.pinned (OpenSpec.ofChange lexBackWrong)

/-- 'marquetrylaw06.ParseCounts': WHATEVER THE INPUT: true; the input reads as it did. -/
def parseCountsSpec : ChangeSpec := { name := "parseCounts", fn := fun _ => fun
  | [d1, d2, d3] => { results := [.lit (.bool true)], args := [d1, d2, d3] }
  | _ => none }
def parseCountsRow : OpenClaim := { program := "ythnefcodjkllgaadoor", sum := "c8e6a005936c6bf2d5efdbe5ded81ca7de78672bfaefc2cc397139ae4a724ee4", func := "marquetry/marquetrylaw06.ParseCounts", spec := "parseCounts", inPlace := ["internal/bytealg.IndexByteString", "internal/abi.NoEscape"], unfollowed := true, recurses := true, named := ["marquetry/lex.symbols", "marquetry/parse.levels", "marquetry/parse.words"], loops := true, apart := false, laid := [("marquetry/lex.symbols", laid_marquetry_lex_symbols), ("marquetry/parse.levels", laid_marquetry_parse_levels), ("marquetry/parse.words", laid_marquetry_parse_words)] }
def ParseCountsSaid : Prop := parseCountsRow.holds Tryd.pinned (OpenSpec.ofChange parseCountsSpec)

/-- ITS FALSE NEIGHBOUR: 'it returns false'. Refute it at one input. -/
def parseCountsWrong : ChangeSpec := { name := "parseCounts", fn := fun _ => fun
  | [d1, d2, d3] => { results := [.lit (.bool false)], args := [d1, d2, d3] }
  | _ => none }
def ParseCountsWrongFalsely : Prop := parseCountsRow.holds Tryd.pinned (OpenSpec.ofChange parseCountsWrong)

/-- 'marquetrylaw06.ParseBlanks': WHATEVER THE INPUT: true; the input reads as it did. -/
def parseBlanksSpec : ChangeSpec := { name := "parseBlanks", fn := fun _ => fun
  | [d] => { results := [.lit (.bool true)], args := [d] }
  | _ => none }
def parseBlanksRow : OpenClaim := { program := "ythnefcodjkllgaadoor", sum := "c8e6a005936c6bf2d5efdbe5ded81ca7de78672bfaefc2cc397139ae4a724ee4", func := "marquetry/marquetrylaw06.ParseBlanks", spec := "parseBlanks", inPlace := ["internal/bytealg.IndexByteString", "internal/abi.NoEscape"], unfollowed := true, recurses := true, named := ["marquetry/lex.symbols", "marquetry/parse.levels", "marquetry/parse.words"], apart := false, laid := [("marquetry/lex.symbols", laid_marquetry_lex_symbols), ("marquetry/parse.levels", laid_marquetry_parse_levels), ("marquetry/parse.words", laid_marquetry_parse_words)] }
def ParseBlanksSaid : Prop := parseBlanksRow.holds Tryd.pinned (OpenSpec.ofChange parseBlanksSpec)

/-- ITS FALSE NEIGHBOUR: 'it returns false'. Refute it at one input. -/
def parseBlanksWrong : ChangeSpec := { name := "parseBlanks", fn := fun _ => fun
  | [d] => { results := [.lit (.bool false)], args := [d] }
  | _ => none }
def ParseBlanksWrongFalsely : Prop := parseBlanksRow.holds Tryd.pinned (OpenSpec.ofChange parseBlanksWrong)

/-- 'marquetrylaw06.ParseBrackets': WHATEVER THE INPUT: true; the input reads as it did. -/
def parseBracketsSpec : ChangeSpec := { name := "parseBrackets", fn := fun _ => fun
  | [d] => { results := [.lit (.bool true)], args := [d] }
  | _ => none }
def parseBracketsRow : OpenClaim := { program := "ythnefcodjkllgaadoor", sum := "c8e6a005936c6bf2d5efdbe5ded81ca7de78672bfaefc2cc397139ae4a724ee4", func := "marquetry/marquetrylaw06.ParseBrackets", spec := "parseBrackets", inPlace := ["internal/bytealg.IndexByteString", "internal/abi.NoEscape"], unfollowed := true, recurses := true, named := ["marquetry/lex.symbols", "marquetry/parse.levels", "marquetry/parse.words"], apart := false, laid := [("marquetry/lex.symbols", laid_marquetry_lex_symbols), ("marquetry/parse.levels", laid_marquetry_parse_levels), ("marquetry/parse.words", laid_marquetry_parse_words)] }
def ParseBracketsSaid : Prop := parseBracketsRow.holds Tryd.pinned (OpenSpec.ofChange parseBracketsSpec)

/-- ITS FALSE NEIGHBOUR: 'it returns false'. Refute it at one input. -/
def parseBracketsWrong : ChangeSpec := { name := "parseBrackets", fn := fun _ => fun
  | [d] => { results := [.lit (.bool false)], args := [d] }
  | _ => none }
def ParseBracketsWrongFalsely : Prop := parseBracketsRow.holds Tryd.pinned (OpenSpec.ofChange parseBracketsWrong)

/-- 'marquetrylaw06.ParseCuts': WHATEVER THE INPUT: true; the input reads as it did. -/
def parseCutsSpec : ChangeSpec := { name := "parseCuts", fn := fun _ => fun
  | [d] => { results := [.lit (.bool true)], args := [d] }
  | _ => none }
def parseCutsRow : OpenClaim := { program := "ythnefcodjkllgaadoor", sum := "c8e6a005936c6bf2d5efdbe5ded81ca7de78672bfaefc2cc397139ae4a724ee4", func := "marquetry/marquetrylaw06.ParseCuts", spec := "parseCuts", inPlace := ["internal/bytealg.IndexByteString", "internal/abi.NoEscape"], unfollowed := true, recurses := true, named := ["marquetry/lex.symbols", "marquetry/parse.levels", "marquetry/parse.words"], apart := false, laid := [("marquetry/lex.symbols", laid_marquetry_lex_symbols), ("marquetry/parse.levels", laid_marquetry_parse_levels), ("marquetry/parse.words", laid_marquetry_parse_words)] }
def ParseCutsSaid : Prop := parseCutsRow.holds Tryd.pinned (OpenSpec.ofChange parseCutsSpec)

/-- ITS FALSE NEIGHBOUR: 'it returns false'. Refute it at one input. -/
def parseCutsWrong : ChangeSpec := { name := "parseCuts", fn := fun _ => fun
  | [d] => { results := [.lit (.bool false)], args := [d] }
  | _ => none }
def ParseCutsWrongFalsely : Prop := parseCutsRow.holds Tryd.pinned (OpenSpec.ofChange parseCutsWrong)

/-- 'marquetrylaw06.ParsePlaces': WHATEVER THE INPUT: true; the input reads as it did. -/
def parsePlacesSpec : ChangeSpec := { name := "parsePlaces", fn := fun _ => fun
  | [d] => { results := [.lit (.bool true)], args := [d] }
  | _ => none }
def parsePlacesRow : OpenClaim := { program := "ythnefcodjkllgaadoor", sum := "c8e6a005936c6bf2d5efdbe5ded81ca7de78672bfaefc2cc397139ae4a724ee4", func := "marquetry/marquetrylaw06.ParsePlaces", spec := "parsePlaces", inPlace := ["internal/bytealg.IndexByteString", "internal/abi.NoEscape"], unfollowed := true, recurses := true, named := ["marquetry/lex.symbols", "marquetry/parse.levels", "marquetry/parse.words"], apart := false, laid := [("marquetry/lex.symbols", laid_marquetry_lex_symbols), ("marquetry/parse.levels", laid_marquetry_parse_levels), ("marquetry/parse.words", laid_marquetry_parse_words)] }
def ParsePlacesSaid : Prop := parsePlacesRow.holds Tryd.pinned (OpenSpec.ofChange parsePlacesSpec)

/-- ITS FALSE NEIGHBOUR: 'it returns false'. Refute it at one input. -/
def parsePlacesWrong : ChangeSpec := { name := "parsePlaces", fn := fun _ => fun
  | [d] => { results := [.lit (.bool false)], args := [d] }
  | _ => none }
def ParsePlacesWrongFalsely : Prop := parsePlacesRow.holds Tryd.pinned (OpenSpec.ofChange parsePlacesWrong)

/-- 'marquetrylaw06.ParseBinds': WHATEVER THE INPUT: true; the input reads as it did. -/
def parseBindsSpec : ChangeSpec := { name := "parseBinds", fn := fun _ => fun
  | [d1, d2, d3, d4, d5] => { results := [.lit (.bool true)], args := [d1, d2, d3, d4, d5] }
  | _ => none }
def parseBindsRow : OpenClaim := { program := "ythnefcodjkllgaadoor", sum := "c8e6a005936c6bf2d5efdbe5ded81ca7de78672bfaefc2cc397139ae4a724ee4", func := "marquetry/marquetrylaw06.ParseBinds", spec := "parseBinds", inPlace := ["internal/bytealg.IndexByteString", "internal/abi.NoEscape"], unfollowed := true, recurses := true, named := ["marquetry/lex.symbols", "marquetry/parse.levels", "marquetry/parse.words"], apart := false, laid := [("marquetry/lex.symbols", laid_marquetry_lex_symbols), ("marquetry/parse.levels", laid_marquetry_parse_levels), ("marquetry/parse.words", laid_marquetry_parse_words)] }
def ParseBindsSaid : Prop := parseBindsRow.holds Tryd.pinned (OpenSpec.ofChange parseBindsSpec)

/-- ITS FALSE NEIGHBOUR: 'it returns false'. Refute it at one input. -/
def parseBindsWrong : ChangeSpec := { name := "parseBinds", fn := fun _ => fun
  | [d1, d2, d3, d4, d5] => { results := [.lit (.bool false)], args := [d1, d2, d3, d4, d5] }
  | _ => none }
def ParseBindsWrongFalsely : Prop := parseBindsRow.holds Tryd.pinned (OpenSpec.ofChange parseBindsWrong)

/-- 'marquetrylaw06.ParseFirst': WHATEVER THE INPUT: true; the input reads as it did. -/
def parseFirstSpec : ChangeSpec := { name := "parseFirst", fn := fun _ => fun
  | [d1, d2] => { results := [.lit (.bool true)], args := [d1, d2] }
  | _ => none }
def parseFirstRow : OpenClaim := { program := "ythnefcodjkllgaadoor", sum := "c8e6a005936c6bf2d5efdbe5ded81ca7de78672bfaefc2cc397139ae4a724ee4", func := "marquetry/marquetrylaw06.ParseFirst", spec := "parseFirst", inPlace := ["internal/bytealg.IndexByteString", "internal/abi.NoEscape"], unfollowed := true, recurses := true, named := ["marquetry/lex.symbols", "marquetry/parse.levels", "marquetry/parse.words"], apart := false, laid := [("marquetry/lex.symbols", laid_marquetry_lex_symbols), ("marquetry/parse.levels", laid_marquetry_parse_levels), ("marquetry/parse.words", laid_marquetry_parse_words)] }
def ParseFirstSaid : Prop := parseFirstRow.holds Tryd.pinned (OpenSpec.ofChange parseFirstSpec)

/-- ITS FALSE NEIGHBOUR: 'it returns false'. Refute it at one input. -/
def parseFirstWrong : ChangeSpec := { name := "parseFirst", fn := fun _ => fun
  | [d1, d2] => { results := [.lit (.bool false)], args := [d1, d2] }
  | _ => none }
def ParseFirstWrongFalsely : Prop := parseFirstRow.holds Tryd.pinned (OpenSpec.ofChange parseFirstWrong)

/- THE SECOND FORM. 'bulk': how many values and letters a reading holds, each counted each time it is reached (what is shared counts as often as it is met; a slice's spare places count too). A statement '..UptoSaid' is the law's where the arguments, and the package variables that the reading takes, are together of bulk at most 1048576: NARROWER than '..Said'. Prove '..Said' where nothing that the law and all that it calls make is longer than what came in: it says more and counts as full. Else prove '..UptoSaid'. A law counts once. -/
mutual
def uptoBulk {H : Type} : DataW H → Nat
  | .lit (.string bytes) => bytes.length + 1
  | .lit _ => 1
  | .nil => 1
  | .ptr d => uptoBulk d + 1
  | .slice elems spare => uptoBulkAll elems + uptoBulkAll spare + 1
  | .agg parts => uptoBulkAll parts + 1
  | .iface _ d => uptoBulk d + 1
  | .map entries => uptoBulkEntries entries + 1
  | .held _ => 1
def uptoBulkAll {H : Type} : List (DataW H) → Nat
  | [] => 0
  | d :: r => uptoBulk d + uptoBulkAll r
def uptoBulkEntries {H : Type} : List (Lit × DataW H) → Nat
  | [] => 0
  | x :: r => uptoBulkEntry x + uptoBulkEntries r
def uptoBulkEntry {H : Type} : Lit × DataW H → Nat
  | (.string bytes, d) => bytes.length + uptoBulk d + 1
  | (_, d) => uptoBulk d + 1
 end
def uptoSmall : (H : Type) → List (DataW H) → Bool := fun _ ds => decide (uptoBulkAll ds ≤ 1048576)
def OpenSpec.upto (s : _root_.Go.ChangeSpec) : _root_.Go.OpenSpec := { _root_.Go.OpenSpec.ofChange s with cond := some uptoSmall }

/-- 'marquetrylaw01.WordTexts', WHERE WHAT IT READS IS OF BULK AT MOST 1048576: true; the input reads as it did. -/
def wordTextsUptoRow : OpenClaim := { program := "ythnefcodjkllgaadoor", sum := "c8e6a005936c6bf2d5efdbe5ded81ca7de78672bfaefc2cc397139ae4a724ee4", func := "marquetry/marquetrylaw01.WordTexts", spec := "wordTexts", inPlace := ["internal/bytealg.IndexByteString", "internal/abi.NoEscape"], unfollowed := true, recurses := true, named := ["internal/strconv.uint64pow10", "math/bits.deBruijn32tab", "math/bits.deBruijn64tab"], apart := false, laid := [("math/bits.deBruijn32tab", laid_math_bits_deBruijn32tab), ("math/bits.deBruijn64tab", laid_math_bits_deBruijn64tab), ("internal/strconv.uint64pow10", laid_internal_strconv_uint64pow10)], narrowed := true }
def WordTextsUptoSaid : Prop := wordTextsUptoRow.holds Tryd.pinned (OpenSpec.upto wordTextsSpec)

/-- 'marquetrylaw01.WordQuotes', WHERE WHAT IT READS IS OF BULK AT MOST 1048576: true; the input reads as it did. -/
def wordQuotesUptoRow : OpenClaim := { program := "ythnefcodjkllgaadoor", sum := "c8e6a005936c6bf2d5efdbe5ded81ca7de78672bfaefc2cc397139ae4a724ee4", func := "marquetry/marquetrylaw01.WordQuotes", spec := "wordQuotes", inPlace := ["internal/bytealg.IndexByteString", "internal/abi.NoEscape"], unfollowed := true, recurses := true, named := ["internal/strconv.uint64pow10", "math/bits.deBruijn32tab", "math/bits.deBruijn64tab"], apart := false, laid := [("math/bits.deBruijn32tab", laid_math_bits_deBruijn32tab), ("math/bits.deBruijn64tab", laid_math_bits_deBruijn64tab), ("internal/strconv.uint64pow10", laid_internal_strconv_uint64pow10)], narrowed := true }
def WordQuotesUptoSaid : Prop := wordQuotesUptoRow.holds Tryd.pinned (OpenSpec.upto wordQuotesSpec)

/-- 'marquetrylaw05.LexReads', WHERE WHAT IT READS IS OF BULK AT MOST 1048576: true; the input reads as it did. -/
def lexReadsUptoRow : OpenClaim := { program := "ythnefcodjkllgaadoor", sum := "c8e6a005936c6bf2d5efdbe5ded81ca7de78672bfaefc2cc397139ae4a724ee4", func := "marquetry/marquetrylaw05.LexReads", spec := "lexReads", inPlace := ["internal/bytealg.IndexByteString", "internal/abi.NoEscape"], named := ["marquetry/lex.symbols"], apart := false, laid := [("marquetry/lex.symbols", laid_marquetry_lex_symbols)], narrowed := true }
def LexReadsUptoSaid : Prop := lexReadsUptoRow.holds Tryd.pinned (OpenSpec.upto lexReadsSpec)

/-- 'marquetrylaw05.LexBack', WHERE WHAT IT READS IS OF BULK AT MOST 1048576: true; the input reads as it did. -/
def lexBackUptoRow : OpenClaim := { program := "ythnefcodjkllgaadoor", sum := "c8e6a005936c6bf2d5efdbe5ded81ca7de78672bfaefc2cc397139ae4a724ee4", func := "marquetry/marquetrylaw05.LexBack", spec := "lexBack", inPlace := ["internal/bytealg.IndexByteString", "internal/abi.NoEscape"], recurses := true, named := ["marquetry/lex.symbols"], apart := false, laid := [("marquetry/lex.symbols", laid_marquetry_lex_symbols)], narrowed := true }
def LexBackUptoSaid : Prop := lexBackUptoRow.holds Tryd.pinned (OpenSpec.upto lexBackSpec)

/-- 'marquetrylaw06.ParseCounts', WHERE WHAT IT READS IS OF BULK AT MOST 1048576: true; the input reads as it did. -/
def parseCountsUptoRow : OpenClaim := { program := "ythnefcodjkllgaadoor", sum := "c8e6a005936c6bf2d5efdbe5ded81ca7de78672bfaefc2cc397139ae4a724ee4", func := "marquetry/marquetrylaw06.ParseCounts", spec := "parseCounts", inPlace := ["internal/bytealg.IndexByteString", "internal/abi.NoEscape"], unfollowed := true, recurses := true, named := ["marquetry/lex.symbols", "marquetry/parse.levels", "marquetry/parse.words"], loops := true, apart := false, laid := [("marquetry/lex.symbols", laid_marquetry_lex_symbols), ("marquetry/parse.levels", laid_marquetry_parse_levels), ("marquetry/parse.words", laid_marquetry_parse_words)], narrowed := true }
def ParseCountsUptoSaid : Prop := parseCountsUptoRow.holds Tryd.pinned (OpenSpec.upto parseCountsSpec)

/-- 'marquetrylaw06.ParseBlanks', WHERE WHAT IT READS IS OF BULK AT MOST 1048576: true; the input reads as it did. -/
def parseBlanksUptoRow : OpenClaim := { program := "ythnefcodjkllgaadoor", sum := "c8e6a005936c6bf2d5efdbe5ded81ca7de78672bfaefc2cc397139ae4a724ee4", func := "marquetry/marquetrylaw06.ParseBlanks", spec := "parseBlanks", inPlace := ["internal/bytealg.IndexByteString", "internal/abi.NoEscape"], unfollowed := true, recurses := true, named := ["marquetry/lex.symbols", "marquetry/parse.levels", "marquetry/parse.words"], apart := false, laid := [("marquetry/lex.symbols", laid_marquetry_lex_symbols), ("marquetry/parse.levels", laid_marquetry_parse_levels), ("marquetry/parse.words", laid_marquetry_parse_words)], narrowed := true }
def ParseBlanksUptoSaid : Prop := parseBlanksUptoRow.holds Tryd.pinned (OpenSpec.upto parseBlanksSpec)

/-- 'marquetrylaw06.ParseBrackets', WHERE WHAT IT READS IS OF BULK AT MOST 1048576: true; the input reads as it did. -/
def parseBracketsUptoRow : OpenClaim := { program := "ythnefcodjkllgaadoor", sum := "c8e6a005936c6bf2d5efdbe5ded81ca7de78672bfaefc2cc397139ae4a724ee4", func := "marquetry/marquetrylaw06.ParseBrackets", spec := "parseBrackets", inPlace := ["internal/bytealg.IndexByteString", "internal/abi.NoEscape"], unfollowed := true, recurses := true, named := ["marquetry/lex.symbols", "marquetry/parse.levels", "marquetry/parse.words"], apart := false, laid := [("marquetry/lex.symbols", laid_marquetry_lex_symbols), ("marquetry/parse.levels", laid_marquetry_parse_levels), ("marquetry/parse.words", laid_marquetry_parse_words)], narrowed := true }
def ParseBracketsUptoSaid : Prop := parseBracketsUptoRow.holds Tryd.pinned (OpenSpec.upto parseBracketsSpec)

/-- 'marquetrylaw06.ParseCuts', WHERE WHAT IT READS IS OF BULK AT MOST 1048576: true; the input reads as it did. -/
def parseCutsUptoRow : OpenClaim := { program := "ythnefcodjkllgaadoor", sum := "c8e6a005936c6bf2d5efdbe5ded81ca7de78672bfaefc2cc397139ae4a724ee4", func := "marquetry/marquetrylaw06.ParseCuts", spec := "parseCuts", inPlace := ["internal/bytealg.IndexByteString", "internal/abi.NoEscape"], unfollowed := true, recurses := true, named := ["marquetry/lex.symbols", "marquetry/parse.levels", "marquetry/parse.words"], apart := false, laid := [("marquetry/lex.symbols", laid_marquetry_lex_symbols), ("marquetry/parse.levels", laid_marquetry_parse_levels), ("marquetry/parse.words", laid_marquetry_parse_words)], narrowed := true }
def ParseCutsUptoSaid : Prop := parseCutsUptoRow.holds Tryd.pinned (OpenSpec.upto parseCutsSpec)

/-- 'marquetrylaw06.ParsePlaces', WHERE WHAT IT READS IS OF BULK AT MOST 1048576: true; the input reads as it did. -/
def parsePlacesUptoRow : OpenClaim := { program := "ythnefcodjkllgaadoor", sum := "c8e6a005936c6bf2d5efdbe5ded81ca7de78672bfaefc2cc397139ae4a724ee4", func := "marquetry/marquetrylaw06.ParsePlaces", spec := "parsePlaces", inPlace := ["internal/bytealg.IndexByteString", "internal/abi.NoEscape"], unfollowed := true, recurses := true, named := ["marquetry/lex.symbols", "marquetry/parse.levels", "marquetry/parse.words"], apart := false, laid := [("marquetry/lex.symbols", laid_marquetry_lex_symbols), ("marquetry/parse.levels", laid_marquetry_parse_levels), ("marquetry/parse.words", laid_marquetry_parse_words)], narrowed := true }
def ParsePlacesUptoSaid : Prop := parsePlacesUptoRow.holds Tryd.pinned (OpenSpec.upto parsePlacesSpec)

/-- 'marquetrylaw06.ParseBinds', WHERE WHAT IT READS IS OF BULK AT MOST 1048576: true; the input reads as it did. -/
def parseBindsUptoRow : OpenClaim := { program := "ythnefcodjkllgaadoor", sum := "c8e6a005936c6bf2d5efdbe5ded81ca7de78672bfaefc2cc397139ae4a724ee4", func := "marquetry/marquetrylaw06.ParseBinds", spec := "parseBinds", inPlace := ["internal/bytealg.IndexByteString", "internal/abi.NoEscape"], unfollowed := true, recurses := true, named := ["marquetry/lex.symbols", "marquetry/parse.levels", "marquetry/parse.words"], apart := false, laid := [("marquetry/lex.symbols", laid_marquetry_lex_symbols), ("marquetry/parse.levels", laid_marquetry_parse_levels), ("marquetry/parse.words", laid_marquetry_parse_words)], narrowed := true }
def ParseBindsUptoSaid : Prop := parseBindsUptoRow.holds Tryd.pinned (OpenSpec.upto parseBindsSpec)

/-- 'marquetrylaw06.ParseFirst', WHERE WHAT IT READS IS OF BULK AT MOST 1048576: true; the input reads as it did. -/
def parseFirstUptoRow : OpenClaim := { program := "ythnefcodjkllgaadoor", sum := "c8e6a005936c6bf2d5efdbe5ded81ca7de78672bfaefc2cc397139ae4a724ee4", func := "marquetry/marquetrylaw06.ParseFirst", spec := "parseFirst", inPlace := ["internal/bytealg.IndexByteString", "internal/abi.NoEscape"], unfollowed := true, recurses := true, named := ["marquetry/lex.symbols", "marquetry/parse.levels", "marquetry/parse.words"], apart := false, laid := [("marquetry/lex.symbols", laid_marquetry_lex_symbols), ("marquetry/parse.levels", laid_marquetry_parse_levels), ("marquetry/parse.words", laid_marquetry_parse_words)], narrowed := true }
def ParseFirstUptoSaid : Prop := parseFirstUptoRow.holds Tryd.pinned (OpenSpec.upto parseFirstSpec)

end Rows
end Go.Proofs.YthnefcodjkllgaaDoor
