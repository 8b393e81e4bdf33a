/-
  NARROWER THAN 'FOR EVERY INPUT', by the rows' own cells (each row's printed sentence says how): ParseReads: laid · ShowTells: loops, laid · ShowPatterns: loops, laid · ShowBack: loops, laid · ShowReads: laid · ShowApart: loops, laid · ShowCases: loops, laid.
  DERIVED. THE GIVEN ROWS OF THIS SEAT. 7 by the template 'for every input the law returns true; each argument reads behind the call as it read before'; 0 by the template 'total and deterministic' (their statements: YtigbapkdpaahjaaGreatDoorTotals.lean).
  GIVEN WITH THE SEED: the statements are not yours to turn. If you find one false, say at which input.
  Laid BY PROGRAM, IN A SANDBOX (cutbox-rows.mjs): the forced cells as the released guide's own fill.sh prints them over the translation 67705db990bde54d… (all of the seat's roots in one cut). By AI agents, Wed Nov 11 2026. No macro, syntax, notation, axiom, sorry.
-/
import Derived.Test.YtigbapkdpaahjaaGreatDoorChecked
import GoSem.Claim
import GoSem.ClaimJoined
import GoSem.ClaimMapViews
import Derived.JoinedTies
import Derived.KernelRfl
namespace Go.Proofs.YtigbapkdpaahjaaGreatDoor
/- THE CELL 'sum', in the pinned program and in every row, IS THE sha256 OF THE DUMP (.gsa) THAT YtigbapkdpaahjaaGreatDoorProg.lean LOADS. Nothing in Lean hashes anything: it is a label: what it is worth is what the hold of that sum in a sandbox is worth. -/
noncomputable def Tryz.pinned : Pinned := { name := "ytigbapkdpaahjaagreatdoor", sum := "67705db990bde54da2b72cfb161eceeaff689f4381dfda6354776bb39e9ba551", checked := Tryz.checked }
namespace Rows
def none {H : Type} : Left H := { results := [], args := [] }

/- WHAT THE LISTED PACKAGE-LEVEL VARIABLES READ AS WHEN THE CALL BEGINS. Each datum BY PROGRAM (the guide's laid-datum.mjs) off the statement by which the dump's own 'gosem.cut.vars' lays the variable. In a bare row this is a premise. The card (YtigbapkdpaahjaaGreatDoorCards.lean) ties it to the program's text. -/
def laid_marquetry_lex_symbols {H : Type} : DataW H := .slice [.lit (.string [45, 62]), .lit (.string [58, 61]), .lit (.string [38, 38]), .lit (.string [124, 124]), .lit (.string [40]), .lit (.string [41]), .lit (.string [123]), .lit (.string [125]), .lit (.string [61]), .lit (.string [59]), .lit (.string [44]), .lit (.string [46]), .lit (.string [124]), .lit (.string [43]), .lit (.string [45]), .lit (.string [42]), .lit (.string [47]), .lit (.string [37]), .lit (.string [60]), .lit (.string [33])] []
def laid_marquetry_parse_levels {H : Type} : DataW H := .agg [.agg [.lit (.int .i64 22), .lit (.int .i64 2), .agg [.lit (.string [124, 124]), .lit (.string []), .lit (.string [])]], .agg [.lit (.int .i64 21), .lit (.int .i64 2), .agg [.lit (.string [38, 38]), .lit (.string []), .lit (.string [])]], .agg [.lit (.int .i64 19), .lit (.int .i64 0), .agg [.lit (.string [61]), .lit (.string [60]), .lit (.string [])]], .agg [.lit (.int .i64 19), .lit (.int .i64 1), .agg [.lit (.string [43]), .lit (.string [45]), .lit (.string [])]], .agg [.lit (.int .i64 19), .lit (.int .i64 1), .agg [.lit (.string [42]), .lit (.string [47]), .lit (.string [37])]]]
def laid_marquetry_parse_words {H : Type} : DataW H := .agg [.agg [.lit (.string [114, 101, 102]), .lit (.string [108, 101, 110]), .lit (.string [115, 105, 122, 101]), .lit (.string [103, 101, 116, 99]), .lit (.string [112, 117, 116, 99])], .agg [.lit (.string [97, 114, 114, 97, 121]), .lit (.string [103, 101, 116]), .lit (.string [98, 121, 116, 101]), .lit (.string [99, 97, 116]), .lit (.string [])], .agg [.lit (.string [115, 101, 116]), .lit (.string []), .lit (.string []), .lit (.string []), .lit (.string [])]]
def laid_math_bits_deBruijn32tab {H : Type} : DataW H := .agg [.lit (.int .u8 0), .lit (.int .u8 1), .lit (.int .u8 28), .lit (.int .u8 2), .lit (.int .u8 29), .lit (.int .u8 14), .lit (.int .u8 24), .lit (.int .u8 3), .lit (.int .u8 30), .lit (.int .u8 22), .lit (.int .u8 20), .lit (.int .u8 15), .lit (.int .u8 25), .lit (.int .u8 17), .lit (.int .u8 4), .lit (.int .u8 8), .lit (.int .u8 31), .lit (.int .u8 27), .lit (.int .u8 13), .lit (.int .u8 23), .lit (.int .u8 21), .lit (.int .u8 19), .lit (.int .u8 16), .lit (.int .u8 7), .lit (.int .u8 26), .lit (.int .u8 12), .lit (.int .u8 18), .lit (.int .u8 6), .lit (.int .u8 11), .lit (.int .u8 5), .lit (.int .u8 10), .lit (.int .u8 9)]
def laid_math_bits_deBruijn64tab {H : Type} : DataW H := .agg [.lit (.int .u8 0), .lit (.int .u8 1), .lit (.int .u8 56), .lit (.int .u8 2), .lit (.int .u8 57), .lit (.int .u8 49), .lit (.int .u8 28), .lit (.int .u8 3), .lit (.int .u8 61), .lit (.int .u8 58), .lit (.int .u8 42), .lit (.int .u8 50), .lit (.int .u8 38), .lit (.int .u8 29), .lit (.int .u8 17), .lit (.int .u8 4), .lit (.int .u8 62), .lit (.int .u8 47), .lit (.int .u8 59), .lit (.int .u8 36), .lit (.int .u8 45), .lit (.int .u8 43), .lit (.int .u8 51), .lit (.int .u8 22), .lit (.int .u8 53), .lit (.int .u8 39), .lit (.int .u8 33), .lit (.int .u8 30), .lit (.int .u8 24), .lit (.int .u8 18), .lit (.int .u8 12), .lit (.int .u8 5), .lit (.int .u8 63), .lit (.int .u8 55), .lit (.int .u8 48), .lit (.int .u8 27), .lit (.int .u8 60), .lit (.int .u8 41), .lit (.int .u8 37), .lit (.int .u8 16), .lit (.int .u8 46), .lit (.int .u8 35), .lit (.int .u8 44), .lit (.int .u8 21), .lit (.int .u8 52), .lit (.int .u8 32), .lit (.int .u8 23), .lit (.int .u8 11), .lit (.int .u8 54), .lit (.int .u8 26), .lit (.int .u8 40), .lit (.int .u8 15), .lit (.int .u8 34), .lit (.int .u8 20), .lit (.int .u8 31), .lit (.int .u8 10), .lit (.int .u8 25), .lit (.int .u8 14), .lit (.int .u8 19), .lit (.int .u8 9), .lit (.int .u8 13), .lit (.int .u8 8), .lit (.int .u8 7), .lit (.int .u8 6)]
def laid_internal_strconv_uint64pow10 {H : Type} : DataW H := .agg [.lit (.int .u64 1), .lit (.int .u64 10), .lit (.int .u64 100), .lit (.int .u64 1000), .lit (.int .u64 10000), .lit (.int .u64 100000), .lit (.int .u64 1000000), .lit (.int .u64 10000000), .lit (.int .u64 100000000), .lit (.int .u64 1000000000), .lit (.int .u64 10000000000), .lit (.int .u64 100000000000), .lit (.int .u64 1000000000000), .lit (.int .u64 10000000000000), .lit (.int .u64 100000000000000), .lit (.int .u64 1000000000000000), .lit (.int .u64 10000000000000000), .lit (.int .u64 100000000000000000), .lit (.int .u64 1000000000000000000), .lit (.int .u64 10000000000000000000)]

/-- 'marquetrylaw06.ParseReads': WHATEVER THE INPUT: true; the input reads as it did. -/
def parseReadsSpec : ChangeSpec := { name := "parseReads", fn := fun _ => fun
  | [d] => { results := [.lit (.bool true)], args := [d] }
  | _ => none }
def parseReadsRow : OpenClaim := { program := "ytigbapkdpaahjaagreatdoor", sum := "67705db990bde54da2b72cfb161eceeaff689f4381dfda6354776bb39e9ba551", func := "marquetry/marquetrylaw06.ParseReads", spec := "parseReads", inPlace := ["internal/bytealg.IndexByteString", "internal/abi.NoEscape"], unfollowed := true, recurses := true, named := ["marquetry/lex.symbols", "marquetry/parse.levels", "marquetry/parse.words"], apart := false, laid := [("marquetry/lex.symbols", laid_marquetry_lex_symbols), ("marquetry/parse.levels", laid_marquetry_parse_levels), ("marquetry/parse.words", laid_marquetry_parse_words)] }
def ParseReadsSaid : Prop := parseReadsRow.holds Tryz.pinned (OpenSpec.ofChange parseReadsSpec)

/-- ITS FALSE NEIGHBOUR: 'it returns false'. Refute it at one input. -/
def parseReadsWrong : ChangeSpec := { name := "parseReads", fn := fun _ => fun
  | [d] => { results := [.lit (.bool false)], args := [d] }
  | _ => none }
def ParseReadsWrongFalsely : Prop := parseReadsRow.holds Tryz.pinned (OpenSpec.ofChange parseReadsWrong)

/-- 'marquetrylaw07.ShowTells': WHATEVER THE INPUT: true; the input reads as it did. -/
def showTellsSpec : ChangeSpec := { name := "showTells", fn := fun _ => fun
  | [d] => { results := [.lit (.bool true)], args := [d] }
  | _ => none }
def showTellsRow : OpenClaim := { program := "ytigbapkdpaahjaagreatdoor", sum := "67705db990bde54da2b72cfb161eceeaff689f4381dfda6354776bb39e9ba551", func := "marquetry/marquetrylaw07.ShowTells", spec := "showTells", inPlace := ["internal/bytealg.IndexByteString", "internal/abi.NoEscape"], unfollowed := true, recurses := true, named := ["marquetry/lex.symbols", "marquetry/parse.levels", "marquetry/parse.words", "internal/strconv.uint64pow10", "math/bits.deBruijn32tab", "math/bits.deBruijn64tab"], loops := true, apart := false, laid := [("math/bits.deBruijn32tab", laid_math_bits_deBruijn32tab), ("math/bits.deBruijn64tab", laid_math_bits_deBruijn64tab), ("internal/strconv.uint64pow10", laid_internal_strconv_uint64pow10), ("marquetry/lex.symbols", laid_marquetry_lex_symbols), ("marquetry/parse.levels", laid_marquetry_parse_levels), ("marquetry/parse.words", laid_marquetry_parse_words)] }
def ShowTellsSaid : Prop := showTellsRow.holds Tryz.pinned (OpenSpec.ofChange showTellsSpec)

/-- ITS FALSE NEIGHBOUR: 'it returns false'. Refute it at one input. -/
def showTellsWrong : ChangeSpec := { name := "showTells", fn := fun _ => fun
  | [d] => { results := [.lit (.bool false)], args := [d] }
  | _ => none }
def ShowTellsWrongFalsely : Prop := showTellsRow.holds Tryz.pinned (OpenSpec.ofChange showTellsWrong)

/-- 'marquetrylaw07.ShowPatterns': WHATEVER THE INPUT: true; the input reads as it did. -/
def showPatternsSpec : ChangeSpec := { name := "showPatterns", fn := fun _ => fun
  | [d] => { results := [.lit (.bool true)], args := [d] }
  | _ => none }
def showPatternsRow : OpenClaim := { program := "ytigbapkdpaahjaagreatdoor", sum := "67705db990bde54da2b72cfb161eceeaff689f4381dfda6354776bb39e9ba551", func := "marquetry/marquetrylaw07.ShowPatterns", spec := "showPatterns", inPlace := ["internal/bytealg.IndexByteString", "internal/abi.NoEscape"], unfollowed := true, recurses := true, named := ["marquetry/lex.symbols", "marquetry/parse.levels", "marquetry/parse.words", "internal/strconv.uint64pow10", "math/bits.deBruijn32tab", "math/bits.deBruijn64tab"], loops := true, apart := false, laid := [("math/bits.deBruijn32tab", laid_math_bits_deBruijn32tab), ("math/bits.deBruijn64tab", laid_math_bits_deBruijn64tab), ("internal/strconv.uint64pow10", laid_internal_strconv_uint64pow10), ("marquetry/lex.symbols", laid_marquetry_lex_symbols), ("marquetry/parse.levels", laid_marquetry_parse_levels), ("marquetry/parse.words", laid_marquetry_parse_words)] }
def ShowPatternsSaid : Prop := showPatternsRow.holds Tryz.pinned (OpenSpec.ofChange showPatternsSpec)

/-- ITS FALSE NEIGHBOUR: 'it returns false'. Refute it at one input. -/
def showPatternsWrong : ChangeSpec := { name := "showPatterns", fn := fun _ => fun
  | [d] => { results := [.lit (.bool false)], args := [d] }
  | _ => none }
def ShowPatternsWrongFalsely : Prop := showPatternsRow.holds Tryz.pinned (OpenSpec.ofChange showPatternsWrong)

/-- 'marquetrylaw07.ShowBack': WHATEVER THE INPUT: true; the input reads as it did. -/
def showBackSpec : ChangeSpec := { name := "showBack", fn := fun _ => fun
  | [d] => { results := [.lit (.bool true)], args := [d] }
  | _ => none }
def showBackRow : OpenClaim := { program := "ytigbapkdpaahjaagreatdoor", sum := "67705db990bde54da2b72cfb161eceeaff689f4381dfda6354776bb39e9ba551", func := "marquetry/marquetrylaw07.ShowBack", spec := "showBack", inPlace := ["internal/bytealg.IndexByteString", "internal/abi.NoEscape"], unfollowed := true, recurses := true, named := ["marquetry/lex.symbols", "marquetry/parse.levels", "marquetry/parse.words", "internal/strconv.uint64pow10", "math/bits.deBruijn32tab", "math/bits.deBruijn64tab"], loops := true, apart := false, laid := [("math/bits.deBruijn32tab", laid_math_bits_deBruijn32tab), ("math/bits.deBruijn64tab", laid_math_bits_deBruijn64tab), ("internal/strconv.uint64pow10", laid_internal_strconv_uint64pow10), ("marquetry/lex.symbols", laid_marquetry_lex_symbols), ("marquetry/parse.levels", laid_marquetry_parse_levels), ("marquetry/parse.words", laid_marquetry_parse_words)] }
def ShowBackSaid : Prop := showBackRow.holds Tryz.pinned (OpenSpec.ofChange showBackSpec)

/-- ITS FALSE NEIGHBOUR: 'it returns false'. Refute it at one input. -/
def showBackWrong : ChangeSpec := { name := "showBack", fn := fun _ => fun
  | [d] => { results := [.lit (.bool false)], args := [d] }
  | _ => none }
def ShowBackWrongFalsely : Prop := showBackRow.holds Tryz.pinned (OpenSpec.ofChange showBackWrong)

/-- 'marquetrylaw07.ShowReads': WHATEVER THE INPUT: true; the input reads as it did. -/
def showReadsSpec : ChangeSpec := { name := "showReads", fn := fun _ => fun
  | [d] => { results := [.lit (.bool true)], args := [d] }
  | _ => none }
def showReadsRow : OpenClaim := { program := "ytigbapkdpaahjaagreatdoor", sum := "67705db990bde54da2b72cfb161eceeaff689f4381dfda6354776bb39e9ba551", func := "marquetry/marquetrylaw07.ShowReads", spec := "showReads", inPlace := ["internal/bytealg.IndexByteString", "internal/abi.NoEscape"], unfollowed := true, recurses := true, named := ["marquetry/lex.symbols", "marquetry/parse.levels", "marquetry/parse.words", "internal/strconv.uint64pow10", "math/bits.deBruijn32tab", "math/bits.deBruijn64tab"], apart := false, laid := [("math/bits.deBruijn32tab", laid_math_bits_deBruijn32tab), ("math/bits.deBruijn64tab", laid_math_bits_deBruijn64tab), ("internal/strconv.uint64pow10", laid_internal_strconv_uint64pow10), ("marquetry/lex.symbols", laid_marquetry_lex_symbols), ("marquetry/parse.levels", laid_marquetry_parse_levels), ("marquetry/parse.words", laid_marquetry_parse_words)] }
def ShowReadsSaid : Prop := showReadsRow.holds Tryz.pinned (OpenSpec.ofChange showReadsSpec)

/-- ITS FALSE NEIGHBOUR: 'it returns false'. Refute it at one input. -/
def showReadsWrong : ChangeSpec := { name := "showReads", fn := fun _ => fun
  | [d] => { results := [.lit (.bool false)], args := [d] }
  | _ => none }
def ShowReadsWrongFalsely : Prop := showReadsRow.holds Tryz.pinned (OpenSpec.ofChange showReadsWrong)

/-- 'marquetrylaw07.ShowApart': WHATEVER THE INPUT: true; the input reads as it did. -/
def showApartSpec : ChangeSpec := { name := "showApart", fn := fun _ => fun
  | [d1, d2] => { results := [.lit (.bool true)], args := [d1, d2] }
  | _ => none }
def showApartRow : OpenClaim := { program := "ytigbapkdpaahjaagreatdoor", sum := "67705db990bde54da2b72cfb161eceeaff689f4381dfda6354776bb39e9ba551", func := "marquetry/marquetrylaw07.ShowApart", spec := "showApart", inPlace := ["internal/bytealg.IndexByteString", "internal/abi.NoEscape"], unfollowed := true, recurses := true, named := ["marquetry/lex.symbols", "marquetry/parse.levels", "marquetry/parse.words", "internal/strconv.uint64pow10", "math/bits.deBruijn32tab", "math/bits.deBruijn64tab"], loops := true, apart := false, laid := [("math/bits.deBruijn32tab", laid_math_bits_deBruijn32tab), ("math/bits.deBruijn64tab", laid_math_bits_deBruijn64tab), ("internal/strconv.uint64pow10", laid_internal_strconv_uint64pow10), ("marquetry/lex.symbols", laid_marquetry_lex_symbols), ("marquetry/parse.levels", laid_marquetry_parse_levels), ("marquetry/parse.words", laid_marquetry_parse_words)] }
def ShowApartSaid : Prop := showApartRow.holds Tryz.pinned (OpenSpec.ofChange showApartSpec)

/-- ITS FALSE NEIGHBOUR: 'it returns false'. Refute it at one input. -/
def showApartWrong : ChangeSpec := { name := "showApart", fn := fun _ => fun
  | [d1, d2] => { results := [.lit (.bool false)], args := [d1, d2] }
  | _ => none }
def ShowApartWrongFalsely : Prop := showApartRow.holds Tryz.pinned (OpenSpec.ofChange showApartWrong)

/-- 'marquetrylaw07.ShowCases': WHATEVER THE INPUT: true; the input reads as it did. -/
def showCasesSpec : ChangeSpec := { name := "showCases", fn := fun _ => fun
  | [d] => { results := [.lit (.bool true)], args := [d] }
  | _ => none }
def showCasesRow : OpenClaim := { program := "ytigbapkdpaahjaagreatdoor", sum := "67705db990bde54da2b72cfb161eceeaff689f4381dfda6354776bb39e9ba551", func := "marquetry/marquetrylaw07.ShowCases", spec := "showCases", inPlace := ["internal/bytealg.IndexByteString", "internal/abi.NoEscape"], unfollowed := true, recurses := true, named := ["marquetry/lex.symbols", "marquetry/parse.levels", "marquetry/parse.words", "internal/strconv.uint64pow10", "math/bits.deBruijn32tab", "math/bits.deBruijn64tab"], loops := true, apart := false, laid := [("math/bits.deBruijn32tab", laid_math_bits_deBruijn32tab), ("math/bits.deBruijn64tab", laid_math_bits_deBruijn64tab), ("internal/strconv.uint64pow10", laid_internal_strconv_uint64pow10), ("marquetry/lex.symbols", laid_marquetry_lex_symbols), ("marquetry/parse.levels", laid_marquetry_parse_levels), ("marquetry/parse.words", laid_marquetry_parse_words)] }
def ShowCasesSaid : Prop := showCasesRow.holds Tryz.pinned (OpenSpec.ofChange showCasesSpec)

/-- ITS FALSE NEIGHBOUR: 'it returns false'. Refute it at one input. -/
def showCasesWrong : ChangeSpec := { name := "showCases", fn := fun _ => fun
  | [d] => { results := [.lit (.bool false)], args := [d] }
  | _ => none }
def ShowCasesWrongFalsely : Prop := showCasesRow.holds Tryz.pinned (OpenSpec.ofChange showCasesWrong)

/- THE SECOND FORM. 'bulk': how many values and letters a reading holds, each counted each time it is reached (what is shared counts as often as it is met; a slice's spare places count too). A statement '..UptoSaid' is the law's where the arguments, and the package variables that the reading takes, are together of bulk at most 1048576: NARROWER than '..Said'. Prove '..Said' where nothing that the law and all that it calls make is longer than what came in: it says more and counts as full. Else prove '..UptoSaid'. A law counts once. -/
mutual
def uptoBulk {H : Type} : DataW H → Nat
  | .lit (.string bytes) => bytes.length + 1
  | .lit _ => 1
  | .nil => 1
  | .ptr d => uptoBulk d + 1
  | .slice elems spare => uptoBulkAll elems + uptoBulkAll spare + 1
  | .agg parts => uptoBulkAll parts + 1
  | .iface _ d => uptoBulk d + 1
  | .map entries => uptoBulkEntries entries + 1
  | .held _ => 1
def uptoBulkAll {H : Type} : List (DataW H) → Nat
  | [] => 0
  | d :: r => uptoBulk d + uptoBulkAll r
def uptoBulkEntries {H : Type} : List (Lit × DataW H) → Nat
  | [] => 0
  | x :: r => uptoBulkEntry x + uptoBulkEntries r
def uptoBulkEntry {H : Type} : Lit × DataW H → Nat
  | (.string bytes, d) => bytes.length + uptoBulk d + 1
  | (_, d) => uptoBulk d + 1
 end
def uptoSmall : (H : Type) → List (DataW H) → Bool := fun _ ds => decide (uptoBulkAll ds ≤ 1048576)
def OpenSpec.upto (s : _root_.Go.ChangeSpec) : _root_.Go.OpenSpec := { _root_.Go.OpenSpec.ofChange s with cond := some uptoSmall }

/-- 'marquetrylaw06.ParseReads', WHERE WHAT IT READS IS OF BULK AT MOST 1048576: true; the input reads as it did. -/
def parseReadsUptoRow : OpenClaim := { program := "ytigbapkdpaahjaagreatdoor", sum := "67705db990bde54da2b72cfb161eceeaff689f4381dfda6354776bb39e9ba551", func := "marquetry/marquetrylaw06.ParseReads", spec := "parseReads", inPlace := ["internal/bytealg.IndexByteString", "internal/abi.NoEscape"], unfollowed := true, recurses := true, named := ["marquetry/lex.symbols", "marquetry/parse.levels", "marquetry/parse.words"], apart := false, laid := [("marquetry/lex.symbols", laid_marquetry_lex_symbols), ("marquetry/parse.levels", laid_marquetry_parse_levels), ("marquetry/parse.words", laid_marquetry_parse_words)], narrowed := true }
def ParseReadsUptoSaid : Prop := parseReadsUptoRow.holds Tryz.pinned (OpenSpec.upto parseReadsSpec)

/-- 'marquetrylaw07.ShowTells', WHERE WHAT IT READS IS OF BULK AT MOST 1048576: true; the input reads as it did. -/
def showTellsUptoRow : OpenClaim := { program := "ytigbapkdpaahjaagreatdoor", sum := "67705db990bde54da2b72cfb161eceeaff689f4381dfda6354776bb39e9ba551", func := "marquetry/marquetrylaw07.ShowTells", spec := "showTells", inPlace := ["internal/bytealg.IndexByteString", "internal/abi.NoEscape"], unfollowed := true, recurses := true, named := ["marquetry/lex.symbols", "marquetry/parse.levels", "marquetry/parse.words", "internal/strconv.uint64pow10", "math/bits.deBruijn32tab", "math/bits.deBruijn64tab"], loops := true, apart := false, laid := [("math/bits.deBruijn32tab", laid_math_bits_deBruijn32tab), ("math/bits.deBruijn64tab", laid_math_bits_deBruijn64tab), ("internal/strconv.uint64pow10", laid_internal_strconv_uint64pow10), ("marquetry/lex.symbols", laid_marquetry_lex_symbols), ("marquetry/parse.levels", laid_marquetry_parse_levels), ("marquetry/parse.words", laid_marquetry_parse_words)], narrowed := true }
def ShowTellsUptoSaid : Prop := showTellsUptoRow.holds Tryz.pinned (OpenSpec.upto showTellsSpec)

/-- 'marquetrylaw07.ShowPatterns', WHERE WHAT IT READS IS OF BULK AT MOST 1048576: true; the input reads as it did. -/
def showPatternsUptoRow : OpenClaim := { program := "ytigbapkdpaahjaagreatdoor", sum := "67705db990bde54da2b72cfb161eceeaff689f4381dfda6354776bb39e9ba551", func := "marquetry/marquetrylaw07.ShowPatterns", spec := "showPatterns", inPlace := ["internal/bytealg.IndexByteString", "internal/abi.NoEscape"], unfollowed := true, recurses := true, named := ["marquetry/lex.symbols", "marquetry/parse.levels", "marquetry/parse.words", "internal/strconv.uint64pow10", "math/bits.deBruijn32tab", "math/bits.deBruijn64tab"], loops := true, apart := false, laid := [("math/bits.deBruijn32tab", laid_math_bits_deBruijn32tab), ("math/bits.deBruijn64tab", laid_math_bits_deBruijn64tab), ("internal/strconv.uint64pow10", laid_internal_strconv_uint64pow10), ("marquetry/lex.symbols", laid_marquetry_lex_symbols), ("marquetry/parse.levels", laid_marquetry_parse_levels), ("marquetry/parse.words", laid_marquetry_parse_words)], narrowed := true }
def ShowPatternsUptoSaid : Prop := showPatternsUptoRow.holds Tryz.pinned (OpenSpec.upto showPatternsSpec)

/-- 'marquetrylaw07.ShowBack', WHERE WHAT IT READS IS OF BULK AT MOST 1048576: true; the input reads as it did. -/
def showBackUptoRow : OpenClaim := { program := "ytigbapkdpaahjaagreatdoor", sum := "67705db990bde54da2b72cfb161eceeaff689f4381dfda6354776bb39e9ba551", func := "marquetry/marquetrylaw07.ShowBack", spec := "showBack", inPlace := ["internal/bytealg.IndexByteString", "internal/abi.NoEscape"], unfollowed := true, recurses := true, named := ["marquetry/lex.symbols", "marquetry/parse.levels", "marquetry/parse.words", "internal/strconv.uint64pow10", "math/bits.deBruijn32tab", "math/bits.deBruijn64tab"], loops := true, apart := false, laid := [("math/bits.deBruijn32tab", laid_math_bits_deBruijn32tab), ("math/bits.deBruijn64tab", laid_math_bits_deBruijn64tab), ("internal/strconv.uint64pow10", laid_internal_strconv_uint64pow10), ("marquetry/lex.symbols", laid_marquetry_lex_symbols), ("marquetry/parse.levels", laid_marquetry_parse_levels), ("marquetry/parse.words", laid_marquetry_parse_words)], narrowed := true }
def ShowBackUptoSaid : Prop := showBackUptoRow.holds Tryz.pinned (OpenSpec.upto showBackSpec)

/-- 'marquetrylaw07.ShowReads', WHERE WHAT IT READS IS OF BULK AT MOST 1048576: true; the input reads as it did. -/
def showReadsUptoRow : OpenClaim := { program := "ytigbapkdpaahjaagreatdoor", sum := "67705db990bde54da2b72cfb161eceeaff689f4381dfda6354776bb39e9ba551", func := "marquetry/marquetrylaw07.ShowReads", spec := "showReads", inPlace := ["internal/bytealg.IndexByteString", "internal/abi.NoEscape"], unfollowed := true, recurses := true, named := ["marquetry/lex.symbols", "marquetry/parse.levels", "marquetry/parse.words", "internal/strconv.uint64pow10", "math/bits.deBruijn32tab", "math/bits.deBruijn64tab"], apart := false, laid := [("math/bits.deBruijn32tab", laid_math_bits_deBruijn32tab), ("math/bits.deBruijn64tab", laid_math_bits_deBruijn64tab), ("internal/strconv.uint64pow10", laid_internal_strconv_uint64pow10), ("marquetry/lex.symbols", laid_marquetry_lex_symbols), ("marquetry/parse.levels", laid_marquetry_parse_levels), ("marquetry/parse.words", laid_marquetry_parse_words)], narrowed := true }
def ShowReadsUptoSaid : Prop := showReadsUptoRow.holds Tryz.pinned (OpenSpec.upto showReadsSpec)

/-- 'marquetrylaw07.ShowApart', WHERE WHAT IT READS IS OF BULK AT MOST 1048576: true; the input reads as it did. -/
def showApartUptoRow : OpenClaim := { program := "ytigbapkdpaahjaagreatdoor", sum := "67705db990bde54da2b72cfb161eceeaff689f4381dfda6354776bb39e9ba551", func := "marquetry/marquetrylaw07.ShowApart", spec := "showApart", inPlace := ["internal/bytealg.IndexByteString", "internal/abi.NoEscape"], unfollowed := true, recurses := true, named := ["marquetry/lex.symbols", "marquetry/parse.levels", "marquetry/parse.words", "internal/strconv.uint64pow10", "math/bits.deBruijn32tab", "math/bits.deBruijn64tab"], loops := true, apart := false, laid := [("math/bits.deBruijn32tab", laid_math_bits_deBruijn32tab), ("math/bits.deBruijn64tab", laid_math_bits_deBruijn64tab), ("internal/strconv.uint64pow10", laid_internal_strconv_uint64pow10), ("marquetry/lex.symbols", laid_marquetry_lex_symbols), ("marquetry/parse.levels", laid_marquetry_parse_levels), ("marquetry/parse.words", laid_marquetry_parse_words)], narrowed := true }
def ShowApartUptoSaid : Prop := showApartUptoRow.holds Tryz.pinned (OpenSpec.upto showApartSpec)

/-- 'marquetrylaw07.ShowCases', WHERE WHAT IT READS IS OF BULK AT MOST 1048576: true; the input reads as it did. -/
def showCasesUptoRow : OpenClaim := { program := "ytigbapkdpaahjaagreatdoor", sum := "67705db990bde54da2b72cfb161eceeaff689f4381dfda6354776bb39e9ba551", func := "marquetry/marquetrylaw07.ShowCases", spec := "showCases", inPlace := ["internal/bytealg.IndexByteString", "internal/abi.NoEscape"], unfollowed := true, recurses := true, named := ["marquetry/lex.symbols", "marquetry/parse.levels", "marquetry/parse.words", "internal/strconv.uint64pow10", "math/bits.deBruijn32tab", "math/bits.deBruijn64tab"], loops := true, apart := false, laid := [("math/bits.deBruijn32tab", laid_math_bits_deBruijn32tab), ("math/bits.deBruijn64tab", laid_math_bits_deBruijn64tab), ("internal/strconv.uint64pow10", laid_internal_strconv_uint64pow10), ("marquetry/lex.symbols", laid_marquetry_lex_symbols), ("marquetry/parse.levels", laid_marquetry_parse_levels), ("marquetry/parse.words", laid_marquetry_parse_words)], narrowed := true }
def ShowCasesUptoSaid : Prop := showCasesUptoRow.holds Tryz.pinned (OpenSpec.upto showCasesSpec)

end Rows
end Go.Proofs.YtigbapkdpaahjaaGreatDoor
