/-
  NARROWER THAN 'FOR EVERY INPUT', by the rows' own cells (each row's printed sentence says how): LexNames: laid · ParseCounts: loops, laid · ParseBlanks: laid · ParseBrackets: laid · ParsePlaces: laid · ParseBinds: laid.
  DERIVED. THE GIVEN ROWS OF THIS SEAT. 6 by the template 'for every input the law returns true; each argument reads behind the call as it read before'; 0 by the template 'total and deterministic' (their statements: YtecpldnjpapalaaDoorTotals.lean).
  GIVEN WITH THE SEED: the statements are not yours to turn. If you find one false, say at which input.
  Laid BY PROGRAM, IN A SANDBOX (cutbox-rows.mjs): the forced cells as the released guide's own fill.sh prints them over the translation 0c052936ba6b98a0… (all of the seat's roots in one cut). By AI agents, Wed Nov 11 2026. No macro, syntax, notation, axiom, sorry.
-/
import Derived.Test.YtecpldnjpapalaaDoorChecked
import GoSem.Claim
import GoSem.ClaimJoined
import GoSem.ClaimMapViews
import Derived.JoinedTies
import Derived.KernelRfl
namespace Go.Proofs.YtecpldnjpapalaaDoor
/- THE CELL 'sum', in the pinned program and in every row, IS THE sha256 OF THE DUMP (.gsa) THAT YtecpldnjpapalaaDoorProg.lean LOADS. Nothing in Lean hashes anything: it is a label: what it is worth is what the hold of that sum in a sandbox is worth. -/
noncomputable def Tryd.pinned : Pinned := { name := "ytecpldnjpapalaadoor", sum := "0c052936ba6b98a09d213037a0d0b51575682dbd7e477f9bc26ac79a7d862d5a", checked := Tryd.checked }
namespace Rows
def none {H : Type} : Left H := { results := [], args := [] }

/- WHAT THE LISTED PACKAGE-LEVEL VARIABLES READ AS WHEN THE CALL BEGINS. Each datum BY PROGRAM (the guide's laid-datum.mjs) off the statement by which the dump's own 'gosem.cut.vars' lays the variable. In a bare row this is a premise. The card (YtecpldnjpapalaaDoorCards.lean) ties it to the program's text. -/
def laid_marquetry_lex_symbols {H : Type} : DataW H := .slice [.lit (.string [45, 62]), .lit (.string [58, 61]), .lit (.string [38, 38]), .lit (.string [124, 124]), .lit (.string [40]), .lit (.string [41]), .lit (.string [123]), .lit (.string [125]), .lit (.string [61]), .lit (.string [59]), .lit (.string [44]), .lit (.string [46]), .lit (.string [124]), .lit (.string [43]), .lit (.string [45]), .lit (.string [42]), .lit (.string [47]), .lit (.string [37]), .lit (.string [60]), .lit (.string [33])] []
def laid_marquetry_parse_levels {H : Type} : DataW H := .agg [.agg [.lit (.int .i64 22), .lit (.int .i64 2), .agg [.lit (.string [124, 124]), .lit (.string []), .lit (.string [])]], .agg [.lit (.int .i64 21), .lit (.int .i64 2), .agg [.lit (.string [38, 38]), .lit (.string []), .lit (.string [])]], .agg [.lit (.int .i64 19), .lit (.int .i64 0), .agg [.lit (.string [61]), .lit (.string [60]), .lit (.string [])]], .agg [.lit (.int .i64 19), .lit (.int .i64 1), .agg [.lit (.string [43]), .lit (.string [45]), .lit (.string [])]], .agg [.lit (.int .i64 19), .lit (.int .i64 1), .agg [.lit (.string [42]), .lit (.string [47]), .lit (.string [37])]]]
def laid_marquetry_parse_words {H : Type} : DataW H := .agg [.agg [.lit (.string [114, 101, 102]), .lit (.string [108, 101, 110]), .lit (.string [115, 105, 122, 101]), .lit (.string [103, 101, 116, 99]), .lit (.string [112, 117, 116, 99])], .agg [.lit (.string [97, 114, 114, 97, 121]), .lit (.string [103, 101, 116]), .lit (.string [98, 121, 116, 101]), .lit (.string [99, 97, 116]), .lit (.string [])], .agg [.lit (.string [115, 101, 116]), .lit (.string []), .lit (.string []), .lit (.string []), .lit (.string [])]]

/-- 'marquetrylaw05.LexNames': WHATEVER THE INPUT: true; the input reads as it did. -/
def lexNamesSpec : ChangeSpec := { name := "lexNames", fn := fun _ => fun
  | [d] => { results := [.lit (.bool true)], args := [d] }
  | _ => none }
def lexNamesRow : OpenClaim := { program := "ytecpldnjpapalaadoor", sum := "0c052936ba6b98a09d213037a0d0b51575682dbd7e477f9bc26ac79a7d862d5a", func := "marquetry/marquetrylaw05.LexNames", spec := "lexNames", inPlace := ["internal/bytealg.IndexByteString", "internal/abi.NoEscape"], named := ["marquetry/lex.symbols"], apart := false, laid := [("marquetry/lex.symbols", laid_marquetry_lex_symbols)] }
def LexNamesSaid : Prop := lexNamesRow.holds Tryd.pinned (OpenSpec.ofChange lexNamesSpec)

/-- ITS FALSE NEIGHBOUR: 'it returns false'. Refute it at one input. -/
def lexNamesWrong : ChangeSpec := { name := "lexNames", fn := fun _ => fun
  | [d] => { results := [.lit (.bool false)], args := [d] }
  | _ => none }
def LexNamesWrongFalsely : Prop := lexNamesRow.holds Tryd.pinned (OpenSpec.ofChange lexNamesWrong)

/-- 'marquetrylaw06.ParseCounts': WHATEVER THE INPUT: true; the input reads as it did. -/
def parseCountsSpec : ChangeSpec := { name := "parseCounts", fn := fun _ => fun
  | [d1, d2, d3] => { results := [.lit (.bool true)], args := [d1, d2, d3] }
  | _ => none }
def parseCountsRow : OpenClaim := { program := "ytecpldnjpapalaadoor", sum := "0c052936ba6b98a09d213037a0d0b51575682dbd7e477f9bc26ac79a7d862d5a", func := "marquetry/marquetrylaw06.ParseCounts", spec := "parseCounts", inPlace := ["internal/bytealg.IndexByteString", "internal/abi.NoEscape"], unfollowed := true, recurses := true, named := ["marquetry/lex.symbols", "marquetry/parse.levels", "marquetry/parse.words"], loops := true, apart := false, laid := [("marquetry/lex.symbols", laid_marquetry_lex_symbols), ("marquetry/parse.levels", laid_marquetry_parse_levels), ("marquetry/parse.words", laid_marquetry_parse_words)] }
def ParseCountsSaid : Prop := parseCountsRow.holds Tryd.pinned (OpenSpec.ofChange parseCountsSpec)

/-- ITS FALSE NEIGHBOUR: 'it returns false'. Refute it at one input. -/
def parseCountsWrong : ChangeSpec := { name := "parseCounts", fn := fun _ => fun
  | [d1, d2, d3] => { results := [.lit (.bool false)], args := [d1, d2, d3] }
  | _ => none }
def ParseCountsWrongFalsely : Prop := parseCountsRow.holds Tryd.pinned (OpenSpec.ofChange parseCountsWrong)

/-- 'marquetrylaw06.ParseBlanks': WHATEVER THE INPUT: true; the input reads as it did. -/
def parseBlanksSpec : ChangeSpec := { name := "parseBlanks", fn := fun _ => fun
  | [d] => { results := [.lit (.bool true)], args := [d] }
  | _ => none }
def parseBlanksRow : OpenClaim := { program := "ytecpldnjpapalaadoor", sum := "0c052936ba6b98a09d213037a0d0b51575682dbd7e477f9bc26ac79a7d862d5a", func := "marquetry/marquetrylaw06.ParseBlanks", spec := "parseBlanks", inPlace := ["internal/bytealg.IndexByteString", "internal/abi.NoEscape"], unfollowed := true, recurses := true, named := ["marquetry/lex.symbols", "marquetry/parse.levels", "marquetry/parse.words"], apart := false, laid := [("marquetry/lex.symbols", laid_marquetry_lex_symbols), ("marquetry/parse.levels", laid_marquetry_parse_levels), ("marquetry/parse.words", laid_marquetry_parse_words)] }
def ParseBlanksSaid : Prop := parseBlanksRow.holds Tryd.pinned (OpenSpec.ofChange parseBlanksSpec)

/-- ITS FALSE NEIGHBOUR: 'it returns false'. Refute it at one input. -/
def parseBlanksWrong : ChangeSpec := { name := "parseBlanks", fn := fun _ => fun
  | [d] => { results := [.lit (.bool false)], args := [d] }
  | _ => none }
def ParseBlanksWrongFalsely : Prop := parseBlanksRow.holds Tryd.pinned (OpenSpec.ofChange parseBlanksWrong)

/-- 'marquetrylaw06.ParseBrackets': WHATEVER THE INPUT: true; the input reads as it did. -/
def parseBracketsSpec : ChangeSpec := { name := "parseBrackets", fn := fun _ => fun
  | [d] => { results := [.lit (.bool true)], args := [d] }
  | _ => none }
def parseBracketsRow : OpenClaim := { program := "ytecpldnjpapalaadoor", sum := "0c052936ba6b98a09d213037a0d0b51575682dbd7e477f9bc26ac79a7d862d5a", func := "marquetry/marquetrylaw06.ParseBrackets", spec := "parseBrackets", inPlace := ["internal/bytealg.IndexByteString", "internal/abi.NoEscape"], unfollowed := true, recurses := true, named := ["marquetry/lex.symbols", "marquetry/parse.levels", "marquetry/parse.words"], apart := false, laid := [("marquetry/lex.symbols", laid_marquetry_lex_symbols), ("marquetry/parse.levels", laid_marquetry_parse_levels), ("marquetry/parse.words", laid_marquetry_parse_words)] }
def ParseBracketsSaid : Prop := parseBracketsRow.holds Tryd.pinned (OpenSpec.ofChange parseBracketsSpec)

/-- ITS FALSE NEIGHBOUR: 'it returns false'. Refute it at one input. -/
def parseBracketsWrong : ChangeSpec := { name := "parseBrackets", fn := fun _ => fun
  | [d] => { results := [.lit (.bool false)], args := [d] }
  | _ => none }
def ParseBracketsWrongFalsely : Prop := parseBracketsRow.holds Tryd.pinned (OpenSpec.ofChange parseBracketsWrong)

/-- 'marquetrylaw06.ParsePlaces': WHATEVER THE INPUT: true; the input reads as it did. -/
def parsePlacesSpec : ChangeSpec := { name := "parsePlaces", fn := fun _ => fun
  | [d] => { results := [.lit (.bool true)], args := [d] }
  | _ => none }
def parsePlacesRow : OpenClaim := { program := "ytecpldnjpapalaadoor", sum := "0c052936ba6b98a09d213037a0d0b51575682dbd7e477f9bc26ac79a7d862d5a", func := "marquetry/marquetrylaw06.ParsePlaces", spec := "parsePlaces", inPlace := ["internal/bytealg.IndexByteString", "internal/abi.NoEscape"], unfollowed := true, recurses := true, named := ["marquetry/lex.symbols", "marquetry/parse.levels", "marquetry/parse.words"], apart := false, laid := [("marquetry/lex.symbols", laid_marquetry_lex_symbols), ("marquetry/parse.levels", laid_marquetry_parse_levels), ("marquetry/parse.words", laid_marquetry_parse_words)] }
def ParsePlacesSaid : Prop := parsePlacesRow.holds Tryd.pinned (OpenSpec.ofChange parsePlacesSpec)

/-- ITS FALSE NEIGHBOUR: 'it returns false'. Refute it at one input. -/
def parsePlacesWrong : ChangeSpec := { name := "parsePlaces", fn := fun _ => fun
  | [d] => { results := [.lit (.bool false)], args := [d] }
  | _ => none }
def ParsePlacesWrongFalsely : Prop := parsePlacesRow.holds Tryd.pinned (OpenSpec.ofChange parsePlacesWrong)

/-- 'marquetrylaw06.ParseBinds': WHATEVER THE INPUT: true; the input reads as it did. -/
def parseBindsSpec : ChangeSpec := { name := "parseBinds", fn := fun _ => fun
  | [d1, d2, d3, d4, d5] => { results := [.lit (.bool true)], args := [d1, d2, d3, d4, d5] }
  | _ => none }
def parseBindsRow : OpenClaim := { program := "ytecpldnjpapalaadoor", sum := "0c052936ba6b98a09d213037a0d0b51575682dbd7e477f9bc26ac79a7d862d5a", func := "marquetry/marquetrylaw06.ParseBinds", spec := "parseBinds", inPlace := ["internal/bytealg.IndexByteString", "internal/abi.NoEscape"], unfollowed := true, recurses := true, named := ["marquetry/lex.symbols", "marquetry/parse.levels", "marquetry/parse.words"], apart := false, laid := [("marquetry/lex.symbols", laid_marquetry_lex_symbols), ("marquetry/parse.levels", laid_marquetry_parse_levels), ("marquetry/parse.words", laid_marquetry_parse_words)] }
def ParseBindsSaid : Prop := parseBindsRow.holds Tryd.pinned (OpenSpec.ofChange parseBindsSpec)

/-- ITS FALSE NEIGHBOUR: 'it returns false'. Refute it at one input. -/
def parseBindsWrong : ChangeSpec := { name := "parseBinds", fn := fun _ => fun
  | [d1, d2, d3, d4, d5] => { results := [.lit (.bool false)], args := [d1, d2, d3, d4, d5] }
  | _ => none }
def ParseBindsWrongFalsely : Prop := parseBindsRow.holds Tryd.pinned (OpenSpec.ofChange parseBindsWrong)

/- THE SECOND FORM. 'bulk': how many values and letters a reading holds, each counted each time it is reached (what is shared counts as often as it is met; a slice's spare places count too). A statement '..UptoSaid' is the law's where the arguments, and the package variables that the reading takes, are together of bulk at most 1048576: NARROWER than '..Said'. Prove '..Said' where nothing that the law and all that it calls make is longer than what came in: it says more and counts as full. Else prove '..UptoSaid'. A law counts once. -/
mutual
def uptoBulk {H : Type} : DataW H → Nat
  | .lit (.string bytes) => bytes.length + 1
  | .lit _ => 1
  | .nil => 1
  | .ptr d => uptoBulk d + 1
  | .slice elems spare => uptoBulkAll elems + uptoBulkAll spare + 1
  | .agg parts => uptoBulkAll parts + 1
  | .iface _ d => uptoBulk d + 1
  | .map entries => uptoBulkEntries entries + 1
  | .held _ => 1
def uptoBulkAll {H : Type} : List (DataW H) → Nat
  | [] => 0
  | d :: r => uptoBulk d + uptoBulkAll r
def uptoBulkEntries {H : Type} : List (Lit × DataW H) → Nat
  | [] => 0
  | x :: r => uptoBulkEntry x + uptoBulkEntries r
def uptoBulkEntry {H : Type} : Lit × DataW H → Nat
  | (.string bytes, d) => bytes.length + uptoBulk d + 1
  | (_, d) => uptoBulk d + 1
 end
def uptoSmall : (H : Type) → List (DataW H) → Bool := fun _ ds => decide (uptoBulkAll ds ≤ 1048576)
def OpenSpec.upto (s : _root_.Go.ChangeSpec) : _root_.Go.OpenSpec := { _root_.Go.OpenSpec.ofChange s with cond := some uptoSmall }

/-- 'marquetrylaw05.LexNames', WHERE WHAT IT READS IS OF BULK AT MOST 1048576: true; the input reads as it did. -/
def lexNamesUptoRow : OpenClaim := { program := "ytecpldnjpapalaadoor", sum := "0c052936ba6b98a09d213037a0d0b51575682dbd7e477f9bc26ac79a7d862d5a", func := "marquetry/marquetrylaw05.LexNames", spec := "lexNames", inPlace := ["internal/bytealg.IndexByteString", "internal/abi.NoEscape"], named := ["marquetry/lex.symbols"], apart := false, laid := [("marquetry/lex.symbols", laid_marquetry_lex_symbols)], narrowed := true }
def LexNamesUptoSaid : Prop := lexNamesUptoRow.holds Tryd.pinned (OpenSpec.upto lexNamesSpec)

/-- 'marquetrylaw06.ParseCounts', WHERE WHAT IT READS IS OF BULK AT MOST 1048576: true; the input reads as it did. -/
def parseCountsUptoRow : OpenClaim := { program := "ytecpldnjpapalaadoor", sum := "0c052936ba6b98a09d213037a0d0b51575682dbd7e477f9bc26ac79a7d862d5a", func := "marquetry/marquetrylaw06.ParseCounts", spec := "parseCounts", inPlace := ["internal/bytealg.IndexByteString", "internal/abi.NoEscape"], unfollowed := true, recurses := true, named := ["marquetry/lex.symbols", "marquetry/parse.levels", "marquetry/parse.words"], loops := true, apart := false, laid := [("marquetry/lex.symbols", laid_marquetry_lex_symbols), ("marquetry/parse.levels", laid_marquetry_parse_levels), ("marquetry/parse.words", laid_marquetry_parse_words)], narrowed := true }
def ParseCountsUptoSaid : Prop := parseCountsUptoRow.holds Tryd.pinned (OpenSpec.upto parseCountsSpec)

/-- 'marquetrylaw06.ParseBlanks', WHERE WHAT IT READS IS OF BULK AT MOST 1048576: true; the input reads as it did. -/
def parseBlanksUptoRow : OpenClaim := { program := "ytecpldnjpapalaadoor", sum := "0c052936ba6b98a09d213037a0d0b51575682dbd7e477f9bc26ac79a7d862d5a", func := "marquetry/marquetrylaw06.ParseBlanks", spec := "parseBlanks", inPlace := ["internal/bytealg.IndexByteString", "internal/abi.NoEscape"], unfollowed := true, recurses := true, named := ["marquetry/lex.symbols", "marquetry/parse.levels", "marquetry/parse.words"], apart := false, laid := [("marquetry/lex.symbols", laid_marquetry_lex_symbols), ("marquetry/parse.levels", laid_marquetry_parse_levels), ("marquetry/parse.words", laid_marquetry_parse_words)], narrowed := true }
def ParseBlanksUptoSaid : Prop := parseBlanksUptoRow.holds Tryd.pinned (OpenSpec.upto parseBlanksSpec)

/-- 'marquetrylaw06.ParseBrackets', WHERE WHAT IT READS IS OF BULK AT MOST 1048576: true; the input reads as it did. -/
def parseBracketsUptoRow : OpenClaim := { program := "ytecpldnjpapalaadoor", sum := "0c052936ba6b98a09d213037a0d0b51575682dbd7e477f9bc26ac79a7d862d5a", func := "marquetry/marquetrylaw06.ParseBrackets", spec := "parseBrackets", inPlace := ["internal/bytealg.IndexByteString", "internal/abi.NoEscape"], unfollowed := true, recurses := true, named := ["marquetry/lex.symbols", "marquetry/parse.levels", "marquetry/parse.words"], apart := false, laid := [("marquetry/lex.symbols", laid_marquetry_lex_symbols), ("marquetry/parse.levels", laid_marquetry_parse_levels), ("marquetry/parse.words", laid_marquetry_parse_words)], narrowed := true }
def ParseBracketsUptoSaid : Prop := parseBracketsUptoRow.holds Tryd.pinned (OpenSpec.upto parseBracketsSpec)

/-- 'marquetrylaw06.ParsePlaces', WHERE WHAT IT READS IS OF BULK AT MOST 1048576: true; the input reads as it did. -/
def parsePlacesUptoRow : OpenClaim := { program := "ytecpldnjpapalaadoor", sum := "0c052936ba6b98a09d213037a0d0b51575682dbd7e477f9bc26ac79a7d862d5a", func := "marquetry/marquetrylaw06.ParsePlaces", spec := "parsePlaces", inPlace := ["internal/bytealg.IndexByteString", "internal/abi.NoEscape"], unfollowed := true, recurses := true, named := ["marquetry/lex.symbols", "marquetry/parse.levels", "marquetry/parse.words"], apart := false, laid := [("marquetry/lex.symbols", laid_marquetry_lex_symbols), ("marquetry/parse.levels", laid_marquetry_parse_levels), ("marquetry/parse.words", laid_marquetry_parse_words)], narrowed := true }
def ParsePlacesUptoSaid : Prop := parsePlacesUptoRow.holds Tryd.pinned (OpenSpec.upto parsePlacesSpec)

/-- 'marquetrylaw06.ParseBinds', WHERE WHAT IT READS IS OF BULK AT MOST 1048576: true; the input reads as it did. -/
def parseBindsUptoRow : OpenClaim := { program := "ytecpldnjpapalaadoor", sum := "0c052936ba6b98a09d213037a0d0b51575682dbd7e477f9bc26ac79a7d862d5a", func := "marquetry/marquetrylaw06.ParseBinds", spec := "parseBinds", inPlace := ["internal/bytealg.IndexByteString", "internal/abi.NoEscape"], unfollowed := true, recurses := true, named := ["marquetry/lex.symbols", "marquetry/parse.levels", "marquetry/parse.words"], apart := false, laid := [("marquetry/lex.symbols", laid_marquetry_lex_symbols), ("marquetry/parse.levels", laid_marquetry_parse_levels), ("marquetry/parse.words", laid_marquetry_parse_words)], narrowed := true }
def ParseBindsUptoSaid : Prop := parseBindsUptoRow.holds Tryd.pinned (OpenSpec.upto parseBindsSpec)

end Rows
end Go.Proofs.YtecpldnjpapalaaDoor
