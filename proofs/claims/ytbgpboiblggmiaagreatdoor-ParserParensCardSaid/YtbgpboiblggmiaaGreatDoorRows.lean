/-
  NARROWER THAN 'FOR EVERY INPUT', by the rows' own cells (each row's printed sentence says how): ParserWellFormed: laid · ParserParens: loops, laid · ParserLevels: laid · ParserLayout: laid · ParserConcat: laid · ParserRecovery: laid · ParserTruncated: laid · ParserLocality: laid.
  DERIVED. THE GIVEN ROWS OF THIS SEAT. 8 by the template 'for every input the law returns true; each argument reads behind the call as it read before'; 0 by the template 'total and deterministic' (their statements: YtbgpboiblggmiaaGreatDoorTotals.lean).
  GIVEN WITH THE SEED: the statements are not yours to turn. If you find one false, say at which input.
  Laid BY PROGRAM, IN A SANDBOX (cutbox-rows.mjs): the forced cells as the released guide's own fill.sh prints them over the translation 0b44008b45c414fa… (all of the seat's roots in one cut). By AI agents, Wed Nov 11 2026. No macro, syntax, notation, axiom, sorry.
-/
import Derived.Test.YtbgpboiblggmiaaGreatDoorChecked
import GoSem.PinnedTables
import GoSem.Claim
import GoSem.ClaimJoined
import GoSem.ClaimMapViews
import Derived.JoinedTies
import Derived.KernelRfl
namespace Go.Proofs.YtbgpboiblggmiaaGreatDoor
/- THE CELL 'sum', in the pinned program and in every row, IS THE sha256 OF THE DUMP (.gsa) THAT YtbgpboiblggmiaaGreatDoorProg.lean LOADS. Nothing in Lean hashes anything: it is a label: what it is worth is what the hold of that sum in a sandbox is worth. -/
noncomputable def Tryz.pinned : Pinned := { name := "ytbgpboiblggmiaagreatdoor", sum := "0b44008b45c414fa1b71b9be9c335b9fa82c4347f72bfbe1d4953bf5b75afbf1", checked := Tryz.checked }
namespace Rows
def none {H : Type} : Left H := { results := [], args := [] }

/- WHAT THE LISTED PACKAGE-LEVEL VARIABLES READ AS WHEN THE CALL BEGINS. Each datum BY PROGRAM (the guide's laid-datum.mjs) off the statement by which the dump's own 'gosem.cut.vars' lays the variable. In a bare row this is a premise. The card (YtbgpboiblggmiaaGreatDoorCards.lean) ties it to the program's text. -/
def laid_math_bits_deBruijn32tab {H : Type} : DataW H := .agg [.lit (.int .u8 0), .lit (.int .u8 1), .lit (.int .u8 28), .lit (.int .u8 2), .lit (.int .u8 29), .lit (.int .u8 14), .lit (.int .u8 24), .lit (.int .u8 3), .lit (.int .u8 30), .lit (.int .u8 22), .lit (.int .u8 20), .lit (.int .u8 15), .lit (.int .u8 25), .lit (.int .u8 17), .lit (.int .u8 4), .lit (.int .u8 8), .lit (.int .u8 31), .lit (.int .u8 27), .lit (.int .u8 13), .lit (.int .u8 23), .lit (.int .u8 21), .lit (.int .u8 19), .lit (.int .u8 16), .lit (.int .u8 7), .lit (.int .u8 26), .lit (.int .u8 12), .lit (.int .u8 18), .lit (.int .u8 6), .lit (.int .u8 11), .lit (.int .u8 5), .lit (.int .u8 10), .lit (.int .u8 9)]
def laid_math_bits_deBruijn64tab {H : Type} : DataW H := .agg [.lit (.int .u8 0), .lit (.int .u8 1), .lit (.int .u8 56), .lit (.int .u8 2), .lit (.int .u8 57), .lit (.int .u8 49), .lit (.int .u8 28), .lit (.int .u8 3), .lit (.int .u8 61), .lit (.int .u8 58), .lit (.int .u8 42), .lit (.int .u8 50), .lit (.int .u8 38), .lit (.int .u8 29), .lit (.int .u8 17), .lit (.int .u8 4), .lit (.int .u8 62), .lit (.int .u8 47), .lit (.int .u8 59), .lit (.int .u8 36), .lit (.int .u8 45), .lit (.int .u8 43), .lit (.int .u8 51), .lit (.int .u8 22), .lit (.int .u8 53), .lit (.int .u8 39), .lit (.int .u8 33), .lit (.int .u8 30), .lit (.int .u8 24), .lit (.int .u8 18), .lit (.int .u8 12), .lit (.int .u8 5), .lit (.int .u8 63), .lit (.int .u8 55), .lit (.int .u8 48), .lit (.int .u8 27), .lit (.int .u8 60), .lit (.int .u8 41), .lit (.int .u8 37), .lit (.int .u8 16), .lit (.int .u8 46), .lit (.int .u8 35), .lit (.int .u8 44), .lit (.int .u8 21), .lit (.int .u8 52), .lit (.int .u8 32), .lit (.int .u8 23), .lit (.int .u8 11), .lit (.int .u8 54), .lit (.int .u8 26), .lit (.int .u8 40), .lit (.int .u8 15), .lit (.int .u8 34), .lit (.int .u8 20), .lit (.int .u8 31), .lit (.int .u8 10), .lit (.int .u8 25), .lit (.int .u8 14), .lit (.int .u8 19), .lit (.int .u8 9), .lit (.int .u8 13), .lit (.int .u8 8), .lit (.int .u8 7), .lit (.int .u8 6)]
def laid_internal_strconv_uint64pow10 {H : Type} : DataW H := .agg [.lit (.int .u64 1), .lit (.int .u64 10), .lit (.int .u64 100), .lit (.int .u64 1000), .lit (.int .u64 10000), .lit (.int .u64 100000), .lit (.int .u64 1000000), .lit (.int .u64 10000000), .lit (.int .u64 100000000), .lit (.int .u64 1000000000), .lit (.int .u64 10000000000), .lit (.int .u64 100000000000), .lit (.int .u64 1000000000000), .lit (.int .u64 10000000000000), .lit (.int .u64 100000000000000), .lit (.int .u64 1000000000000000), .lit (.int .u64 10000000000000000), .lit (.int .u64 100000000000000000), .lit (.int .u64 1000000000000000000), .lit (.int .u64 10000000000000000000)]
def laid_unicode_utf8_acceptRanges {H : Type} : DataW H := .agg [.agg [.lit (.int .u8 128), .lit (.int .u8 191)], .agg [.lit (.int .u8 160), .lit (.int .u8 191)], .agg [.lit (.int .u8 128), .lit (.int .u8 159)], .agg [.lit (.int .u8 144), .lit (.int .u8 191)], .agg [.lit (.int .u8 128), .lit (.int .u8 143)], .agg [.lit (.int .u8 0), .lit (.int .u8 0)], .agg [.lit (.int .u8 0), .lit (.int .u8 0)], .agg [.lit (.int .u8 0), .lit (.int .u8 0)], .agg [.lit (.int .u8 0), .lit (.int .u8 0)], .agg [.lit (.int .u8 0), .lit (.int .u8 0)], .agg [.lit (.int .u8 0), .lit (.int .u8 0)], .agg [.lit (.int .u8 0), .lit (.int .u8 0)], .agg [.lit (.int .u8 0), .lit (.int .u8 0)], .agg [.lit (.int .u8 0), .lit (.int .u8 0)], .agg [.lit (.int .u8 0), .lit (.int .u8 0)], .agg [.lit (.int .u8 0), .lit (.int .u8 0)]]
def laid_strconv_ErrRange {H : Type} : DataW H := .iface "*errors.errorString" (.ptr (.agg [.lit (.string [118, 97, 108, 117, 101, 32, 111, 117, 116, 32, 111, 102, 32, 114, 97, 110, 103, 101])]))
def laid_strconv_ErrSyntax {H : Type} : DataW H := .iface "*errors.errorString" (.ptr (.agg [.lit (.string [105, 110, 118, 97, 108, 105, 100, 32, 115, 121, 110, 116, 97, 120])]))
def laid_relyguard_lexer_symbols {H : Type} : DataW H := .agg [.lit (.string [61, 61, 62]), .lit (.string [61, 61]), .lit (.string [61]), .lit (.string [58, 61]), .lit (.string [58]), .lit (.string [33, 61]), .lit (.string [33]), .lit (.string [60, 61]), .lit (.string [60]), .lit (.string [38, 38]), .lit (.string [38]), .lit (.string [124, 124]), .lit (.string [124]), .lit (.string [123]), .lit (.string [125]), .lit (.string [40]), .lit (.string [41]), .lit (.string [91]), .lit (.string [93]), .lit (.string [59]), .lit (.string [44]), .lit (.string [46]), .lit (.string [63]), .lit (.string [94]), .lit (.string [43]), .lit (.string [45]), .lit (.string [42])]
/-- One of Go's own tables, pinned by name: the form's constant. -/
def laid_unicode_utf8_first : DataW Unit := Go.Pinned.utf8First

/-- 'relyguardlaw02.ParserWellFormed': WHATEVER THE INPUT: true; the input reads as it did. -/
def parserWellFormedSpec : ChangeSpec := { name := "parserWellFormed", fn := fun _ => fun
  | [d1, d2] => { results := [.lit (.bool true)], args := [d1, d2] }
  | _ => none }
def parserWellFormedRow : OpenClaim := { program := "ytbgpboiblggmiaagreatdoor", sum := "0b44008b45c414fa1b71b9be9c335b9fa82c4347f72bfbe1d4953bf5b75afbf1", func := "relyguard/relyguardlaw02.ParserWellFormed", spec := "parserWellFormed", inPlace := ["internal/bytealg.CountString", "internal/bytealg.IndexByteString", "internal/bytealg.IndexString"], unfollowed := true, recurses := true, named := ["relyguard/lexer.symbols", "strconv.ErrSyntax", "strconv.ErrRange", "internal/strconv.uint64pow10", "math/bits.deBruijn32tab", "math/bits.deBruijn64tab", "internal/bytealg.MaxLen", "unicode/utf8.first", "unicode/utf8.acceptRanges"], apart := false, laid := [("math/bits.deBruijn32tab", laid_math_bits_deBruijn32tab), ("math/bits.deBruijn64tab", laid_math_bits_deBruijn64tab), ("internal/strconv.uint64pow10", laid_internal_strconv_uint64pow10), ("unicode/utf8.acceptRanges", laid_unicode_utf8_acceptRanges), ("strconv.ErrRange", laid_strconv_ErrRange), ("strconv.ErrSyntax", laid_strconv_ErrSyntax), ("relyguard/lexer.symbols", laid_relyguard_lexer_symbols), ("unicode/utf8.first", laid_unicode_utf8_first)] }
def ParserWellFormedSaid : Prop := parserWellFormedRow.holds Tryz.pinned (OpenSpec.ofChange parserWellFormedSpec)

/-- ITS FALSE NEIGHBOUR: 'it returns false'. Refute it at one input. -/
def parserWellFormedWrong : ChangeSpec := { name := "parserWellFormed", fn := fun _ => fun
  | [d1, d2] => { results := [.lit (.bool false)], args := [d1, d2] }
  | _ => none }
def ParserWellFormedWrongFalsely : Prop := parserWellFormedRow.holds Tryz.pinned (OpenSpec.ofChange parserWellFormedWrong)

/-- 'relyguardlaw02.ParserParens': WHATEVER THE INPUT: true; the input reads as it did. -/
def parserParensSpec : ChangeSpec := { name := "parserParens", fn := fun _ => fun
  | [d] => { results := [.lit (.bool true)], args := [d] }
  | _ => none }
def parserParensRow : OpenClaim := { program := "ytbgpboiblggmiaagreatdoor", sum := "0b44008b45c414fa1b71b9be9c335b9fa82c4347f72bfbe1d4953bf5b75afbf1", func := "relyguard/relyguardlaw02.ParserParens", spec := "parserParens", inPlace := ["internal/bytealg.CountString", "internal/bytealg.IndexByteString", "internal/bytealg.IndexString"], unfollowed := true, recurses := true, named := ["relyguard/lexer.symbols", "strconv.ErrSyntax", "strconv.ErrRange", "internal/strconv.uint64pow10", "math/bits.deBruijn32tab", "math/bits.deBruijn64tab", "internal/bytealg.MaxLen", "unicode/utf8.first", "unicode/utf8.acceptRanges"], loops := true, apart := false, laid := [("math/bits.deBruijn32tab", laid_math_bits_deBruijn32tab), ("math/bits.deBruijn64tab", laid_math_bits_deBruijn64tab), ("internal/strconv.uint64pow10", laid_internal_strconv_uint64pow10), ("unicode/utf8.acceptRanges", laid_unicode_utf8_acceptRanges), ("strconv.ErrRange", laid_strconv_ErrRange), ("strconv.ErrSyntax", laid_strconv_ErrSyntax), ("relyguard/lexer.symbols", laid_relyguard_lexer_symbols), ("unicode/utf8.first", laid_unicode_utf8_first)] }
def ParserParensSaid : Prop := parserParensRow.holds Tryz.pinned (OpenSpec.ofChange parserParensSpec)

/-- ITS FALSE NEIGHBOUR: 'it returns false'. Refute it at one input. -/
def parserParensWrong : ChangeSpec := { name := "parserParens", fn := fun _ => fun
  | [d] => { results := [.lit (.bool false)], args := [d] }
  | _ => none }
def ParserParensWrongFalsely : Prop := parserParensRow.holds Tryz.pinned (OpenSpec.ofChange parserParensWrong)

/-- 'relyguardlaw02.ParserLevels': WHATEVER THE INPUT: true; the input reads as it did. -/
def parserLevelsSpec : ChangeSpec := { name := "parserLevels", fn := fun _ => fun
  | [d1, d2, d3] => { results := [.lit (.bool true)], args := [d1, d2, d3] }
  | _ => none }
def parserLevelsRow : OpenClaim := { program := "ytbgpboiblggmiaagreatdoor", sum := "0b44008b45c414fa1b71b9be9c335b9fa82c4347f72bfbe1d4953bf5b75afbf1", func := "relyguard/relyguardlaw02.ParserLevels", spec := "parserLevels", inPlace := ["internal/bytealg.CountString", "internal/bytealg.IndexByteString", "internal/bytealg.IndexString"], unfollowed := true, recurses := true, named := ["relyguard/lexer.symbols", "strconv.ErrSyntax", "strconv.ErrRange", "internal/strconv.uint64pow10", "math/bits.deBruijn32tab", "math/bits.deBruijn64tab", "internal/bytealg.MaxLen", "unicode/utf8.first", "unicode/utf8.acceptRanges"], apart := false, laid := [("math/bits.deBruijn32tab", laid_math_bits_deBruijn32tab), ("math/bits.deBruijn64tab", laid_math_bits_deBruijn64tab), ("internal/strconv.uint64pow10", laid_internal_strconv_uint64pow10), ("unicode/utf8.acceptRanges", laid_unicode_utf8_acceptRanges), ("strconv.ErrRange", laid_strconv_ErrRange), ("strconv.ErrSyntax", laid_strconv_ErrSyntax), ("relyguard/lexer.symbols", laid_relyguard_lexer_symbols), ("unicode/utf8.first", laid_unicode_utf8_first)] }
def ParserLevelsSaid : Prop := parserLevelsRow.holds Tryz.pinned (OpenSpec.ofChange parserLevelsSpec)

/-- ITS FALSE NEIGHBOUR: 'it returns false'. Refute it at one input. -/
def parserLevelsWrong : ChangeSpec := { name := "parserLevels", fn := fun _ => fun
  | [d1, d2, d3] => { results := [.lit (.bool false)], args := [d1, d2, d3] }
  | _ => none }
def ParserLevelsWrongFalsely : Prop := parserLevelsRow.holds Tryz.pinned (OpenSpec.ofChange parserLevelsWrong)

/-- 'relyguardlaw02.ParserLayout': WHATEVER THE INPUT: true; the input reads as it did. -/
def parserLayoutSpec : ChangeSpec := { name := "parserLayout", fn := fun _ => fun
  | [d1, d2] => { results := [.lit (.bool true)], args := [d1, d2] }
  | _ => none }
def parserLayoutRow : OpenClaim := { program := "ytbgpboiblggmiaagreatdoor", sum := "0b44008b45c414fa1b71b9be9c335b9fa82c4347f72bfbe1d4953bf5b75afbf1", func := "relyguard/relyguardlaw02.ParserLayout", spec := "parserLayout", inPlace := ["internal/bytealg.CountString", "internal/bytealg.IndexByteString", "internal/bytealg.IndexString"], unfollowed := true, recurses := true, named := ["relyguard/lexer.symbols", "strconv.ErrSyntax", "strconv.ErrRange", "internal/strconv.uint64pow10", "math/bits.deBruijn32tab", "math/bits.deBruijn64tab", "internal/bytealg.MaxLen", "unicode/utf8.first", "unicode/utf8.acceptRanges"], apart := false, laid := [("math/bits.deBruijn32tab", laid_math_bits_deBruijn32tab), ("math/bits.deBruijn64tab", laid_math_bits_deBruijn64tab), ("internal/strconv.uint64pow10", laid_internal_strconv_uint64pow10), ("unicode/utf8.acceptRanges", laid_unicode_utf8_acceptRanges), ("strconv.ErrRange", laid_strconv_ErrRange), ("strconv.ErrSyntax", laid_strconv_ErrSyntax), ("relyguard/lexer.symbols", laid_relyguard_lexer_symbols), ("unicode/utf8.first", laid_unicode_utf8_first)] }
def ParserLayoutSaid : Prop := parserLayoutRow.holds Tryz.pinned (OpenSpec.ofChange parserLayoutSpec)

/-- ITS FALSE NEIGHBOUR: 'it returns false'. Refute it at one input. -/
def parserLayoutWrong : ChangeSpec := { name := "parserLayout", fn := fun _ => fun
  | [d1, d2] => { results := [.lit (.bool false)], args := [d1, d2] }
  | _ => none }
def ParserLayoutWrongFalsely : Prop := parserLayoutRow.holds Tryz.pinned (OpenSpec.ofChange parserLayoutWrong)

/-- 'relyguardlaw02.ParserConcat': WHATEVER THE INPUT: true; the input reads as it did. -/
def parserConcatSpec : ChangeSpec := { name := "parserConcat", fn := fun _ => fun
  | [d1, d2] => { results := [.lit (.bool true)], args := [d1, d2] }
  | _ => none }
def parserConcatRow : OpenClaim := { program := "ytbgpboiblggmiaagreatdoor", sum := "0b44008b45c414fa1b71b9be9c335b9fa82c4347f72bfbe1d4953bf5b75afbf1", func := "relyguard/relyguardlaw02.ParserConcat", spec := "parserConcat", inPlace := ["internal/bytealg.CountString", "internal/bytealg.IndexByteString", "internal/bytealg.IndexString"], unfollowed := true, recurses := true, named := ["relyguard/lexer.symbols", "strconv.ErrSyntax", "strconv.ErrRange", "internal/strconv.uint64pow10", "math/bits.deBruijn32tab", "math/bits.deBruijn64tab", "internal/bytealg.MaxLen", "unicode/utf8.first", "unicode/utf8.acceptRanges"], apart := false, laid := [("math/bits.deBruijn32tab", laid_math_bits_deBruijn32tab), ("math/bits.deBruijn64tab", laid_math_bits_deBruijn64tab), ("internal/strconv.uint64pow10", laid_internal_strconv_uint64pow10), ("unicode/utf8.acceptRanges", laid_unicode_utf8_acceptRanges), ("strconv.ErrRange", laid_strconv_ErrRange), ("strconv.ErrSyntax", laid_strconv_ErrSyntax), ("relyguard/lexer.symbols", laid_relyguard_lexer_symbols), ("unicode/utf8.first", laid_unicode_utf8_first)] }
def ParserConcatSaid : Prop := parserConcatRow.holds Tryz.pinned (OpenSpec.ofChange parserConcatSpec)

/-- ITS FALSE NEIGHBOUR: 'it returns false'. Refute it at one input. -/
def parserConcatWrong : ChangeSpec := { name := "parserConcat", fn := fun _ => fun
  | [d1, d2] => { results := [.lit (.bool false)], args := [d1, d2] }
  | _ => none }
def ParserConcatWrongFalsely : Prop := parserConcatRow.holds Tryz.pinned (OpenSpec.ofChange parserConcatWrong)

/-- 'relyguardlaw02.ParserRecovery': WHATEVER THE INPUT: true; the input reads as it did. -/
def parserRecoverySpec : ChangeSpec := { name := "parserRecovery", fn := fun _ => fun
  | [d1, d2] => { results := [.lit (.bool true)], args := [d1, d2] }
  | _ => none }
def parserRecoveryRow : OpenClaim := { program := "ytbgpboiblggmiaagreatdoor", sum := "0b44008b45c414fa1b71b9be9c335b9fa82c4347f72bfbe1d4953bf5b75afbf1", func := "relyguard/relyguardlaw02.ParserRecovery", spec := "parserRecovery", inPlace := ["internal/bytealg.CountString", "internal/bytealg.IndexByteString", "internal/bytealg.IndexString"], unfollowed := true, recurses := true, named := ["relyguard/lexer.symbols", "strconv.ErrSyntax", "strconv.ErrRange", "internal/strconv.uint64pow10", "math/bits.deBruijn32tab", "math/bits.deBruijn64tab", "internal/bytealg.MaxLen", "unicode/utf8.first", "unicode/utf8.acceptRanges"], apart := false, laid := [("math/bits.deBruijn32tab", laid_math_bits_deBruijn32tab), ("math/bits.deBruijn64tab", laid_math_bits_deBruijn64tab), ("internal/strconv.uint64pow10", laid_internal_strconv_uint64pow10), ("unicode/utf8.acceptRanges", laid_unicode_utf8_acceptRanges), ("strconv.ErrRange", laid_strconv_ErrRange), ("strconv.ErrSyntax", laid_strconv_ErrSyntax), ("relyguard/lexer.symbols", laid_relyguard_lexer_symbols), ("unicode/utf8.first", laid_unicode_utf8_first)] }
def ParserRecoverySaid : Prop := parserRecoveryRow.holds Tryz.pinned (OpenSpec.ofChange parserRecoverySpec)

/-- ITS FALSE NEIGHBOUR: 'it returns false'. Refute it at one input. -/
def parserRecoveryWrong : ChangeSpec := { name := "parserRecovery", fn := fun _ => fun
  | [d1, d2] => { results := [.lit (.bool false)], args := [d1, d2] }
  | _ => none }
def ParserRecoveryWrongFalsely : Prop := parserRecoveryRow.holds Tryz.pinned (OpenSpec.ofChange parserRecoveryWrong)

/-- 'relyguardlaw02.ParserTruncated': WHATEVER THE INPUT: true; the input reads as it did. -/
def parserTruncatedSpec : ChangeSpec := { name := "parserTruncated", fn := fun _ => fun
  | [d1, d2] => { results := [.lit (.bool true)], args := [d1, d2] }
  | _ => none }
def parserTruncatedRow : OpenClaim := { program := "ytbgpboiblggmiaagreatdoor", sum := "0b44008b45c414fa1b71b9be9c335b9fa82c4347f72bfbe1d4953bf5b75afbf1", func := "relyguard/relyguardlaw02.ParserTruncated", spec := "parserTruncated", inPlace := ["internal/bytealg.CountString", "internal/bytealg.IndexByteString", "internal/bytealg.IndexString"], unfollowed := true, recurses := true, named := ["relyguard/lexer.symbols", "strconv.ErrSyntax", "strconv.ErrRange", "internal/strconv.uint64pow10", "math/bits.deBruijn32tab", "math/bits.deBruijn64tab", "internal/bytealg.MaxLen", "unicode/utf8.first", "unicode/utf8.acceptRanges"], apart := false, laid := [("math/bits.deBruijn32tab", laid_math_bits_deBruijn32tab), ("math/bits.deBruijn64tab", laid_math_bits_deBruijn64tab), ("internal/strconv.uint64pow10", laid_internal_strconv_uint64pow10), ("unicode/utf8.acceptRanges", laid_unicode_utf8_acceptRanges), ("strconv.ErrRange", laid_strconv_ErrRange), ("strconv.ErrSyntax", laid_strconv_ErrSyntax), ("relyguard/lexer.symbols", laid_relyguard_lexer_symbols), ("unicode/utf8.first", laid_unicode_utf8_first)] }
def ParserTruncatedSaid : Prop := parserTruncatedRow.holds Tryz.pinned (OpenSpec.ofChange parserTruncatedSpec)

/-- ITS FALSE NEIGHBOUR: 'it returns false'. Refute it at one input. -/
def parserTruncatedWrong : ChangeSpec := { name := "parserTruncated", fn := fun _ => fun
  | [d1, d2] => { results := [.lit (.bool false)], args := [d1, d2] }
  | _ => none }
def ParserTruncatedWrongFalsely : Prop := parserTruncatedRow.holds Tryz.pinned (OpenSpec.ofChange parserTruncatedWrong)

/-- 'relyguardlaw02.ParserLocality': WHATEVER THE INPUT: true; the input reads as it did. -/
def parserLocalitySpec : ChangeSpec := { name := "parserLocality", fn := fun _ => fun
  | [d] => { results := [.lit (.bool true)], args := [d] }
  | _ => none }
def parserLocalityRow : OpenClaim := { program := "ytbgpboiblggmiaagreatdoor", sum := "0b44008b45c414fa1b71b9be9c335b9fa82c4347f72bfbe1d4953bf5b75afbf1", func := "relyguard/relyguardlaw02.ParserLocality", spec := "parserLocality", inPlace := ["internal/bytealg.CountString", "internal/bytealg.IndexByteString", "internal/bytealg.IndexString"], unfollowed := true, recurses := true, named := ["relyguard/lexer.symbols", "strconv.ErrSyntax", "strconv.ErrRange", "internal/strconv.uint64pow10", "math/bits.deBruijn32tab", "math/bits.deBruijn64tab", "internal/bytealg.MaxLen", "unicode/utf8.first", "unicode/utf8.acceptRanges"], apart := false, laid := [("math/bits.deBruijn32tab", laid_math_bits_deBruijn32tab), ("math/bits.deBruijn64tab", laid_math_bits_deBruijn64tab), ("internal/strconv.uint64pow10", laid_internal_strconv_uint64pow10), ("unicode/utf8.acceptRanges", laid_unicode_utf8_acceptRanges), ("strconv.ErrRange", laid_strconv_ErrRange), ("strconv.ErrSyntax", laid_strconv_ErrSyntax), ("relyguard/lexer.symbols", laid_relyguard_lexer_symbols), ("unicode/utf8.first", laid_unicode_utf8_first)] }
def ParserLocalitySaid : Prop := parserLocalityRow.holds Tryz.pinned (OpenSpec.ofChange parserLocalitySpec)

/-- ITS FALSE NEIGHBOUR: 'it returns false'. Refute it at one input. -/
def parserLocalityWrong : ChangeSpec := { name := "parserLocality", fn := fun _ => fun
  | [d] => { results := [.lit (.bool false)], args := [d] }
  | _ => none }
def ParserLocalityWrongFalsely : Prop := parserLocalityRow.holds Tryz.pinned (OpenSpec.ofChange parserLocalityWrong)

/- THE SECOND FORM. 'bulk': how many values and letters a reading holds, each counted each time it is reached (what is shared counts as often as it is met; a slice's spare places count too). A statement '..UptoSaid' is the law's where the arguments, and the package variables that the reading takes, are together of bulk at most 1048576: NARROWER than '..Said'. Prove '..Said' where nothing that the law and all that it calls make is longer than what came in: it says more and counts as full. Else prove '..UptoSaid'. A law counts once. -/
mutual
def uptoBulk {H : Type} : DataW H → Nat
  | .lit (.string bytes) => bytes.length + 1
  | .lit _ => 1
  | .nil => 1
  | .ptr d => uptoBulk d + 1
  | .slice elems spare => uptoBulkAll elems + uptoBulkAll spare + 1
  | .agg parts => uptoBulkAll parts + 1
  | .iface _ d => uptoBulk d + 1
  | .map entries => uptoBulkEntries entries + 1
  | .held _ => 1
def uptoBulkAll {H : Type} : List (DataW H) → Nat
  | [] => 0
  | d :: r => uptoBulk d + uptoBulkAll r
def uptoBulkEntries {H : Type} : List (Lit × DataW H) → Nat
  | [] => 0
  | x :: r => uptoBulkEntry x + uptoBulkEntries r
def uptoBulkEntry {H : Type} : Lit × DataW H → Nat
  | (.string bytes, d) => bytes.length + uptoBulk d + 1
  | (_, d) => uptoBulk d + 1
 end
def uptoSmall : (H : Type) → List (DataW H) → Bool := fun _ ds => decide (uptoBulkAll ds ≤ 1048576)
def OpenSpec.upto (s : _root_.Go.ChangeSpec) : _root_.Go.OpenSpec := { _root_.Go.OpenSpec.ofChange s with cond := some uptoSmall }

/-- 'relyguardlaw02.ParserWellFormed', WHERE WHAT IT READS IS OF BULK AT MOST 1048576: true; the input reads as it did. -/
def parserWellFormedUptoRow : OpenClaim := { program := "ytbgpboiblggmiaagreatdoor", sum := "0b44008b45c414fa1b71b9be9c335b9fa82c4347f72bfbe1d4953bf5b75afbf1", func := "relyguard/relyguardlaw02.ParserWellFormed", spec := "parserWellFormed", inPlace := ["internal/bytealg.CountString", "internal/bytealg.IndexByteString", "internal/bytealg.IndexString"], unfollowed := true, recurses := true, named := ["relyguard/lexer.symbols", "strconv.ErrSyntax", "strconv.ErrRange", "internal/strconv.uint64pow10", "math/bits.deBruijn32tab", "math/bits.deBruijn64tab", "internal/bytealg.MaxLen", "unicode/utf8.first", "unicode/utf8.acceptRanges"], apart := false, laid := [("math/bits.deBruijn32tab", laid_math_bits_deBruijn32tab), ("math/bits.deBruijn64tab", laid_math_bits_deBruijn64tab), ("internal/strconv.uint64pow10", laid_internal_strconv_uint64pow10), ("unicode/utf8.acceptRanges", laid_unicode_utf8_acceptRanges), ("strconv.ErrRange", laid_strconv_ErrRange), ("strconv.ErrSyntax", laid_strconv_ErrSyntax), ("relyguard/lexer.symbols", laid_relyguard_lexer_symbols), ("unicode/utf8.first", laid_unicode_utf8_first)], narrowed := true }
def ParserWellFormedUptoSaid : Prop := parserWellFormedUptoRow.holds Tryz.pinned (OpenSpec.upto parserWellFormedSpec)

/-- 'relyguardlaw02.ParserParens', WHERE WHAT IT READS IS OF BULK AT MOST 1048576: true; the input reads as it did. -/
def parserParensUptoRow : OpenClaim := { program := "ytbgpboiblggmiaagreatdoor", sum := "0b44008b45c414fa1b71b9be9c335b9fa82c4347f72bfbe1d4953bf5b75afbf1", func := "relyguard/relyguardlaw02.ParserParens", spec := "parserParens", inPlace := ["internal/bytealg.CountString", "internal/bytealg.IndexByteString", "internal/bytealg.IndexString"], unfollowed := true, recurses := true, named := ["relyguard/lexer.symbols", "strconv.ErrSyntax", "strconv.ErrRange", "internal/strconv.uint64pow10", "math/bits.deBruijn32tab", "math/bits.deBruijn64tab", "internal/bytealg.MaxLen", "unicode/utf8.first", "unicode/utf8.acceptRanges"], loops := true, apart := false, laid := [("math/bits.deBruijn32tab", laid_math_bits_deBruijn32tab), ("math/bits.deBruijn64tab", laid_math_bits_deBruijn64tab), ("internal/strconv.uint64pow10", laid_internal_strconv_uint64pow10), ("unicode/utf8.acceptRanges", laid_unicode_utf8_acceptRanges), ("strconv.ErrRange", laid_strconv_ErrRange), ("strconv.ErrSyntax", laid_strconv_ErrSyntax), ("relyguard/lexer.symbols", laid_relyguard_lexer_symbols), ("unicode/utf8.first", laid_unicode_utf8_first)], narrowed := true }
def ParserParensUptoSaid : Prop := parserParensUptoRow.holds Tryz.pinned (OpenSpec.upto parserParensSpec)

/-- 'relyguardlaw02.ParserLevels', WHERE WHAT IT READS IS OF BULK AT MOST 1048576: true; the input reads as it did. -/
def parserLevelsUptoRow : OpenClaim := { program := "ytbgpboiblggmiaagreatdoor", sum := "0b44008b45c414fa1b71b9be9c335b9fa82c4347f72bfbe1d4953bf5b75afbf1", func := "relyguard/relyguardlaw02.ParserLevels", spec := "parserLevels", inPlace := ["internal/bytealg.CountString", "internal/bytealg.IndexByteString", "internal/bytealg.IndexString"], unfollowed := true, recurses := true, named := ["relyguard/lexer.symbols", "strconv.ErrSyntax", "strconv.ErrRange", "internal/strconv.uint64pow10", "math/bits.deBruijn32tab", "math/bits.deBruijn64tab", "internal/bytealg.MaxLen", "unicode/utf8.first", "unicode/utf8.acceptRanges"], apart := false, laid := [("math/bits.deBruijn32tab", laid_math_bits_deBruijn32tab), ("math/bits.deBruijn64tab", laid_math_bits_deBruijn64tab), ("internal/strconv.uint64pow10", laid_internal_strconv_uint64pow10), ("unicode/utf8.acceptRanges", laid_unicode_utf8_acceptRanges), ("strconv.ErrRange", laid_strconv_ErrRange), ("strconv.ErrSyntax", laid_strconv_ErrSyntax), ("relyguard/lexer.symbols", laid_relyguard_lexer_symbols), ("unicode/utf8.first", laid_unicode_utf8_first)], narrowed := true }
def ParserLevelsUptoSaid : Prop := parserLevelsUptoRow.holds Tryz.pinned (OpenSpec.upto parserLevelsSpec)

/-- 'relyguardlaw02.ParserLayout', WHERE WHAT IT READS IS OF BULK AT MOST 1048576: true; the input reads as it did. -/
def parserLayoutUptoRow : OpenClaim := { program := "ytbgpboiblggmiaagreatdoor", sum := "0b44008b45c414fa1b71b9be9c335b9fa82c4347f72bfbe1d4953bf5b75afbf1", func := "relyguard/relyguardlaw02.ParserLayout", spec := "parserLayout", inPlace := ["internal/bytealg.CountString", "internal/bytealg.IndexByteString", "internal/bytealg.IndexString"], unfollowed := true, recurses := true, named := ["relyguard/lexer.symbols", "strconv.ErrSyntax", "strconv.ErrRange", "internal/strconv.uint64pow10", "math/bits.deBruijn32tab", "math/bits.deBruijn64tab", "internal/bytealg.MaxLen", "unicode/utf8.first", "unicode/utf8.acceptRanges"], apart := false, laid := [("math/bits.deBruijn32tab", laid_math_bits_deBruijn32tab), ("math/bits.deBruijn64tab", laid_math_bits_deBruijn64tab), ("internal/strconv.uint64pow10", laid_internal_strconv_uint64pow10), ("unicode/utf8.acceptRanges", laid_unicode_utf8_acceptRanges), ("strconv.ErrRange", laid_strconv_ErrRange), ("strconv.ErrSyntax", laid_strconv_ErrSyntax), ("relyguard/lexer.symbols", laid_relyguard_lexer_symbols), ("unicode/utf8.first", laid_unicode_utf8_first)], narrowed := true }
def ParserLayoutUptoSaid : Prop := parserLayoutUptoRow.holds Tryz.pinned (OpenSpec.upto parserLayoutSpec)

/-- 'relyguardlaw02.ParserConcat', WHERE WHAT IT READS IS OF BULK AT MOST 1048576: true; the input reads as it did. -/
def parserConcatUptoRow : OpenClaim := { program := "ytbgpboiblggmiaagreatdoor", sum := "0b44008b45c414fa1b71b9be9c335b9fa82c4347f72bfbe1d4953bf5b75afbf1", func := "relyguard/relyguardlaw02.ParserConcat", spec := "parserConcat", inPlace := ["internal/bytealg.CountString", "internal/bytealg.IndexByteString", "internal/bytealg.IndexString"], unfollowed := true, recurses := true, named := ["relyguard/lexer.symbols", "strconv.ErrSyntax", "strconv.ErrRange", "internal/strconv.uint64pow10", "math/bits.deBruijn32tab", "math/bits.deBruijn64tab", "internal/bytealg.MaxLen", "unicode/utf8.first", "unicode/utf8.acceptRanges"], apart := false, laid := [("math/bits.deBruijn32tab", laid_math_bits_deBruijn32tab), ("math/bits.deBruijn64tab", laid_math_bits_deBruijn64tab), ("internal/strconv.uint64pow10", laid_internal_strconv_uint64pow10), ("unicode/utf8.acceptRanges", laid_unicode_utf8_acceptRanges), ("strconv.ErrRange", laid_strconv_ErrRange), ("strconv.ErrSyntax", laid_strconv_ErrSyntax), ("relyguard/lexer.symbols", laid_relyguard_lexer_symbols), ("unicode/utf8.first", laid_unicode_utf8_first)], narrowed := true }
def ParserConcatUptoSaid : Prop := parserConcatUptoRow.holds Tryz.pinned (OpenSpec.upto parserConcatSpec)

/-- 'relyguardlaw02.ParserRecovery', WHERE WHAT IT READS IS OF BULK AT MOST 1048576: true; the input reads as it did. -/
def parserRecoveryUptoRow : OpenClaim := { program := "ytbgpboiblggmiaagreatdoor", sum := "0b44008b45c414fa1b71b9be9c335b9fa82c4347f72bfbe1d4953bf5b75afbf1", func := "relyguard/relyguardlaw02.ParserRecovery", spec := "parserRecovery", inPlace := ["internal/bytealg.CountString", "internal/bytealg.IndexByteString", "internal/bytealg.IndexString"], unfollowed := true, recurses := true, named := ["relyguard/lexer.symbols", "strconv.ErrSyntax", "strconv.ErrRange", "internal/strconv.uint64pow10", "math/bits.deBruijn32tab", "math/bits.deBruijn64tab", "internal/bytealg.MaxLen", "unicode/utf8.first", "unicode/utf8.acceptRanges"], apart := false, laid := [("math/bits.deBruijn32tab", laid_math_bits_deBruijn32tab), ("math/bits.deBruijn64tab", laid_math_bits_deBruijn64tab), ("internal/strconv.uint64pow10", laid_internal_strconv_uint64pow10), ("unicode/utf8.acceptRanges", laid_unicode_utf8_acceptRanges), ("strconv.ErrRange", laid_strconv_ErrRange), ("strconv.ErrSyntax", laid_strconv_ErrSyntax), ("relyguard/lexer.symbols", laid_relyguard_lexer_symbols), ("unicode/utf8.first", laid_unicode_utf8_first)], narrowed := true }
def ParserRecoveryUptoSaid : Prop := parserRecoveryUptoRow.holds Tryz.pinned (OpenSpec.upto parserRecoverySpec)

/-- 'relyguardlaw02.ParserTruncated', WHERE WHAT IT READS IS OF BULK AT MOST 1048576: true; the input reads as it did. -/
def parserTruncatedUptoRow : OpenClaim := { program := "ytbgpboiblggmiaagreatdoor", sum := "0b44008b45c414fa1b71b9be9c335b9fa82c4347f72bfbe1d4953bf5b75afbf1", func := "relyguard/relyguardlaw02.ParserTruncated", spec := "parserTruncated", inPlace := ["internal/bytealg.CountString", "internal/bytealg.IndexByteString", "internal/bytealg.IndexString"], unfollowed := true, recurses := true, named := ["relyguard/lexer.symbols", "strconv.ErrSyntax", "strconv.ErrRange", "internal/strconv.uint64pow10", "math/bits.deBruijn32tab", "math/bits.deBruijn64tab", "internal/bytealg.MaxLen", "unicode/utf8.first", "unicode/utf8.acceptRanges"], apart := false, laid := [("math/bits.deBruijn32tab", laid_math_bits_deBruijn32tab), ("math/bits.deBruijn64tab", laid_math_bits_deBruijn64tab), ("internal/strconv.uint64pow10", laid_internal_strconv_uint64pow10), ("unicode/utf8.acceptRanges", laid_unicode_utf8_acceptRanges), ("strconv.ErrRange", laid_strconv_ErrRange), ("strconv.ErrSyntax", laid_strconv_ErrSyntax), ("relyguard/lexer.symbols", laid_relyguard_lexer_symbols), ("unicode/utf8.first", laid_unicode_utf8_first)], narrowed := true }
def ParserTruncatedUptoSaid : Prop := parserTruncatedUptoRow.holds Tryz.pinned (OpenSpec.upto parserTruncatedSpec)

/-- 'relyguardlaw02.ParserLocality', WHERE WHAT IT READS IS OF BULK AT MOST 1048576: true; the input reads as it did. -/
def parserLocalityUptoRow : OpenClaim := { program := "ytbgpboiblggmiaagreatdoor", sum := "0b44008b45c414fa1b71b9be9c335b9fa82c4347f72bfbe1d4953bf5b75afbf1", func := "relyguard/relyguardlaw02.ParserLocality", spec := "parserLocality", inPlace := ["internal/bytealg.CountString", "internal/bytealg.IndexByteString", "internal/bytealg.IndexString"], unfollowed := true, recurses := true, named := ["relyguard/lexer.symbols", "strconv.ErrSyntax", "strconv.ErrRange", "internal/strconv.uint64pow10", "math/bits.deBruijn32tab", "math/bits.deBruijn64tab", "internal/bytealg.MaxLen", "unicode/utf8.first", "unicode/utf8.acceptRanges"], apart := false, laid := [("math/bits.deBruijn32tab", laid_math_bits_deBruijn32tab), ("math/bits.deBruijn64tab", laid_math_bits_deBruijn64tab), ("internal/strconv.uint64pow10", laid_internal_strconv_uint64pow10), ("unicode/utf8.acceptRanges", laid_unicode_utf8_acceptRanges), ("strconv.ErrRange", laid_strconv_ErrRange), ("strconv.ErrSyntax", laid_strconv_ErrSyntax), ("relyguard/lexer.symbols", laid_relyguard_lexer_symbols), ("unicode/utf8.first", laid_unicode_utf8_first)], narrowed := true }
def ParserLocalityUptoSaid : Prop := parserLocalityUptoRow.holds Tryz.pinned (OpenSpec.upto parserLocalitySpec)

end Rows
end Go.Proofs.YtbgpboiblggmiaaGreatDoor
