/-
  NARROWER THAN 'FOR EVERY INPUT', by the rows' own cells (each row's printed sentence says how): ReadSound: loops, laid · ReadSame: loops, laid · ReadGives: laid · ReadDeep: laid · ReadShorts: loops, laid · ReadDots: loops, laid · PrintBack: loops, laid.
  DERIVED. THE GIVEN ROWS OF THIS SEAT. 7 by the template 'for every input the law returns true; each argument reads behind the call as it read before'; 0 by the template 'total and deterministic' (their statements: YtpahfhjgcflifaaGreatDoorTotals.lean).
  GIVEN WITH THE SEED: the statements are not yours to turn. If you find one false, say at which input.
  Laid BY PROGRAM, IN A SANDBOX (cutbox-rows.mjs): the forced cells as the released guide's own fill.sh prints them over the translation c66683a7500a61c9… (all of the seat's roots in one cut). By AI agents, Wed Nov 11 2026. No macro, syntax, notation, axiom, sorry.
-/
import Derived.Test.YtpahfhjgcflifaaGreatDoorChecked
import GoSem.PinnedTables
import GoSem.Claim
import GoSem.ClaimJoined
import GoSem.ClaimMapViews
import Derived.JoinedTies
import Derived.KernelRfl
namespace Go.Proofs.YtpahfhjgcflifaaGreatDoor
/- THE CELL 'sum', in the pinned program and in every row, IS THE sha256 OF THE DUMP (.gsa) THAT YtpahfhjgcflifaaGreatDoorProg.lean LOADS. Nothing in Lean hashes anything: it is a label: what it is worth is what the hold of that sum in a sandbox is worth. -/
noncomputable def Tryz.pinned : Pinned := { name := "ytpahfhjgcflifaagreatdoor", sum := "c66683a7500a61c97142931d3c1dc36e0563c69e71b0ef8f620145d244288501", checked := Tryz.checked }
namespace Rows
def none {H : Type} : Left H := { results := [], args := [] }

/- WHAT THE LISTED PACKAGE-LEVEL VARIABLES READ AS WHEN THE CALL BEGINS. Each datum BY PROGRAM (the guide's laid-datum.mjs) off the statement by which the dump's own 'gosem.cut.vars' lays the variable. In a bare row this is a premise. The card (YtpahfhjgcflifaaGreatDoorCards.lean) ties it to the program's text. -/
def laid_unicode_utf8_acceptRanges {H : Type} : DataW H := .agg [.agg [.lit (.int .u8 128), .lit (.int .u8 191)], .agg [.lit (.int .u8 160), .lit (.int .u8 191)], .agg [.lit (.int .u8 128), .lit (.int .u8 159)], .agg [.lit (.int .u8 144), .lit (.int .u8 191)], .agg [.lit (.int .u8 128), .lit (.int .u8 143)], .agg [.lit (.int .u8 0), .lit (.int .u8 0)], .agg [.lit (.int .u8 0), .lit (.int .u8 0)], .agg [.lit (.int .u8 0), .lit (.int .u8 0)], .agg [.lit (.int .u8 0), .lit (.int .u8 0)], .agg [.lit (.int .u8 0), .lit (.int .u8 0)], .agg [.lit (.int .u8 0), .lit (.int .u8 0)], .agg [.lit (.int .u8 0), .lit (.int .u8 0)], .agg [.lit (.int .u8 0), .lit (.int .u8 0)], .agg [.lit (.int .u8 0), .lit (.int .u8 0)], .agg [.lit (.int .u8 0), .lit (.int .u8 0)], .agg [.lit (.int .u8 0), .lit (.int .u8 0)]]
def laid_marginalia_utf_words {H : Type} : DataW H := .slice [.agg [.lit (.string [115, 112, 97, 99, 101]), .lit (.int .i64 32)], .agg [.lit (.string [110, 101, 119, 108, 105, 110, 101]), .lit (.int .i64 10)], .agg [.lit (.string [116, 97, 98]), .lit (.int .i64 9)], .agg [.lit (.string [114, 101, 116, 117, 114, 110]), .lit (.int .i64 13)], .agg [.lit (.string [110, 117, 108, 108]), .lit (.int .i64 0)], .agg [.lit (.string [100, 101, 108, 101, 116, 101]), .lit (.int .i64 127)]] []
def laid_marginalia_token_marks {H : Type} : DataW H := .agg [.agg [.lit (.string [40]), .lit (.int .i64 1), .lit (.string [])], .agg [.lit (.string [41]), .lit (.int .i64 2), .lit (.string [])], .agg [.lit (.string [39]), .lit (.int .i64 6), .lit (.string [113, 117, 111, 116, 101])], .agg [.lit (.string [96]), .lit (.int .i64 6), .lit (.string [113, 117, 97, 115, 105, 113, 117, 111, 116, 101])], .agg [.lit (.string [44, 64]), .lit (.int .i64 6), .lit (.string [117, 110, 113, 117, 111, 116, 101, 45, 115, 112, 108, 105, 99, 105, 110, 103])], .agg [.lit (.string [44]), .lit (.int .i64 6), .lit (.string [117, 110, 113, 117, 111, 116, 101])], .agg [.lit (.string [35, 40]), .lit (.int .i64 3), .lit (.string [])], .agg [.lit (.string [35, 59]), .lit (.int .i64 5), .lit (.string [])], .agg [.lit (.string [35, 39]), .lit (.int .i64 6), .lit (.string [115, 121, 110, 116, 97, 120])], .agg [.lit (.string [35, 96]), .lit (.int .i64 6), .lit (.string [113, 117, 97, 115, 105, 115, 121, 110, 116, 97, 120])], .agg [.lit (.string [35, 44, 64]), .lit (.int .i64 6), .lit (.string [117, 110, 115, 121, 110, 116, 97, 120, 45, 115, 112, 108, 105, 99, 105, 110, 103])], .agg [.lit (.string [35, 44]), .lit (.int .i64 6), .lit (.string [117, 110, 115, 121, 110, 116, 97, 120])]]
/-- One of Go's own tables, pinned by name: the form's constant. -/
def laid_unicode_CaseRanges : DataW Unit := Go.Pinned.caseRanges
/-- One of Go's own tables, pinned by name: the form's constant. -/
def laid_unicode_utf8_first : DataW Unit := Go.Pinned.utf8First
def laid_math_bits_deBruijn32tab {H : Type} : DataW H := .agg [.lit (.int .u8 0), .lit (.int .u8 1), .lit (.int .u8 28), .lit (.int .u8 2), .lit (.int .u8 29), .lit (.int .u8 14), .lit (.int .u8 24), .lit (.int .u8 3), .lit (.int .u8 30), .lit (.int .u8 22), .lit (.int .u8 20), .lit (.int .u8 15), .lit (.int .u8 25), .lit (.int .u8 17), .lit (.int .u8 4), .lit (.int .u8 8), .lit (.int .u8 31), .lit (.int .u8 27), .lit (.int .u8 13), .lit (.int .u8 23), .lit (.int .u8 21), .lit (.int .u8 19), .lit (.int .u8 16), .lit (.int .u8 7), .lit (.int .u8 26), .lit (.int .u8 12), .lit (.int .u8 18), .lit (.int .u8 6), .lit (.int .u8 11), .lit (.int .u8 5), .lit (.int .u8 10), .lit (.int .u8 9)]
def laid_math_bits_deBruijn64tab {H : Type} : DataW H := .agg [.lit (.int .u8 0), .lit (.int .u8 1), .lit (.int .u8 56), .lit (.int .u8 2), .lit (.int .u8 57), .lit (.int .u8 49), .lit (.int .u8 28), .lit (.int .u8 3), .lit (.int .u8 61), .lit (.int .u8 58), .lit (.int .u8 42), .lit (.int .u8 50), .lit (.int .u8 38), .lit (.int .u8 29), .lit (.int .u8 17), .lit (.int .u8 4), .lit (.int .u8 62), .lit (.int .u8 47), .lit (.int .u8 59), .lit (.int .u8 36), .lit (.int .u8 45), .lit (.int .u8 43), .lit (.int .u8 51), .lit (.int .u8 22), .lit (.int .u8 53), .lit (.int .u8 39), .lit (.int .u8 33), .lit (.int .u8 30), .lit (.int .u8 24), .lit (.int .u8 18), .lit (.int .u8 12), .lit (.int .u8 5), .lit (.int .u8 63), .lit (.int .u8 55), .lit (.int .u8 48), .lit (.int .u8 27), .lit (.int .u8 60), .lit (.int .u8 41), .lit (.int .u8 37), .lit (.int .u8 16), .lit (.int .u8 46), .lit (.int .u8 35), .lit (.int .u8 44), .lit (.int .u8 21), .lit (.int .u8 52), .lit (.int .u8 32), .lit (.int .u8 23), .lit (.int .u8 11), .lit (.int .u8 54), .lit (.int .u8 26), .lit (.int .u8 40), .lit (.int .u8 15), .lit (.int .u8 34), .lit (.int .u8 20), .lit (.int .u8 31), .lit (.int .u8 10), .lit (.int .u8 25), .lit (.int .u8 14), .lit (.int .u8 19), .lit (.int .u8 9), .lit (.int .u8 13), .lit (.int .u8 8), .lit (.int .u8 7), .lit (.int .u8 6)]
def laid_internal_strconv_uint64pow10 {H : Type} : DataW H := .agg [.lit (.int .u64 1), .lit (.int .u64 10), .lit (.int .u64 100), .lit (.int .u64 1000), .lit (.int .u64 10000), .lit (.int .u64 100000), .lit (.int .u64 1000000), .lit (.int .u64 10000000), .lit (.int .u64 100000000), .lit (.int .u64 1000000000), .lit (.int .u64 10000000000), .lit (.int .u64 100000000000), .lit (.int .u64 1000000000000), .lit (.int .u64 10000000000000), .lit (.int .u64 100000000000000), .lit (.int .u64 1000000000000000), .lit (.int .u64 10000000000000000), .lit (.int .u64 100000000000000000), .lit (.int .u64 1000000000000000000), .lit (.int .u64 10000000000000000000)]

/-- 'marginalialaw04.ReadSound': WHATEVER THE INPUT: true; the input reads as it did. -/
def readSoundSpec : ChangeSpec := { name := "readSound", fn := fun _ => fun
  | [d] => { results := [.lit (.bool true)], args := [d] }
  | _ => none }
def readSoundRow : OpenClaim := { program := "ytpahfhjgcflifaagreatdoor", sum := "c66683a7500a61c97142931d3c1dc36e0563c69e71b0ef8f620145d244288501", func := "marginalia/marginalialaw04.ReadSound", spec := "readSound", inPlace := ["internal/abi.NoEscape", "internal/bytealg.MakeNoZero", "internal/bytealg.IndexByteString", "internal/bytealg.IndexString"], unfollowed := true, recurses := true, named := ["unicode/utf8.first", "unicode/utf8.acceptRanges", "marginalia/token.marks", "marginalia/utf.words", "unicode.CaseRanges", "internal/bytealg.MaxLen"], loops := true, apart := false, laid := [("unicode/utf8.acceptRanges", laid_unicode_utf8_acceptRanges), ("marginalia/utf.words", laid_marginalia_utf_words), ("marginalia/token.marks", laid_marginalia_token_marks), ("unicode.CaseRanges", laid_unicode_CaseRanges), ("unicode/utf8.first", laid_unicode_utf8_first)] }
def ReadSoundSaid : Prop := readSoundRow.holds Tryz.pinned (OpenSpec.ofChange readSoundSpec)

/-- ITS FALSE NEIGHBOUR: 'it returns false'. Refute it at one input. -/
def readSoundWrong : ChangeSpec := { name := "readSound", fn := fun _ => fun
  | [d] => { results := [.lit (.bool false)], args := [d] }
  | _ => none }
def ReadSoundWrongFalsely : Prop := readSoundRow.holds Tryz.pinned (OpenSpec.ofChange readSoundWrong)

/-- 'marginalialaw04.ReadSame': WHATEVER THE INPUT: true; the input reads as it did. -/
def readSameSpec : ChangeSpec := { name := "readSame", fn := fun _ => fun
  | [d1, d2, d3] => { results := [.lit (.bool true)], args := [d1, d2, d3] }
  | _ => none }
def readSameRow : OpenClaim := { program := "ytpahfhjgcflifaagreatdoor", sum := "c66683a7500a61c97142931d3c1dc36e0563c69e71b0ef8f620145d244288501", func := "marginalia/marginalialaw04.ReadSame", spec := "readSame", inPlace := ["internal/abi.NoEscape", "internal/bytealg.MakeNoZero", "internal/bytealg.IndexByteString", "internal/bytealg.IndexString"], unfollowed := true, recurses := true, named := ["unicode/utf8.first", "unicode/utf8.acceptRanges", "marginalia/token.marks", "marginalia/utf.words", "unicode.CaseRanges", "internal/bytealg.MaxLen"], loops := true, apart := false, laid := [("unicode/utf8.acceptRanges", laid_unicode_utf8_acceptRanges), ("marginalia/utf.words", laid_marginalia_utf_words), ("marginalia/token.marks", laid_marginalia_token_marks), ("unicode.CaseRanges", laid_unicode_CaseRanges), ("unicode/utf8.first", laid_unicode_utf8_first)] }
def ReadSameSaid : Prop := readSameRow.holds Tryz.pinned (OpenSpec.ofChange readSameSpec)

/-- ITS FALSE NEIGHBOUR: 'it returns false'. Refute it at one input. -/
def readSameWrong : ChangeSpec := { name := "readSame", fn := fun _ => fun
  | [d1, d2, d3] => { results := [.lit (.bool false)], args := [d1, d2, d3] }
  | _ => none }
def ReadSameWrongFalsely : Prop := readSameRow.holds Tryz.pinned (OpenSpec.ofChange readSameWrong)

/-- 'marginalialaw04.ReadGives': WHATEVER THE INPUT: true; the input reads as it did. -/
def readGivesSpec : ChangeSpec := { name := "readGives", fn := fun _ => fun
  | [d1, d2] => { results := [.lit (.bool true)], args := [d1, d2] }
  | _ => none }
def readGivesRow : OpenClaim := { program := "ytpahfhjgcflifaagreatdoor", sum := "c66683a7500a61c97142931d3c1dc36e0563c69e71b0ef8f620145d244288501", func := "marginalia/marginalialaw04.ReadGives", spec := "readGives", inPlace := ["internal/abi.NoEscape", "internal/bytealg.MakeNoZero", "internal/bytealg.IndexByteString", "internal/bytealg.IndexString"], unfollowed := true, recurses := true, named := ["unicode/utf8.first", "unicode/utf8.acceptRanges", "marginalia/token.marks", "marginalia/utf.words", "unicode.CaseRanges", "internal/bytealg.MaxLen"], apart := false, laid := [("unicode/utf8.acceptRanges", laid_unicode_utf8_acceptRanges), ("marginalia/utf.words", laid_marginalia_utf_words), ("marginalia/token.marks", laid_marginalia_token_marks), ("unicode.CaseRanges", laid_unicode_CaseRanges), ("unicode/utf8.first", laid_unicode_utf8_first)] }
def ReadGivesSaid : Prop := readGivesRow.holds Tryz.pinned (OpenSpec.ofChange readGivesSpec)

/-- ITS FALSE NEIGHBOUR: 'it returns false'. Refute it at one input. -/
def readGivesWrong : ChangeSpec := { name := "readGives", fn := fun _ => fun
  | [d1, d2] => { results := [.lit (.bool false)], args := [d1, d2] }
  | _ => none }
def ReadGivesWrongFalsely : Prop := readGivesRow.holds Tryz.pinned (OpenSpec.ofChange readGivesWrong)

/-- 'marginalialaw04.ReadDeep': WHATEVER THE INPUT: true; the input reads as it did. -/
def readDeepSpec : ChangeSpec := { name := "readDeep", fn := fun _ => fun
  | [d1, d2] => { results := [.lit (.bool true)], args := [d1, d2] }
  | _ => none }
def readDeepRow : OpenClaim := { program := "ytpahfhjgcflifaagreatdoor", sum := "c66683a7500a61c97142931d3c1dc36e0563c69e71b0ef8f620145d244288501", func := "marginalia/marginalialaw04.ReadDeep", spec := "readDeep", inPlace := ["internal/abi.NoEscape", "internal/bytealg.MakeNoZero", "internal/bytealg.IndexByteString", "internal/bytealg.IndexString"], unfollowed := true, recurses := true, named := ["unicode/utf8.first", "unicode/utf8.acceptRanges", "marginalia/token.marks", "marginalia/utf.words", "unicode.CaseRanges", "internal/bytealg.MaxLen"], apart := false, laid := [("unicode/utf8.acceptRanges", laid_unicode_utf8_acceptRanges), ("marginalia/utf.words", laid_marginalia_utf_words), ("marginalia/token.marks", laid_marginalia_token_marks), ("unicode.CaseRanges", laid_unicode_CaseRanges), ("unicode/utf8.first", laid_unicode_utf8_first)] }
def ReadDeepSaid : Prop := readDeepRow.holds Tryz.pinned (OpenSpec.ofChange readDeepSpec)

/-- ITS FALSE NEIGHBOUR: 'it returns false'. Refute it at one input. -/
def readDeepWrong : ChangeSpec := { name := "readDeep", fn := fun _ => fun
  | [d1, d2] => { results := [.lit (.bool false)], args := [d1, d2] }
  | _ => none }
def ReadDeepWrongFalsely : Prop := readDeepRow.holds Tryz.pinned (OpenSpec.ofChange readDeepWrong)

/-- 'marginalialaw04.ReadShorts': WHATEVER THE INPUT: true; the input reads as it did. -/
def readShortsSpec : ChangeSpec := { name := "readShorts", fn := fun _ => fun
  | [d1, d2, d3] => { results := [.lit (.bool true)], args := [d1, d2, d3] }
  | _ => none }
def readShortsRow : OpenClaim := { program := "ytpahfhjgcflifaagreatdoor", sum := "c66683a7500a61c97142931d3c1dc36e0563c69e71b0ef8f620145d244288501", func := "marginalia/marginalialaw04.ReadShorts", spec := "readShorts", inPlace := ["internal/abi.NoEscape", "internal/bytealg.MakeNoZero", "internal/bytealg.IndexByteString", "internal/bytealg.IndexString"], unfollowed := true, recurses := true, named := ["unicode/utf8.first", "unicode/utf8.acceptRanges", "marginalia/token.marks", "marginalia/utf.words", "unicode.CaseRanges", "internal/bytealg.MaxLen"], loops := true, apart := false, laid := [("unicode/utf8.acceptRanges", laid_unicode_utf8_acceptRanges), ("marginalia/utf.words", laid_marginalia_utf_words), ("marginalia/token.marks", laid_marginalia_token_marks), ("unicode.CaseRanges", laid_unicode_CaseRanges), ("unicode/utf8.first", laid_unicode_utf8_first)] }
def ReadShortsSaid : Prop := readShortsRow.holds Tryz.pinned (OpenSpec.ofChange readShortsSpec)

/-- ITS FALSE NEIGHBOUR: 'it returns false'. Refute it at one input. -/
def readShortsWrong : ChangeSpec := { name := "readShorts", fn := fun _ => fun
  | [d1, d2, d3] => { results := [.lit (.bool false)], args := [d1, d2, d3] }
  | _ => none }
def ReadShortsWrongFalsely : Prop := readShortsRow.holds Tryz.pinned (OpenSpec.ofChange readShortsWrong)

/-- 'marginalialaw04.ReadDots': WHATEVER THE INPUT: true; the input reads as it did. -/
def readDotsSpec : ChangeSpec := { name := "readDots", fn := fun _ => fun
  | [d1, d2] => { results := [.lit (.bool true)], args := [d1, d2] }
  | _ => none }
def readDotsRow : OpenClaim := { program := "ytpahfhjgcflifaagreatdoor", sum := "c66683a7500a61c97142931d3c1dc36e0563c69e71b0ef8f620145d244288501", func := "marginalia/marginalialaw04.ReadDots", spec := "readDots", inPlace := ["internal/abi.NoEscape", "internal/bytealg.MakeNoZero", "internal/bytealg.IndexByteString", "internal/bytealg.IndexString"], unfollowed := true, recurses := true, named := ["unicode/utf8.first", "unicode/utf8.acceptRanges", "marginalia/token.marks", "marginalia/utf.words", "unicode.CaseRanges", "internal/bytealg.MaxLen"], loops := true, apart := false, laid := [("unicode/utf8.acceptRanges", laid_unicode_utf8_acceptRanges), ("marginalia/utf.words", laid_marginalia_utf_words), ("marginalia/token.marks", laid_marginalia_token_marks), ("unicode.CaseRanges", laid_unicode_CaseRanges), ("unicode/utf8.first", laid_unicode_utf8_first)] }
def ReadDotsSaid : Prop := readDotsRow.holds Tryz.pinned (OpenSpec.ofChange readDotsSpec)

/-- ITS FALSE NEIGHBOUR: 'it returns false'. Refute it at one input. -/
def readDotsWrong : ChangeSpec := { name := "readDots", fn := fun _ => fun
  | [d1, d2] => { results := [.lit (.bool false)], args := [d1, d2] }
  | _ => none }
def ReadDotsWrongFalsely : Prop := readDotsRow.holds Tryz.pinned (OpenSpec.ofChange readDotsWrong)

/-- 'marginalialaw05.PrintBack': WHATEVER THE INPUT: true; the input reads as it did. -/
def printBackSpec : ChangeSpec := { name := "printBack", fn := fun _ => fun
  | [d] => { results := [.lit (.bool true)], args := [d] }
  | _ => none }
def printBackRow : OpenClaim := { program := "ytpahfhjgcflifaagreatdoor", sum := "c66683a7500a61c97142931d3c1dc36e0563c69e71b0ef8f620145d244288501", func := "marginalia/marginalialaw05.PrintBack", spec := "printBack", inPlace := ["internal/bytealg.IndexByteString", "internal/bytealg.IndexString", "internal/abi.NoEscape", "internal/bytealg.MakeNoZero"], unfollowed := true, recurses := true, named := ["unicode/utf8.first", "unicode/utf8.acceptRanges", "internal/strconv.uint64pow10", "math/bits.deBruijn32tab", "math/bits.deBruijn64tab", "marginalia/utf.words", "marginalia/token.marks", "unicode.CaseRanges", "internal/bytealg.MaxLen"], loops := true, apart := false, laid := [("math/bits.deBruijn32tab", laid_math_bits_deBruijn32tab), ("math/bits.deBruijn64tab", laid_math_bits_deBruijn64tab), ("internal/strconv.uint64pow10", laid_internal_strconv_uint64pow10), ("unicode/utf8.acceptRanges", laid_unicode_utf8_acceptRanges), ("marginalia/utf.words", laid_marginalia_utf_words), ("marginalia/token.marks", laid_marginalia_token_marks), ("unicode.CaseRanges", laid_unicode_CaseRanges), ("unicode/utf8.first", laid_unicode_utf8_first)] }
def PrintBackSaid : Prop := printBackRow.holds Tryz.pinned (OpenSpec.ofChange printBackSpec)

/-- ITS FALSE NEIGHBOUR: 'it returns false'. Refute it at one input. -/
def printBackWrong : ChangeSpec := { name := "printBack", fn := fun _ => fun
  | [d] => { results := [.lit (.bool false)], args := [d] }
  | _ => none }
def PrintBackWrongFalsely : Prop := printBackRow.holds Tryz.pinned (OpenSpec.ofChange printBackWrong)

/- THE SECOND FORM. 'bulk': how many values and letters a reading holds, each counted each time it is reached (what is shared counts as often as it is met; a slice's spare places count too). A statement '..UptoSaid' is the law's where the arguments, and the package variables that the reading takes, are together of bulk at most 1048576: NARROWER than '..Said'. Prove '..Said' where nothing that the law and all that it calls make is longer than what came in: it says more and counts as full. Else prove '..UptoSaid'. A law counts once. -/
mutual
def uptoBulk {H : Type} : DataW H → Nat
  | .lit (.string bytes) => bytes.length + 1
  | .lit _ => 1
  | .nil => 1
  | .ptr d => uptoBulk d + 1
  | .slice elems spare => uptoBulkAll elems + uptoBulkAll spare + 1
  | .agg parts => uptoBulkAll parts + 1
  | .iface _ d => uptoBulk d + 1
  | .map entries => uptoBulkEntries entries + 1
  | .held _ => 1
def uptoBulkAll {H : Type} : List (DataW H) → Nat
  | [] => 0
  | d :: r => uptoBulk d + uptoBulkAll r
def uptoBulkEntries {H : Type} : List (Lit × DataW H) → Nat
  | [] => 0
  | x :: r => uptoBulkEntry x + uptoBulkEntries r
def uptoBulkEntry {H : Type} : Lit × DataW H → Nat
  | (.string bytes, d) => bytes.length + uptoBulk d + 1
  | (_, d) => uptoBulk d + 1
 end
def uptoSmall : (H : Type) → List (DataW H) → Bool := fun _ ds => decide (uptoBulkAll ds ≤ 1048576)
def OpenSpec.upto (s : _root_.Go.ChangeSpec) : _root_.Go.OpenSpec := { _root_.Go.OpenSpec.ofChange s with cond := some uptoSmall }

/-- 'marginalialaw04.ReadSound', WHERE WHAT IT READS IS OF BULK AT MOST 1048576: true; the input reads as it did. -/
def readSoundUptoRow : OpenClaim := { program := "ytpahfhjgcflifaagreatdoor", sum := "c66683a7500a61c97142931d3c1dc36e0563c69e71b0ef8f620145d244288501", func := "marginalia/marginalialaw04.ReadSound", spec := "readSound", inPlace := ["internal/abi.NoEscape", "internal/bytealg.MakeNoZero", "internal/bytealg.IndexByteString", "internal/bytealg.IndexString"], unfollowed := true, recurses := true, named := ["unicode/utf8.first", "unicode/utf8.acceptRanges", "marginalia/token.marks", "marginalia/utf.words", "unicode.CaseRanges", "internal/bytealg.MaxLen"], loops := true, apart := false, laid := [("unicode/utf8.acceptRanges", laid_unicode_utf8_acceptRanges), ("marginalia/utf.words", laid_marginalia_utf_words), ("marginalia/token.marks", laid_marginalia_token_marks), ("unicode.CaseRanges", laid_unicode_CaseRanges), ("unicode/utf8.first", laid_unicode_utf8_first)], narrowed := true }
def ReadSoundUptoSaid : Prop := readSoundUptoRow.holds Tryz.pinned (OpenSpec.upto readSoundSpec)

/-- 'marginalialaw04.ReadSame', WHERE WHAT IT READS IS OF BULK AT MOST 1048576: true; the input reads as it did. -/
def readSameUptoRow : OpenClaim := { program := "ytpahfhjgcflifaagreatdoor", sum := "c66683a7500a61c97142931d3c1dc36e0563c69e71b0ef8f620145d244288501", func := "marginalia/marginalialaw04.ReadSame", spec := "readSame", inPlace := ["internal/abi.NoEscape", "internal/bytealg.MakeNoZero", "internal/bytealg.IndexByteString", "internal/bytealg.IndexString"], unfollowed := true, recurses := true, named := ["unicode/utf8.first", "unicode/utf8.acceptRanges", "marginalia/token.marks", "marginalia/utf.words", "unicode.CaseRanges", "internal/bytealg.MaxLen"], loops := true, apart := false, laid := [("unicode/utf8.acceptRanges", laid_unicode_utf8_acceptRanges), ("marginalia/utf.words", laid_marginalia_utf_words), ("marginalia/token.marks", laid_marginalia_token_marks), ("unicode.CaseRanges", laid_unicode_CaseRanges), ("unicode/utf8.first", laid_unicode_utf8_first)], narrowed := true }
def ReadSameUptoSaid : Prop := readSameUptoRow.holds Tryz.pinned (OpenSpec.upto readSameSpec)

/-- 'marginalialaw04.ReadGives', WHERE WHAT IT READS IS OF BULK AT MOST 1048576: true; the input reads as it did. -/
def readGivesUptoRow : OpenClaim := { program := "ytpahfhjgcflifaagreatdoor", sum := "c66683a7500a61c97142931d3c1dc36e0563c69e71b0ef8f620145d244288501", func := "marginalia/marginalialaw04.ReadGives", spec := "readGives", inPlace := ["internal/abi.NoEscape", "internal/bytealg.MakeNoZero", "internal/bytealg.IndexByteString", "internal/bytealg.IndexString"], unfollowed := true, recurses := true, named := ["unicode/utf8.first", "unicode/utf8.acceptRanges", "marginalia/token.marks", "marginalia/utf.words", "unicode.CaseRanges", "internal/bytealg.MaxLen"], apart := false, laid := [("unicode/utf8.acceptRanges", laid_unicode_utf8_acceptRanges), ("marginalia/utf.words", laid_marginalia_utf_words), ("marginalia/token.marks", laid_marginalia_token_marks), ("unicode.CaseRanges", laid_unicode_CaseRanges), ("unicode/utf8.first", laid_unicode_utf8_first)], narrowed := true }
def ReadGivesUptoSaid : Prop := readGivesUptoRow.holds Tryz.pinned (OpenSpec.upto readGivesSpec)

/-- 'marginalialaw04.ReadDeep', WHERE WHAT IT READS IS OF BULK AT MOST 1048576: true; the input reads as it did. -/
def readDeepUptoRow : OpenClaim := { program := "ytpahfhjgcflifaagreatdoor", sum := "c66683a7500a61c97142931d3c1dc36e0563c69e71b0ef8f620145d244288501", func := "marginalia/marginalialaw04.ReadDeep", spec := "readDeep", inPlace := ["internal/abi.NoEscape", "internal/bytealg.MakeNoZero", "internal/bytealg.IndexByteString", "internal/bytealg.IndexString"], unfollowed := true, recurses := true, named := ["unicode/utf8.first", "unicode/utf8.acceptRanges", "marginalia/token.marks", "marginalia/utf.words", "unicode.CaseRanges", "internal/bytealg.MaxLen"], apart := false, laid := [("unicode/utf8.acceptRanges", laid_unicode_utf8_acceptRanges), ("marginalia/utf.words", laid_marginalia_utf_words), ("marginalia/token.marks", laid_marginalia_token_marks), ("unicode.CaseRanges", laid_unicode_CaseRanges), ("unicode/utf8.first", laid_unicode_utf8_first)], narrowed := true }
def ReadDeepUptoSaid : Prop := readDeepUptoRow.holds Tryz.pinned (OpenSpec.upto readDeepSpec)

/-- 'marginalialaw04.ReadShorts', WHERE WHAT IT READS IS OF BULK AT MOST 1048576: true; the input reads as it did. -/
def readShortsUptoRow : OpenClaim := { program := "ytpahfhjgcflifaagreatdoor", sum := "c66683a7500a61c97142931d3c1dc36e0563c69e71b0ef8f620145d244288501", func := "marginalia/marginalialaw04.ReadShorts", spec := "readShorts", inPlace := ["internal/abi.NoEscape", "internal/bytealg.MakeNoZero", "internal/bytealg.IndexByteString", "internal/bytealg.IndexString"], unfollowed := true, recurses := true, named := ["unicode/utf8.first", "unicode/utf8.acceptRanges", "marginalia/token.marks", "marginalia/utf.words", "unicode.CaseRanges", "internal/bytealg.MaxLen"], loops := true, apart := false, laid := [("unicode/utf8.acceptRanges", laid_unicode_utf8_acceptRanges), ("marginalia/utf.words", laid_marginalia_utf_words), ("marginalia/token.marks", laid_marginalia_token_marks), ("unicode.CaseRanges", laid_unicode_CaseRanges), ("unicode/utf8.first", laid_unicode_utf8_first)], narrowed := true }
def ReadShortsUptoSaid : Prop := readShortsUptoRow.holds Tryz.pinned (OpenSpec.upto readShortsSpec)

/-- 'marginalialaw04.ReadDots', WHERE WHAT IT READS IS OF BULK AT MOST 1048576: true; the input reads as it did. -/
def readDotsUptoRow : OpenClaim := { program := "ytpahfhjgcflifaagreatdoor", sum := "c66683a7500a61c97142931d3c1dc36e0563c69e71b0ef8f620145d244288501", func := "marginalia/marginalialaw04.ReadDots", spec := "readDots", inPlace := ["internal/abi.NoEscape", "internal/bytealg.MakeNoZero", "internal/bytealg.IndexByteString", "internal/bytealg.IndexString"], unfollowed := true, recurses := true, named := ["unicode/utf8.first", "unicode/utf8.acceptRanges", "marginalia/token.marks", "marginalia/utf.words", "unicode.CaseRanges", "internal/bytealg.MaxLen"], loops := true, apart := false, laid := [("unicode/utf8.acceptRanges", laid_unicode_utf8_acceptRanges), ("marginalia/utf.words", laid_marginalia_utf_words), ("marginalia/token.marks", laid_marginalia_token_marks), ("unicode.CaseRanges", laid_unicode_CaseRanges), ("unicode/utf8.first", laid_unicode_utf8_first)], narrowed := true }
def ReadDotsUptoSaid : Prop := readDotsUptoRow.holds Tryz.pinned (OpenSpec.upto readDotsSpec)

/-- 'marginalialaw05.PrintBack', WHERE WHAT IT READS IS OF BULK AT MOST 1048576: true; the input reads as it did. -/
def printBackUptoRow : OpenClaim := { program := "ytpahfhjgcflifaagreatdoor", sum := "c66683a7500a61c97142931d3c1dc36e0563c69e71b0ef8f620145d244288501", func := "marginalia/marginalialaw05.PrintBack", spec := "printBack", inPlace := ["internal/bytealg.IndexByteString", "internal/bytealg.IndexString", "internal/abi.NoEscape", "internal/bytealg.MakeNoZero"], unfollowed := true, recurses := true, named := ["unicode/utf8.first", "unicode/utf8.acceptRanges", "internal/strconv.uint64pow10", "math/bits.deBruijn32tab", "math/bits.deBruijn64tab", "marginalia/utf.words", "marginalia/token.marks", "unicode.CaseRanges", "internal/bytealg.MaxLen"], loops := true, apart := false, laid := [("math/bits.deBruijn32tab", laid_math_bits_deBruijn32tab), ("math/bits.deBruijn64tab", laid_math_bits_deBruijn64tab), ("internal/strconv.uint64pow10", laid_internal_strconv_uint64pow10), ("unicode/utf8.acceptRanges", laid_unicode_utf8_acceptRanges), ("marginalia/utf.words", laid_marginalia_utf_words), ("marginalia/token.marks", laid_marginalia_token_marks), ("unicode.CaseRanges", laid_unicode_CaseRanges), ("unicode/utf8.first", laid_unicode_utf8_first)], narrowed := true }
def PrintBackUptoSaid : Prop := printBackUptoRow.holds Tryz.pinned (OpenSpec.upto printBackSpec)

end Rows
end Go.Proofs.YtpahfhjgcflifaaGreatDoor
