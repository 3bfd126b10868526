/-
  NARROWER THAN 'FOR EVERY INPUT', by the rows' own cells (each row's printed sentence says how): StxOf: loops, laid · StxPushes: loops, laid · StxSame: loops, laid · StxLazy: loops, laid · PatChecks: loops, laid · PatMatches: loops, laid · PatWild: loops, laid · PatMany: loops, laid · PatLiterals: loops, laid · PatNil: loops, laid · PatDots: loops, laid.
  DERIVED. THE GIVEN ROWS OF THIS SEAT. 11 by the template 'for every input the law returns true; each argument reads behind the call as it read before'; 0 by the template 'total and deterministic' (their statements: YtbfcbicbeagjkaaGreatDoorTotals.lean).
  GIVEN WITH THE SEED: the statements are not yours to turn. If you find one false, say at which input.
  Laid BY PROGRAM, IN A SANDBOX (cutbox-rows.mjs): the forced cells as the released guide's own fill.sh prints them over the translation b9c1e5b40274f4ba… (all of the seat's roots in one cut). By AI agents, Wed Nov 11 2026. No macro, syntax, notation, axiom, sorry.
-/
import Derived.Test.YtbfcbicbeagjkaaGreatDoorChecked
import GoSem.PinnedTables
import GoSem.Claim
import GoSem.ClaimJoined
import GoSem.ClaimMapViews
import Derived.JoinedTies
import Derived.KernelRfl
namespace Go.Proofs.YtbfcbicbeagjkaaGreatDoor
/- THE CELL 'sum', in the pinned program and in every row, IS THE sha256 OF THE DUMP (.gsa) THAT YtbfcbicbeagjkaaGreatDoorProg.lean LOADS. Nothing in Lean hashes anything: it is a label: what it is worth is what the hold of that sum in a sandbox is worth. -/
noncomputable def Tryz.pinned : Pinned := { name := "ytbfcbicbeagjkaagreatdoor", sum := "b9c1e5b40274f4ba351cc0beae6e6e22bc874874e7f5ca05ce691b92222207bd", checked := Tryz.checked }
namespace Rows
def none {H : Type} : Left H := { results := [], args := [] }

/- WHAT THE LISTED PACKAGE-LEVEL VARIABLES READ AS WHEN THE CALL BEGINS. Each datum BY PROGRAM (the guide's laid-datum.mjs) off the statement by which the dump's own 'gosem.cut.vars' lays the variable. In a bare row this is a premise. The card (YtbfcbicbeagjkaaGreatDoorCards.lean) ties it to the program's text. -/
def laid_unicode_utf8_acceptRanges {H : Type} : DataW H := .agg [.agg [.lit (.int .u8 128), .lit (.int .u8 191)], .agg [.lit (.int .u8 160), .lit (.int .u8 191)], .agg [.lit (.int .u8 128), .lit (.int .u8 159)], .agg [.lit (.int .u8 144), .lit (.int .u8 191)], .agg [.lit (.int .u8 128), .lit (.int .u8 143)], .agg [.lit (.int .u8 0), .lit (.int .u8 0)], .agg [.lit (.int .u8 0), .lit (.int .u8 0)], .agg [.lit (.int .u8 0), .lit (.int .u8 0)], .agg [.lit (.int .u8 0), .lit (.int .u8 0)], .agg [.lit (.int .u8 0), .lit (.int .u8 0)], .agg [.lit (.int .u8 0), .lit (.int .u8 0)], .agg [.lit (.int .u8 0), .lit (.int .u8 0)], .agg [.lit (.int .u8 0), .lit (.int .u8 0)], .agg [.lit (.int .u8 0), .lit (.int .u8 0)], .agg [.lit (.int .u8 0), .lit (.int .u8 0)], .agg [.lit (.int .u8 0), .lit (.int .u8 0)]]
/-- One of Go's own tables, pinned by name: the form's constant. -/
def laid_unicode_utf8_first : DataW Unit := Go.Pinned.utf8First

/-- 'marginalialaw10.StxOf': WHATEVER THE INPUT: true; the input reads as it did. -/
def stxOfSpec : ChangeSpec := { name := "stxOf", fn := fun _ => fun
  | [d1, d2] => { results := [.lit (.bool true)], args := [d1, d2] }
  | _ => none }
def stxOfRow : OpenClaim := { program := "ytbfcbicbeagjkaagreatdoor", sum := "b9c1e5b40274f4ba351cc0beae6e6e22bc874874e7f5ca05ce691b92222207bd", func := "marginalia/marginalialaw10.StxOf", spec := "stxOf", inPlace := ["internal/bytealg.IndexByteString", "internal/bytealg.IndexString"], unfollowed := true, recurses := true, named := ["unicode/utf8.first", "unicode/utf8.acceptRanges", "internal/bytealg.MaxLen"], loops := true, plainKeys := false, apart := false, laid := [("unicode/utf8.acceptRanges", laid_unicode_utf8_acceptRanges), ("unicode/utf8.first", laid_unicode_utf8_first)] }
def StxOfSaid : Prop := stxOfRow.holds Tryz.pinned (OpenSpec.ofChange stxOfSpec)

/-- ITS FALSE NEIGHBOUR: 'it returns false'. Refute it at one input. -/
def stxOfWrong : ChangeSpec := { name := "stxOf", fn := fun _ => fun
  | [d1, d2] => { results := [.lit (.bool false)], args := [d1, d2] }
  | _ => none }
def StxOfWrongFalsely : Prop := stxOfRow.holds Tryz.pinned (OpenSpec.ofChange stxOfWrong)

/-- 'marginalialaw10.StxPushes': WHATEVER THE INPUT: true; the input reads as it did. -/
def stxPushesSpec : ChangeSpec := { name := "stxPushes", fn := fun _ => fun
  | [d1, d2] => { results := [.lit (.bool true)], args := [d1, d2] }
  | _ => none }
def stxPushesRow : OpenClaim := { program := "ytbfcbicbeagjkaagreatdoor", sum := "b9c1e5b40274f4ba351cc0beae6e6e22bc874874e7f5ca05ce691b92222207bd", func := "marginalia/marginalialaw10.StxPushes", spec := "stxPushes", inPlace := ["internal/bytealg.IndexByteString", "internal/bytealg.IndexString"], unfollowed := true, recurses := true, named := ["unicode/utf8.first", "unicode/utf8.acceptRanges", "internal/bytealg.MaxLen"], loops := true, plainKeys := false, apart := false, laid := [("unicode/utf8.acceptRanges", laid_unicode_utf8_acceptRanges), ("unicode/utf8.first", laid_unicode_utf8_first)] }
def StxPushesSaid : Prop := stxPushesRow.holds Tryz.pinned (OpenSpec.ofChange stxPushesSpec)

/-- ITS FALSE NEIGHBOUR: 'it returns false'. Refute it at one input. -/
def stxPushesWrong : ChangeSpec := { name := "stxPushes", fn := fun _ => fun
  | [d1, d2] => { results := [.lit (.bool false)], args := [d1, d2] }
  | _ => none }
def StxPushesWrongFalsely : Prop := stxPushesRow.holds Tryz.pinned (OpenSpec.ofChange stxPushesWrong)

/-- 'marginalialaw10.StxSame': WHATEVER THE INPUT: true; the input reads as it did. -/
def stxSameSpec : ChangeSpec := { name := "stxSame", fn := fun _ => fun
  | [d1, d2, d3] => { results := [.lit (.bool true)], args := [d1, d2, d3] }
  | _ => none }
def stxSameRow : OpenClaim := { program := "ytbfcbicbeagjkaagreatdoor", sum := "b9c1e5b40274f4ba351cc0beae6e6e22bc874874e7f5ca05ce691b92222207bd", func := "marginalia/marginalialaw10.StxSame", spec := "stxSame", inPlace := ["internal/bytealg.IndexByteString", "internal/bytealg.IndexString"], unfollowed := true, recurses := true, named := ["unicode/utf8.first", "unicode/utf8.acceptRanges", "internal/bytealg.MaxLen"], loops := true, plainKeys := false, apart := false, laid := [("unicode/utf8.acceptRanges", laid_unicode_utf8_acceptRanges), ("unicode/utf8.first", laid_unicode_utf8_first)] }
def StxSameSaid : Prop := stxSameRow.holds Tryz.pinned (OpenSpec.ofChange stxSameSpec)

/-- ITS FALSE NEIGHBOUR: 'it returns false'. Refute it at one input. -/
def stxSameWrong : ChangeSpec := { name := "stxSame", fn := fun _ => fun
  | [d1, d2, d3] => { results := [.lit (.bool false)], args := [d1, d2, d3] }
  | _ => none }
def StxSameWrongFalsely : Prop := stxSameRow.holds Tryz.pinned (OpenSpec.ofChange stxSameWrong)

/-- 'marginalialaw10.StxLazy': WHATEVER THE INPUT: true; the input reads as it did. -/
def stxLazySpec : ChangeSpec := { name := "stxLazy", fn := fun _ => fun
  | [d1, d2, d3, d4] => { results := [.lit (.bool true)], args := [d1, d2, d3, d4] }
  | _ => none }
def stxLazyRow : OpenClaim := { program := "ytbfcbicbeagjkaagreatdoor", sum := "b9c1e5b40274f4ba351cc0beae6e6e22bc874874e7f5ca05ce691b92222207bd", func := "marginalia/marginalialaw10.StxLazy", spec := "stxLazy", inPlace := ["internal/bytealg.IndexByteString", "internal/bytealg.IndexString"], unfollowed := true, recurses := true, named := ["unicode/utf8.first", "unicode/utf8.acceptRanges", "internal/bytealg.MaxLen"], loops := true, plainKeys := false, apart := false, laid := [("unicode/utf8.acceptRanges", laid_unicode_utf8_acceptRanges), ("unicode/utf8.first", laid_unicode_utf8_first)] }
def StxLazySaid : Prop := stxLazyRow.holds Tryz.pinned (OpenSpec.ofChange stxLazySpec)

/-- ITS FALSE NEIGHBOUR: 'it returns false'. Refute it at one input. -/
def stxLazyWrong : ChangeSpec := { name := "stxLazy", fn := fun _ => fun
  | [d1, d2, d3, d4] => { results := [.lit (.bool false)], args := [d1, d2, d3, d4] }
  | _ => none }
def StxLazyWrongFalsely : Prop := stxLazyRow.holds Tryz.pinned (OpenSpec.ofChange stxLazyWrong)

/-- 'marginalialaw12.PatChecks': WHATEVER THE INPUT: true; the input reads as it did. -/
def patChecksSpec : ChangeSpec := { name := "patChecks", fn := fun _ => fun
  | [d1, d2] => { results := [.lit (.bool true)], args := [d1, d2] }
  | _ => none }
def patChecksRow : OpenClaim := { program := "ytbfcbicbeagjkaagreatdoor", sum := "b9c1e5b40274f4ba351cc0beae6e6e22bc874874e7f5ca05ce691b92222207bd", func := "marginalia/marginalialaw12.PatChecks", spec := "patChecks", inPlace := ["internal/bytealg.IndexByteString", "internal/bytealg.IndexString", "internal/bytealg.abigen_runtime_cmpstring", "internal/abi.NoEscape"], unfollowed := true, recurses := true, named := ["unicode/utf8.first", "unicode/utf8.acceptRanges", "internal/bytealg.MaxLen"], loops := true, plainKeys := false, apart := false, laid := [("unicode/utf8.acceptRanges", laid_unicode_utf8_acceptRanges), ("unicode/utf8.first", laid_unicode_utf8_first)] }
def PatChecksSaid : Prop := patChecksRow.holds Tryz.pinned (OpenSpec.ofChange patChecksSpec)

/-- ITS FALSE NEIGHBOUR: 'it returns false'. Refute it at one input. -/
def patChecksWrong : ChangeSpec := { name := "patChecks", fn := fun _ => fun
  | [d1, d2] => { results := [.lit (.bool false)], args := [d1, d2] }
  | _ => none }
def PatChecksWrongFalsely : Prop := patChecksRow.holds Tryz.pinned (OpenSpec.ofChange patChecksWrong)

/-- 'marginalialaw12.PatMatches': WHATEVER THE INPUT: true; the input reads as it did. -/
def patMatchesSpec : ChangeSpec := { name := "patMatches", fn := fun _ => fun
  | [d1, d2, d3, d4] => { results := [.lit (.bool true)], args := [d1, d2, d3, d4] }
  | _ => none }
def patMatchesRow : OpenClaim := { program := "ytbfcbicbeagjkaagreatdoor", sum := "b9c1e5b40274f4ba351cc0beae6e6e22bc874874e7f5ca05ce691b92222207bd", func := "marginalia/marginalialaw12.PatMatches", spec := "patMatches", inPlace := ["sync/atomic.AddInt64", "sync/atomic.LoadInt64", "internal/bytealg.IndexByteString", "internal/bytealg.IndexString", "internal/abi.NoEscape", "internal/bytealg.abigen_runtime_cmpstring"], unfollowed := true, recurses := true, named := ["unicode/utf8.first", "unicode/utf8.acceptRanges", "internal/bytealg.MaxLen"], loops := true, plainKeys := false, apart := false, laid := [("unicode/utf8.acceptRanges", laid_unicode_utf8_acceptRanges), ("unicode/utf8.first", laid_unicode_utf8_first)] }
def PatMatchesSaid : Prop := patMatchesRow.holds Tryz.pinned (OpenSpec.ofChange patMatchesSpec)

/-- ITS FALSE NEIGHBOUR: 'it returns false'. Refute it at one input. -/
def patMatchesWrong : ChangeSpec := { name := "patMatches", fn := fun _ => fun
  | [d1, d2, d3, d4] => { results := [.lit (.bool false)], args := [d1, d2, d3, d4] }
  | _ => none }
def PatMatchesWrongFalsely : Prop := patMatchesRow.holds Tryz.pinned (OpenSpec.ofChange patMatchesWrong)

/-- 'marginalialaw12.PatWild': WHATEVER THE INPUT: true; the input reads as it did. -/
def patWildSpec : ChangeSpec := { name := "patWild", fn := fun _ => fun
  | [d] => { results := [.lit (.bool true)], args := [d] }
  | _ => none }
def patWildRow : OpenClaim := { program := "ytbfcbicbeagjkaagreatdoor", sum := "b9c1e5b40274f4ba351cc0beae6e6e22bc874874e7f5ca05ce691b92222207bd", func := "marginalia/marginalialaw12.PatWild", spec := "patWild", inPlace := ["internal/bytealg.IndexByteString", "internal/bytealg.IndexString", "internal/bytealg.abigen_runtime_cmpstring", "internal/abi.NoEscape"], unfollowed := true, recurses := true, named := ["unicode/utf8.first", "unicode/utf8.acceptRanges", "internal/bytealg.MaxLen"], loops := true, plainKeys := false, apart := false, laid := [("unicode/utf8.acceptRanges", laid_unicode_utf8_acceptRanges), ("unicode/utf8.first", laid_unicode_utf8_first)] }
def PatWildSaid : Prop := patWildRow.holds Tryz.pinned (OpenSpec.ofChange patWildSpec)

/-- ITS FALSE NEIGHBOUR: 'it returns false'. Refute it at one input. -/
def patWildWrong : ChangeSpec := { name := "patWild", fn := fun _ => fun
  | [d] => { results := [.lit (.bool false)], args := [d] }
  | _ => none }
def PatWildWrongFalsely : Prop := patWildRow.holds Tryz.pinned (OpenSpec.ofChange patWildWrong)

/-- 'marginalialaw12.PatMany': WHATEVER THE INPUT: true; the input reads as it did. -/
def patManySpec : ChangeSpec := { name := "patMany", fn := fun _ => fun
  | [d1, d2, d3] => { results := [.lit (.bool true)], args := [d1, d2, d3] }
  | _ => none }
def patManyRow : OpenClaim := { program := "ytbfcbicbeagjkaagreatdoor", sum := "b9c1e5b40274f4ba351cc0beae6e6e22bc874874e7f5ca05ce691b92222207bd", func := "marginalia/marginalialaw12.PatMany", spec := "patMany", inPlace := ["internal/bytealg.IndexByteString", "internal/bytealg.IndexString", "internal/bytealg.abigen_runtime_cmpstring", "internal/abi.NoEscape"], unfollowed := true, recurses := true, named := ["unicode/utf8.first", "unicode/utf8.acceptRanges", "internal/bytealg.MaxLen"], loops := true, plainKeys := false, apart := false, laid := [("unicode/utf8.acceptRanges", laid_unicode_utf8_acceptRanges), ("unicode/utf8.first", laid_unicode_utf8_first)] }
def PatManySaid : Prop := patManyRow.holds Tryz.pinned (OpenSpec.ofChange patManySpec)

/-- ITS FALSE NEIGHBOUR: 'it returns false'. Refute it at one input. -/
def patManyWrong : ChangeSpec := { name := "patMany", fn := fun _ => fun
  | [d1, d2, d3] => { results := [.lit (.bool false)], args := [d1, d2, d3] }
  | _ => none }
def PatManyWrongFalsely : Prop := patManyRow.holds Tryz.pinned (OpenSpec.ofChange patManyWrong)

/-- 'marginalialaw12.PatLiterals': WHATEVER THE INPUT: true; the input reads as it did. -/
def patLiteralsSpec : ChangeSpec := { name := "patLiterals", fn := fun _ => fun
  | [d1, d2, d3] => { results := [.lit (.bool true)], args := [d1, d2, d3] }
  | _ => none }
def patLiteralsRow : OpenClaim := { program := "ytbfcbicbeagjkaagreatdoor", sum := "b9c1e5b40274f4ba351cc0beae6e6e22bc874874e7f5ca05ce691b92222207bd", func := "marginalia/marginalialaw12.PatLiterals", spec := "patLiterals", inPlace := ["sync/atomic.AddInt64", "sync/atomic.LoadInt64", "internal/bytealg.IndexByteString", "internal/bytealg.IndexString", "internal/abi.NoEscape", "internal/bytealg.abigen_runtime_cmpstring"], unfollowed := true, recurses := true, named := ["unicode/utf8.first", "unicode/utf8.acceptRanges", "internal/bytealg.MaxLen"], loops := true, plainKeys := false, apart := false, laid := [("unicode/utf8.acceptRanges", laid_unicode_utf8_acceptRanges), ("unicode/utf8.first", laid_unicode_utf8_first)] }
def PatLiteralsSaid : Prop := patLiteralsRow.holds Tryz.pinned (OpenSpec.ofChange patLiteralsSpec)

/-- ITS FALSE NEIGHBOUR: 'it returns false'. Refute it at one input. -/
def patLiteralsWrong : ChangeSpec := { name := "patLiterals", fn := fun _ => fun
  | [d1, d2, d3] => { results := [.lit (.bool false)], args := [d1, d2, d3] }
  | _ => none }
def PatLiteralsWrongFalsely : Prop := patLiteralsRow.holds Tryz.pinned (OpenSpec.ofChange patLiteralsWrong)

/-- 'marginalialaw12.PatNil': WHATEVER THE INPUT: true; the input reads as it did. -/
def patNilSpec : ChangeSpec := { name := "patNil", fn := fun _ => fun
  | [d1, d2] => { results := [.lit (.bool true)], args := [d1, d2] }
  | _ => none }
def patNilRow : OpenClaim := { program := "ytbfcbicbeagjkaagreatdoor", sum := "b9c1e5b40274f4ba351cc0beae6e6e22bc874874e7f5ca05ce691b92222207bd", func := "marginalia/marginalialaw12.PatNil", spec := "patNil", inPlace := ["internal/bytealg.IndexByteString", "internal/bytealg.IndexString", "internal/bytealg.abigen_runtime_cmpstring", "internal/abi.NoEscape"], unfollowed := true, recurses := true, named := ["unicode/utf8.first", "unicode/utf8.acceptRanges", "internal/bytealg.MaxLen"], loops := true, plainKeys := false, apart := false, laid := [("unicode/utf8.acceptRanges", laid_unicode_utf8_acceptRanges), ("unicode/utf8.first", laid_unicode_utf8_first)] }
def PatNilSaid : Prop := patNilRow.holds Tryz.pinned (OpenSpec.ofChange patNilSpec)

/-- ITS FALSE NEIGHBOUR: 'it returns false'. Refute it at one input. -/
def patNilWrong : ChangeSpec := { name := "patNil", fn := fun _ => fun
  | [d1, d2] => { results := [.lit (.bool false)], args := [d1, d2] }
  | _ => none }
def PatNilWrongFalsely : Prop := patNilRow.holds Tryz.pinned (OpenSpec.ofChange patNilWrong)

/-- 'marginalialaw12.PatDots': WHATEVER THE INPUT: true; the input reads as it did. -/
def patDotsSpec : ChangeSpec := { name := "patDots", fn := fun _ => fun
  | [d1, d2, d3, d4] => { results := [.lit (.bool true)], args := [d1, d2, d3, d4] }
  | _ => none }
def patDotsRow : OpenClaim := { program := "ytbfcbicbeagjkaagreatdoor", sum := "b9c1e5b40274f4ba351cc0beae6e6e22bc874874e7f5ca05ce691b92222207bd", func := "marginalia/marginalialaw12.PatDots", spec := "patDots", inPlace := ["internal/bytealg.IndexByteString", "internal/bytealg.IndexString", "internal/bytealg.abigen_runtime_cmpstring", "internal/abi.NoEscape"], unfollowed := true, recurses := true, named := ["unicode/utf8.first", "unicode/utf8.acceptRanges", "internal/bytealg.MaxLen"], loops := true, plainKeys := false, apart := false, laid := [("unicode/utf8.acceptRanges", laid_unicode_utf8_acceptRanges), ("unicode/utf8.first", laid_unicode_utf8_first)] }
def PatDotsSaid : Prop := patDotsRow.holds Tryz.pinned (OpenSpec.ofChange patDotsSpec)

/-- ITS FALSE NEIGHBOUR: 'it returns false'. Refute it at one input. -/
def patDotsWrong : ChangeSpec := { name := "patDots", fn := fun _ => fun
  | [d1, d2, d3, d4] => { results := [.lit (.bool false)], args := [d1, d2, d3, d4] }
  | _ => none }
def PatDotsWrongFalsely : Prop := patDotsRow.holds Tryz.pinned (OpenSpec.ofChange patDotsWrong)

/- THE SECOND FORM. 'bulk': how many values and letters a reading holds, each counted each time it is reached (what is shared counts as often as it is met; a slice's spare places count too). A statement '..UptoSaid' is the law's where the arguments, and the package variables that the reading takes, are together of bulk at most 1048576: NARROWER than '..Said'. Prove '..Said' where nothing that the law and all that it calls make is longer than what came in: it says more and counts as full. Else prove '..UptoSaid'. A law counts once. -/
mutual
def uptoBulk {H : Type} : DataW H → Nat
  | .lit (.string bytes) => bytes.length + 1
  | .lit _ => 1
  | .nil => 1
  | .ptr d => uptoBulk d + 1
  | .slice elems spare => uptoBulkAll elems + uptoBulkAll spare + 1
  | .agg parts => uptoBulkAll parts + 1
  | .iface _ d => uptoBulk d + 1
  | .map entries => uptoBulkEntries entries + 1
  | .held _ => 1
def uptoBulkAll {H : Type} : List (DataW H) → Nat
  | [] => 0
  | d :: r => uptoBulk d + uptoBulkAll r
def uptoBulkEntries {H : Type} : List (Lit × DataW H) → Nat
  | [] => 0
  | x :: r => uptoBulkEntry x + uptoBulkEntries r
def uptoBulkEntry {H : Type} : Lit × DataW H → Nat
  | (.string bytes, d) => bytes.length + uptoBulk d + 1
  | (_, d) => uptoBulk d + 1
 end
def uptoSmall : (H : Type) → List (DataW H) → Bool := fun _ ds => decide (uptoBulkAll ds ≤ 1048576)
def OpenSpec.upto (s : _root_.Go.ChangeSpec) : _root_.Go.OpenSpec := { _root_.Go.OpenSpec.ofChange s with cond := some uptoSmall }

/-- 'marginalialaw10.StxOf', WHERE WHAT IT READS IS OF BULK AT MOST 1048576: true; the input reads as it did. -/
def stxOfUptoRow : OpenClaim := { program := "ytbfcbicbeagjkaagreatdoor", sum := "b9c1e5b40274f4ba351cc0beae6e6e22bc874874e7f5ca05ce691b92222207bd", func := "marginalia/marginalialaw10.StxOf", spec := "stxOf", inPlace := ["internal/bytealg.IndexByteString", "internal/bytealg.IndexString"], unfollowed := true, recurses := true, named := ["unicode/utf8.first", "unicode/utf8.acceptRanges", "internal/bytealg.MaxLen"], loops := true, plainKeys := false, apart := false, laid := [("unicode/utf8.acceptRanges", laid_unicode_utf8_acceptRanges), ("unicode/utf8.first", laid_unicode_utf8_first)], narrowed := true }
def StxOfUptoSaid : Prop := stxOfUptoRow.holds Tryz.pinned (OpenSpec.upto stxOfSpec)

/-- 'marginalialaw10.StxPushes', WHERE WHAT IT READS IS OF BULK AT MOST 1048576: true; the input reads as it did. -/
def stxPushesUptoRow : OpenClaim := { program := "ytbfcbicbeagjkaagreatdoor", sum := "b9c1e5b40274f4ba351cc0beae6e6e22bc874874e7f5ca05ce691b92222207bd", func := "marginalia/marginalialaw10.StxPushes", spec := "stxPushes", inPlace := ["internal/bytealg.IndexByteString", "internal/bytealg.IndexString"], unfollowed := true, recurses := true, named := ["unicode/utf8.first", "unicode/utf8.acceptRanges", "internal/bytealg.MaxLen"], loops := true, plainKeys := false, apart := false, laid := [("unicode/utf8.acceptRanges", laid_unicode_utf8_acceptRanges), ("unicode/utf8.first", laid_unicode_utf8_first)], narrowed := true }
def StxPushesUptoSaid : Prop := stxPushesUptoRow.holds Tryz.pinned (OpenSpec.upto stxPushesSpec)

/-- 'marginalialaw10.StxSame', WHERE WHAT IT READS IS OF BULK AT MOST 1048576: true; the input reads as it did. -/
def stxSameUptoRow : OpenClaim := { program := "ytbfcbicbeagjkaagreatdoor", sum := "b9c1e5b40274f4ba351cc0beae6e6e22bc874874e7f5ca05ce691b92222207bd", func := "marginalia/marginalialaw10.StxSame", spec := "stxSame", inPlace := ["internal/bytealg.IndexByteString", "internal/bytealg.IndexString"], unfollowed := true, recurses := true, named := ["unicode/utf8.first", "unicode/utf8.acceptRanges", "internal/bytealg.MaxLen"], loops := true, plainKeys := false, apart := false, laid := [("unicode/utf8.acceptRanges", laid_unicode_utf8_acceptRanges), ("unicode/utf8.first", laid_unicode_utf8_first)], narrowed := true }
def StxSameUptoSaid : Prop := stxSameUptoRow.holds Tryz.pinned (OpenSpec.upto stxSameSpec)

/-- 'marginalialaw10.StxLazy', WHERE WHAT IT READS IS OF BULK AT MOST 1048576: true; the input reads as it did. -/
def stxLazyUptoRow : OpenClaim := { program := "ytbfcbicbeagjkaagreatdoor", sum := "b9c1e5b40274f4ba351cc0beae6e6e22bc874874e7f5ca05ce691b92222207bd", func := "marginalia/marginalialaw10.StxLazy", spec := "stxLazy", inPlace := ["internal/bytealg.IndexByteString", "internal/bytealg.IndexString"], unfollowed := true, recurses := true, named := ["unicode/utf8.first", "unicode/utf8.acceptRanges", "internal/bytealg.MaxLen"], loops := true, plainKeys := false, apart := false, laid := [("unicode/utf8.acceptRanges", laid_unicode_utf8_acceptRanges), ("unicode/utf8.first", laid_unicode_utf8_first)], narrowed := true }
def StxLazyUptoSaid : Prop := stxLazyUptoRow.holds Tryz.pinned (OpenSpec.upto stxLazySpec)

/-- 'marginalialaw12.PatChecks', WHERE WHAT IT READS IS OF BULK AT MOST 1048576: true; the input reads as it did. -/
def patChecksUptoRow : OpenClaim := { program := "ytbfcbicbeagjkaagreatdoor", sum := "b9c1e5b40274f4ba351cc0beae6e6e22bc874874e7f5ca05ce691b92222207bd", func := "marginalia/marginalialaw12.PatChecks", spec := "patChecks", inPlace := ["internal/bytealg.IndexByteString", "internal/bytealg.IndexString", "internal/bytealg.abigen_runtime_cmpstring", "internal/abi.NoEscape"], unfollowed := true, recurses := true, named := ["unicode/utf8.first", "unicode/utf8.acceptRanges", "internal/bytealg.MaxLen"], loops := true, plainKeys := false, apart := false, laid := [("unicode/utf8.acceptRanges", laid_unicode_utf8_acceptRanges), ("unicode/utf8.first", laid_unicode_utf8_first)], narrowed := true }
def PatChecksUptoSaid : Prop := patChecksUptoRow.holds Tryz.pinned (OpenSpec.upto patChecksSpec)

/-- 'marginalialaw12.PatMatches', WHERE WHAT IT READS IS OF BULK AT MOST 1048576: true; the input reads as it did. -/
def patMatchesUptoRow : OpenClaim := { program := "ytbfcbicbeagjkaagreatdoor", sum := "b9c1e5b40274f4ba351cc0beae6e6e22bc874874e7f5ca05ce691b92222207bd", func := "marginalia/marginalialaw12.PatMatches", spec := "patMatches", inPlace := ["sync/atomic.AddInt64", "sync/atomic.LoadInt64", "internal/bytealg.IndexByteString", "internal/bytealg.IndexString", "internal/abi.NoEscape", "internal/bytealg.abigen_runtime_cmpstring"], unfollowed := true, recurses := true, named := ["unicode/utf8.first", "unicode/utf8.acceptRanges", "internal/bytealg.MaxLen"], loops := true, plainKeys := false, apart := false, laid := [("unicode/utf8.acceptRanges", laid_unicode_utf8_acceptRanges), ("unicode/utf8.first", laid_unicode_utf8_first)], narrowed := true }
def PatMatchesUptoSaid : Prop := patMatchesUptoRow.holds Tryz.pinned (OpenSpec.upto patMatchesSpec)

/-- 'marginalialaw12.PatWild', WHERE WHAT IT READS IS OF BULK AT MOST 1048576: true; the input reads as it did. -/
def patWildUptoRow : OpenClaim := { program := "ytbfcbicbeagjkaagreatdoor", sum := "b9c1e5b40274f4ba351cc0beae6e6e22bc874874e7f5ca05ce691b92222207bd", func := "marginalia/marginalialaw12.PatWild", spec := "patWild", inPlace := ["internal/bytealg.IndexByteString", "internal/bytealg.IndexString", "internal/bytealg.abigen_runtime_cmpstring", "internal/abi.NoEscape"], unfollowed := true, recurses := true, named := ["unicode/utf8.first", "unicode/utf8.acceptRanges", "internal/bytealg.MaxLen"], loops := true, plainKeys := false, apart := false, laid := [("unicode/utf8.acceptRanges", laid_unicode_utf8_acceptRanges), ("unicode/utf8.first", laid_unicode_utf8_first)], narrowed := true }
def PatWildUptoSaid : Prop := patWildUptoRow.holds Tryz.pinned (OpenSpec.upto patWildSpec)

/-- 'marginalialaw12.PatMany', WHERE WHAT IT READS IS OF BULK AT MOST 1048576: true; the input reads as it did. -/
def patManyUptoRow : OpenClaim := { program := "ytbfcbicbeagjkaagreatdoor", sum := "b9c1e5b40274f4ba351cc0beae6e6e22bc874874e7f5ca05ce691b92222207bd", func := "marginalia/marginalialaw12.PatMany", spec := "patMany", inPlace := ["internal/bytealg.IndexByteString", "internal/bytealg.IndexString", "internal/bytealg.abigen_runtime_cmpstring", "internal/abi.NoEscape"], unfollowed := true, recurses := true, named := ["unicode/utf8.first", "unicode/utf8.acceptRanges", "internal/bytealg.MaxLen"], loops := true, plainKeys := false, apart := false, laid := [("unicode/utf8.acceptRanges", laid_unicode_utf8_acceptRanges), ("unicode/utf8.first", laid_unicode_utf8_first)], narrowed := true }
def PatManyUptoSaid : Prop := patManyUptoRow.holds Tryz.pinned (OpenSpec.upto patManySpec)

/-- 'marginalialaw12.PatLiterals', WHERE WHAT IT READS IS OF BULK AT MOST 1048576: true; the input reads as it did. -/
def patLiteralsUptoRow : OpenClaim := { program := "ytbfcbicbeagjkaagreatdoor", sum := "b9c1e5b40274f4ba351cc0beae6e6e22bc874874e7f5ca05ce691b92222207bd", func := "marginalia/marginalialaw12.PatLiterals", spec := "patLiterals", inPlace := ["sync/atomic.AddInt64", "sync/atomic.LoadInt64", "internal/bytealg.IndexByteString", "internal/bytealg.IndexString", "internal/abi.NoEscape", "internal/bytealg.abigen_runtime_cmpstring"], unfollowed := true, recurses := true, named := ["unicode/utf8.first", "unicode/utf8.acceptRanges", "internal/bytealg.MaxLen"], loops := true, plainKeys := false, apart := false, laid := [("unicode/utf8.acceptRanges", laid_unicode_utf8_acceptRanges), ("unicode/utf8.first", laid_unicode_utf8_first)], narrowed := true }
def PatLiteralsUptoSaid : Prop := patLiteralsUptoRow.holds Tryz.pinned (OpenSpec.upto patLiteralsSpec)

/-- 'marginalialaw12.PatNil', WHERE WHAT IT READS IS OF BULK AT MOST 1048576: true; the input reads as it did. -/
def patNilUptoRow : OpenClaim := { program := "ytbfcbicbeagjkaagreatdoor", sum := "b9c1e5b40274f4ba351cc0beae6e6e22bc874874e7f5ca05ce691b92222207bd", func := "marginalia/marginalialaw12.PatNil", spec := "patNil", inPlace := ["internal/bytealg.IndexByteString", "internal/bytealg.IndexString", "internal/bytealg.abigen_runtime_cmpstring", "internal/abi.NoEscape"], unfollowed := true, recurses := true, named := ["unicode/utf8.first", "unicode/utf8.acceptRanges", "internal/bytealg.MaxLen"], loops := true, plainKeys := false, apart := false, laid := [("unicode/utf8.acceptRanges", laid_unicode_utf8_acceptRanges), ("unicode/utf8.first", laid_unicode_utf8_first)], narrowed := true }
def PatNilUptoSaid : Prop := patNilUptoRow.holds Tryz.pinned (OpenSpec.upto patNilSpec)

/-- 'marginalialaw12.PatDots', WHERE WHAT IT READS IS OF BULK AT MOST 1048576: true; the input reads as it did. -/
def patDotsUptoRow : OpenClaim := { program := "ytbfcbicbeagjkaagreatdoor", sum := "b9c1e5b40274f4ba351cc0beae6e6e22bc874874e7f5ca05ce691b92222207bd", func := "marginalia/marginalialaw12.PatDots", spec := "patDots", inPlace := ["internal/bytealg.IndexByteString", "internal/bytealg.IndexString", "internal/bytealg.abigen_runtime_cmpstring", "internal/abi.NoEscape"], unfollowed := true, recurses := true, named := ["unicode/utf8.first", "unicode/utf8.acceptRanges", "internal/bytealg.MaxLen"], loops := true, plainKeys := false, apart := false, laid := [("unicode/utf8.acceptRanges", laid_unicode_utf8_acceptRanges), ("unicode/utf8.first", laid_unicode_utf8_first)], narrowed := true }
def PatDotsUptoSaid : Prop := patDotsUptoRow.holds Tryz.pinned (OpenSpec.upto patDotsSpec)

end Rows
end Go.Proofs.YtbfcbicbeagjkaaGreatDoor
