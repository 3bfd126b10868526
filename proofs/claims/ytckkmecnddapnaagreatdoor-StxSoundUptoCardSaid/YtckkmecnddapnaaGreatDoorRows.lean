/-
  NARROWER THAN 'FOR EVERY INPUT', by the rows' own cells (each row's printed sentence says how): StxSound: loops, laid · StxOf: loops, laid · StxPushes: loops, laid · StxSame: loops, laid · StxLazy: loops, laid.
  DERIVED. THE GIVEN ROWS OF THIS SEAT. 5 by the template 'for every input the law returns true; each argument reads behind the call as it read before'; 0 by the template 'total and deterministic' (their statements: YtckkmecnddapnaaGreatDoorTotals.lean).
  GIVEN WITH THE SEED: the statements are not yours to turn. If you find one false, say at which input.
  Laid BY PROGRAM, IN A SANDBOX (cutbox-rows.mjs): the forced cells as the released guide's own fill.sh prints them over the translation bd3242cb7e48cb74… (all of the seat's roots in one cut). By AI agents, Wed Nov 11 2026. No macro, syntax, notation, axiom, sorry.
-/
import Derived.Test.YtckkmecnddapnaaGreatDoorChecked
import GoSem.PinnedTables
import GoSem.Claim
import GoSem.ClaimJoined
import GoSem.ClaimMapViews
import Derived.JoinedTies
import Derived.KernelRfl
namespace Go.Proofs.YtckkmecnddapnaaGreatDoor
/- THE CELL 'sum', in the pinned program and in every row, IS THE sha256 OF THE DUMP (.gsa) THAT YtckkmecnddapnaaGreatDoorProg.lean LOADS. Nothing in Lean hashes anything: it is a label: what it is worth is what the hold of that sum in a sandbox is worth. -/
noncomputable def Tryz.pinned : Pinned := { name := "ytckkmecnddapnaagreatdoor", sum := "bd3242cb7e48cb742dc22c8d16138326ad360fd0d813241e5f9fcf29af068c6b", checked := Tryz.checked }
namespace Rows
def none {H : Type} : Left H := { results := [], args := [] }

/- WHAT THE LISTED PACKAGE-LEVEL VARIABLES READ AS WHEN THE CALL BEGINS. Each datum BY PROGRAM (the guide's laid-datum.mjs) off the statement by which the dump's own 'gosem.cut.vars' lays the variable. In a bare row this is a premise. The card (YtckkmecnddapnaaGreatDoorCards.lean) ties it to the program's text. -/
def laid_unicode_utf8_acceptRanges {H : Type} : DataW H := .agg [.agg [.lit (.int .u8 128), .lit (.int .u8 191)], .agg [.lit (.int .u8 160), .lit (.int .u8 191)], .agg [.lit (.int .u8 128), .lit (.int .u8 159)], .agg [.lit (.int .u8 144), .lit (.int .u8 191)], .agg [.lit (.int .u8 128), .lit (.int .u8 143)], .agg [.lit (.int .u8 0), .lit (.int .u8 0)], .agg [.lit (.int .u8 0), .lit (.int .u8 0)], .agg [.lit (.int .u8 0), .lit (.int .u8 0)], .agg [.lit (.int .u8 0), .lit (.int .u8 0)], .agg [.lit (.int .u8 0), .lit (.int .u8 0)], .agg [.lit (.int .u8 0), .lit (.int .u8 0)], .agg [.lit (.int .u8 0), .lit (.int .u8 0)], .agg [.lit (.int .u8 0), .lit (.int .u8 0)], .agg [.lit (.int .u8 0), .lit (.int .u8 0)], .agg [.lit (.int .u8 0), .lit (.int .u8 0)], .agg [.lit (.int .u8 0), .lit (.int .u8 0)]]
/-- One of Go's own tables, pinned by name: the form's constant. -/
def laid_unicode_utf8_first : DataW Unit := Go.Pinned.utf8First

/-- 'marginalialaw10.StxSound': WHATEVER THE INPUT: true; the input reads as it did. -/
def stxSoundSpec : ChangeSpec := { name := "stxSound", fn := fun _ => fun
  | [d] => { results := [.lit (.bool true)], args := [d] }
  | _ => none }
def stxSoundRow : OpenClaim := { program := "ytckkmecnddapnaagreatdoor", sum := "bd3242cb7e48cb742dc22c8d16138326ad360fd0d813241e5f9fcf29af068c6b", func := "marginalia/marginalialaw10.StxSound", spec := "stxSound", inPlace := ["internal/bytealg.IndexByteString", "internal/bytealg.IndexString"], unfollowed := true, recurses := true, named := ["unicode/utf8.first", "unicode/utf8.acceptRanges", "internal/bytealg.MaxLen"], loops := true, apart := false, laid := [("unicode/utf8.acceptRanges", laid_unicode_utf8_acceptRanges), ("unicode/utf8.first", laid_unicode_utf8_first)] }
def StxSoundSaid : Prop := stxSoundRow.holds Tryz.pinned (OpenSpec.ofChange stxSoundSpec)

/-- ITS FALSE NEIGHBOUR: 'it returns false'. Refute it at one input. -/
def stxSoundWrong : ChangeSpec := { name := "stxSound", fn := fun _ => fun
  | [d] => { results := [.lit (.bool false)], args := [d] }
  | _ => none }
def StxSoundWrongFalsely : Prop := stxSoundRow.holds Tryz.pinned (OpenSpec.ofChange stxSoundWrong)

/-- 'marginalialaw10.StxOf': WHATEVER THE INPUT: true; the input reads as it did. -/
def stxOfSpec : ChangeSpec := { name := "stxOf", fn := fun _ => fun
  | [d1, d2] => { results := [.lit (.bool true)], args := [d1, d2] }
  | _ => none }
def stxOfRow : OpenClaim := { program := "ytckkmecnddapnaagreatdoor", sum := "bd3242cb7e48cb742dc22c8d16138326ad360fd0d813241e5f9fcf29af068c6b", func := "marginalia/marginalialaw10.StxOf", spec := "stxOf", inPlace := ["internal/bytealg.IndexByteString", "internal/bytealg.IndexString"], unfollowed := true, recurses := true, named := ["unicode/utf8.first", "unicode/utf8.acceptRanges", "internal/bytealg.MaxLen"], loops := true, apart := false, laid := [("unicode/utf8.acceptRanges", laid_unicode_utf8_acceptRanges), ("unicode/utf8.first", laid_unicode_utf8_first)] }
def StxOfSaid : Prop := stxOfRow.holds Tryz.pinned (OpenSpec.ofChange stxOfSpec)

/-- ITS FALSE NEIGHBOUR: 'it returns false'. Refute it at one input. -/
def stxOfWrong : ChangeSpec := { name := "stxOf", fn := fun _ => fun
  | [d1, d2] => { results := [.lit (.bool false)], args := [d1, d2] }
  | _ => none }
def StxOfWrongFalsely : Prop := stxOfRow.holds Tryz.pinned (OpenSpec.ofChange stxOfWrong)

/-- 'marginalialaw10.StxPushes': WHATEVER THE INPUT: true; the input reads as it did. -/
def stxPushesSpec : ChangeSpec := { name := "stxPushes", fn := fun _ => fun
  | [d1, d2] => { results := [.lit (.bool true)], args := [d1, d2] }
  | _ => none }
def stxPushesRow : OpenClaim := { program := "ytckkmecnddapnaagreatdoor", sum := "bd3242cb7e48cb742dc22c8d16138326ad360fd0d813241e5f9fcf29af068c6b", func := "marginalia/marginalialaw10.StxPushes", spec := "stxPushes", inPlace := ["internal/bytealg.IndexByteString", "internal/bytealg.IndexString"], unfollowed := true, recurses := true, named := ["unicode/utf8.first", "unicode/utf8.acceptRanges", "internal/bytealg.MaxLen"], loops := true, apart := false, laid := [("unicode/utf8.acceptRanges", laid_unicode_utf8_acceptRanges), ("unicode/utf8.first", laid_unicode_utf8_first)] }
def StxPushesSaid : Prop := stxPushesRow.holds Tryz.pinned (OpenSpec.ofChange stxPushesSpec)

/-- ITS FALSE NEIGHBOUR: 'it returns false'. Refute it at one input. -/
def stxPushesWrong : ChangeSpec := { name := "stxPushes", fn := fun _ => fun
  | [d1, d2] => { results := [.lit (.bool false)], args := [d1, d2] }
  | _ => none }
def StxPushesWrongFalsely : Prop := stxPushesRow.holds Tryz.pinned (OpenSpec.ofChange stxPushesWrong)

/-- 'marginalialaw10.StxSame': WHATEVER THE INPUT: true; the input reads as it did. -/
def stxSameSpec : ChangeSpec := { name := "stxSame", fn := fun _ => fun
  | [d1, d2, d3] => { results := [.lit (.bool true)], args := [d1, d2, d3] }
  | _ => none }
def stxSameRow : OpenClaim := { program := "ytckkmecnddapnaagreatdoor", sum := "bd3242cb7e48cb742dc22c8d16138326ad360fd0d813241e5f9fcf29af068c6b", func := "marginalia/marginalialaw10.StxSame", spec := "stxSame", inPlace := ["internal/bytealg.IndexByteString", "internal/bytealg.IndexString"], unfollowed := true, recurses := true, named := ["unicode/utf8.first", "unicode/utf8.acceptRanges", "internal/bytealg.MaxLen"], loops := true, apart := false, laid := [("unicode/utf8.acceptRanges", laid_unicode_utf8_acceptRanges), ("unicode/utf8.first", laid_unicode_utf8_first)] }
def StxSameSaid : Prop := stxSameRow.holds Tryz.pinned (OpenSpec.ofChange stxSameSpec)

/-- ITS FALSE NEIGHBOUR: 'it returns false'. Refute it at one input. -/
def stxSameWrong : ChangeSpec := { name := "stxSame", fn := fun _ => fun
  | [d1, d2, d3] => { results := [.lit (.bool false)], args := [d1, d2, d3] }
  | _ => none }
def StxSameWrongFalsely : Prop := stxSameRow.holds Tryz.pinned (OpenSpec.ofChange stxSameWrong)

/-- 'marginalialaw10.StxLazy': WHATEVER THE INPUT: true; the input reads as it did. -/
def stxLazySpec : ChangeSpec := { name := "stxLazy", fn := fun _ => fun
  | [d1, d2, d3, d4] => { results := [.lit (.bool true)], args := [d1, d2, d3, d4] }
  | _ => none }
def stxLazyRow : OpenClaim := { program := "ytckkmecnddapnaagreatdoor", sum := "bd3242cb7e48cb742dc22c8d16138326ad360fd0d813241e5f9fcf29af068c6b", func := "marginalia/marginalialaw10.StxLazy", spec := "stxLazy", inPlace := ["internal/bytealg.IndexByteString", "internal/bytealg.IndexString"], unfollowed := true, recurses := true, named := ["unicode/utf8.first", "unicode/utf8.acceptRanges", "internal/bytealg.MaxLen"], loops := true, apart := false, laid := [("unicode/utf8.acceptRanges", laid_unicode_utf8_acceptRanges), ("unicode/utf8.first", laid_unicode_utf8_first)] }
def StxLazySaid : Prop := stxLazyRow.holds Tryz.pinned (OpenSpec.ofChange stxLazySpec)

/-- ITS FALSE NEIGHBOUR: 'it returns false'. Refute it at one input. -/
def stxLazyWrong : ChangeSpec := { name := "stxLazy", fn := fun _ => fun
  | [d1, d2, d3, d4] => { results := [.lit (.bool false)], args := [d1, d2, d3, d4] }
  | _ => none }
def StxLazyWrongFalsely : Prop := stxLazyRow.holds Tryz.pinned (OpenSpec.ofChange stxLazyWrong)

/- THE SECOND FORM. 'bulk': how many values and letters a reading holds, each counted each time it is reached (what is shared counts as often as it is met; a slice's spare places count too). A statement '..UptoSaid' is the law's where the arguments, and the package variables that the reading takes, are together of bulk at most 1048576: NARROWER than '..Said'. Prove '..Said' where nothing that the law and all that it calls make is longer than what came in: it says more and counts as full. Else prove '..UptoSaid'. A law counts once. -/
mutual
def uptoBulk {H : Type} : DataW H → Nat
  | .lit (.string bytes) => bytes.length + 1
  | .lit _ => 1
  | .nil => 1
  | .ptr d => uptoBulk d + 1
  | .slice elems spare => uptoBulkAll elems + uptoBulkAll spare + 1
  | .agg parts => uptoBulkAll parts + 1
  | .iface _ d => uptoBulk d + 1
  | .map entries => uptoBulkEntries entries + 1
  | .held _ => 1
def uptoBulkAll {H : Type} : List (DataW H) → Nat
  | [] => 0
  | d :: r => uptoBulk d + uptoBulkAll r
def uptoBulkEntries {H : Type} : List (Lit × DataW H) → Nat
  | [] => 0
  | x :: r => uptoBulkEntry x + uptoBulkEntries r
def uptoBulkEntry {H : Type} : Lit × DataW H → Nat
  | (.string bytes, d) => bytes.length + uptoBulk d + 1
  | (_, d) => uptoBulk d + 1
 end
def uptoSmall : (H : Type) → List (DataW H) → Bool := fun _ ds => decide (uptoBulkAll ds ≤ 1048576)
def OpenSpec.upto (s : _root_.Go.ChangeSpec) : _root_.Go.OpenSpec := { _root_.Go.OpenSpec.ofChange s with cond := some uptoSmall }

/-- 'marginalialaw10.StxSound', WHERE WHAT IT READS IS OF BULK AT MOST 1048576: true; the input reads as it did. -/
def stxSoundUptoRow : OpenClaim := { program := "ytckkmecnddapnaagreatdoor", sum := "bd3242cb7e48cb742dc22c8d16138326ad360fd0d813241e5f9fcf29af068c6b", func := "marginalia/marginalialaw10.StxSound", spec := "stxSound", inPlace := ["internal/bytealg.IndexByteString", "internal/bytealg.IndexString"], unfollowed := true, recurses := true, named := ["unicode/utf8.first", "unicode/utf8.acceptRanges", "internal/bytealg.MaxLen"], loops := true, apart := false, laid := [("unicode/utf8.acceptRanges", laid_unicode_utf8_acceptRanges), ("unicode/utf8.first", laid_unicode_utf8_first)], narrowed := true }
def StxSoundUptoSaid : Prop := stxSoundUptoRow.holds Tryz.pinned (OpenSpec.upto stxSoundSpec)

/-- 'marginalialaw10.StxOf', WHERE WHAT IT READS IS OF BULK AT MOST 1048576: true; the input reads as it did. -/
def stxOfUptoRow : OpenClaim := { program := "ytckkmecnddapnaagreatdoor", sum := "bd3242cb7e48cb742dc22c8d16138326ad360fd0d813241e5f9fcf29af068c6b", func := "marginalia/marginalialaw10.StxOf", spec := "stxOf", inPlace := ["internal/bytealg.IndexByteString", "internal/bytealg.IndexString"], unfollowed := true, recurses := true, named := ["unicode/utf8.first", "unicode/utf8.acceptRanges", "internal/bytealg.MaxLen"], loops := true, apart := false, laid := [("unicode/utf8.acceptRanges", laid_unicode_utf8_acceptRanges), ("unicode/utf8.first", laid_unicode_utf8_first)], narrowed := true }
def StxOfUptoSaid : Prop := stxOfUptoRow.holds Tryz.pinned (OpenSpec.upto stxOfSpec)

/-- 'marginalialaw10.StxPushes', WHERE WHAT IT READS IS OF BULK AT MOST 1048576: true; the input reads as it did. -/
def stxPushesUptoRow : OpenClaim := { program := "ytckkmecnddapnaagreatdoor", sum := "bd3242cb7e48cb742dc22c8d16138326ad360fd0d813241e5f9fcf29af068c6b", func := "marginalia/marginalialaw10.StxPushes", spec := "stxPushes", inPlace := ["internal/bytealg.IndexByteString", "internal/bytealg.IndexString"], unfollowed := true, recurses := true, named := ["unicode/utf8.first", "unicode/utf8.acceptRanges", "internal/bytealg.MaxLen"], loops := true, apart := false, laid := [("unicode/utf8.acceptRanges", laid_unicode_utf8_acceptRanges), ("unicode/utf8.first", laid_unicode_utf8_first)], narrowed := true }
def StxPushesUptoSaid : Prop := stxPushesUptoRow.holds Tryz.pinned (OpenSpec.upto stxPushesSpec)

/-- 'marginalialaw10.StxSame', WHERE WHAT IT READS IS OF BULK AT MOST 1048576: true; the input reads as it did. -/
def stxSameUptoRow : OpenClaim := { program := "ytckkmecnddapnaagreatdoor", sum := "bd3242cb7e48cb742dc22c8d16138326ad360fd0d813241e5f9fcf29af068c6b", func := "marginalia/marginalialaw10.StxSame", spec := "stxSame", inPlace := ["internal/bytealg.IndexByteString", "internal/bytealg.IndexString"], unfollowed := true, recurses := true, named := ["unicode/utf8.first", "unicode/utf8.acceptRanges", "internal/bytealg.MaxLen"], loops := true, apart := false, laid := [("unicode/utf8.acceptRanges", laid_unicode_utf8_acceptRanges), ("unicode/utf8.first", laid_unicode_utf8_first)], narrowed := true }
def StxSameUptoSaid : Prop := stxSameUptoRow.holds Tryz.pinned (OpenSpec.upto stxSameSpec)

/-- 'marginalialaw10.StxLazy', WHERE WHAT IT READS IS OF BULK AT MOST 1048576: true; the input reads as it did. -/
def stxLazyUptoRow : OpenClaim := { program := "ytckkmecnddapnaagreatdoor", sum := "bd3242cb7e48cb742dc22c8d16138326ad360fd0d813241e5f9fcf29af068c6b", func := "marginalia/marginalialaw10.StxLazy", spec := "stxLazy", inPlace := ["internal/bytealg.IndexByteString", "internal/bytealg.IndexString"], unfollowed := true, recurses := true, named := ["unicode/utf8.first", "unicode/utf8.acceptRanges", "internal/bytealg.MaxLen"], loops := true, apart := false, laid := [("unicode/utf8.acceptRanges", laid_unicode_utf8_acceptRanges), ("unicode/utf8.first", laid_unicode_utf8_first)], narrowed := true }
def StxLazyUptoSaid : Prop := stxLazyUptoRow.holds Tryz.pinned (OpenSpec.upto stxLazySpec)

end Rows
end Go.Proofs.YtckkmecnddapnaaGreatDoor
