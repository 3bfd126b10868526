/-
  DERIVED. GIVEN WITH THE SEED: THE CARDS: each row of YtbfcbicbeagjkaaGreatDoorRows.lean that lists a variable, with what it lists TIED to the program's text (the seventh form; the later family's looks); each row that meets fmt, with fmt's text TOLD by the authors' own Lean function (tested against real Go, not proved from fmt's source: count such statements apart). THE CARD IS WHAT COUNTS. Prove the row's statement (the work); the ties are given (YtbfcbicbeagjkaaGreatDoorTie.lean); close each card by the builder's one call (the guide's Derived/Test/ToyasCard.lean, 'card_holds'). Laid BY PROGRAM, IN A SANDBOX (cutbox-door.mjs). By AI agents, Wed Nov 11 2026. No macro, syntax, notation, axiom, sorry.
-/
import Derived.Test.YtbfcbicbeagjkaaGreatDoorRows
import GoSem.ClaimSeven
namespace Go.Proofs.YtbfcbicbeagjkaaGreatDoor
namespace Rows

/-- THE TIED CARD OF 'marginalialaw10.StxOf'. -/
def stxOfCard : Claim7 := { stood := { row := stxOfRow, standIns := [], harness := (true, "2067271c0583ca5874ac26b177efc5c813fdbc63d42bf094944fb20ec67ed6cc"), looks := false }, kinds := [], alts := [], laidByText := true, laidKinds := [.data, .pinned], laidTests := true, laidLooks := .later }
def StxOfCardSaid : Prop := Claim7.holds Tryz.pinned (.plain (OpenSpec.ofChange stxOfSpec)) stxOfCard

/-- THE TIED CARD OF 'marginalialaw10.StxPushes'. -/
def stxPushesCard : Claim7 := { stood := { row := stxPushesRow, standIns := [], harness := (true, "2067271c0583ca5874ac26b177efc5c813fdbc63d42bf094944fb20ec67ed6cc"), looks := false }, kinds := [], alts := [], laidByText := true, laidKinds := [.data, .pinned], laidTests := true, laidLooks := .later }
def StxPushesCardSaid : Prop := Claim7.holds Tryz.pinned (.plain (OpenSpec.ofChange stxPushesSpec)) stxPushesCard

/-- THE TIED CARD OF 'marginalialaw10.StxSame'. -/
def stxSameCard : Claim7 := { stood := { row := stxSameRow, standIns := [], harness := (true, "2067271c0583ca5874ac26b177efc5c813fdbc63d42bf094944fb20ec67ed6cc"), looks := false }, kinds := [], alts := [], laidByText := true, laidKinds := [.data, .pinned], laidTests := true, laidLooks := .later }
def StxSameCardSaid : Prop := Claim7.holds Tryz.pinned (.plain (OpenSpec.ofChange stxSameSpec)) stxSameCard

/-- THE TIED CARD OF 'marginalialaw10.StxLazy'. -/
def stxLazyCard : Claim7 := { stood := { row := stxLazyRow, standIns := [], harness := (true, "2067271c0583ca5874ac26b177efc5c813fdbc63d42bf094944fb20ec67ed6cc"), looks := false }, kinds := [], alts := [], laidByText := true, laidKinds := [.data, .pinned], laidTests := true, laidLooks := .later }
def StxLazyCardSaid : Prop := Claim7.holds Tryz.pinned (.plain (OpenSpec.ofChange stxLazySpec)) stxLazyCard

/-- THE TIED CARD OF 'marginalialaw12.PatChecks'. -/
def patChecksCard : Claim7 := { stood := { row := patChecksRow, standIns := [], harness := (true, "2067271c0583ca5874ac26b177efc5c813fdbc63d42bf094944fb20ec67ed6cc"), looks := false }, kinds := [], alts := [], laidByText := true, laidKinds := [.data, .pinned], laidTests := true, laidLooks := .later }
def PatChecksCardSaid : Prop := Claim7.holds Tryz.pinned (.plain (OpenSpec.ofChange patChecksSpec)) patChecksCard

/-- THE TIED CARD OF 'marginalialaw12.PatMatches'. -/
def patMatchesCard : Claim7 := { stood := { row := patMatchesRow, standIns := [], harness := (true, "2067271c0583ca5874ac26b177efc5c813fdbc63d42bf094944fb20ec67ed6cc"), looks := false }, kinds := [], alts := [], laidByText := true, laidKinds := [.data, .pinned], laidTests := true, laidLooks := .later }
def PatMatchesCardSaid : Prop := Claim7.holds Tryz.pinned (.plain (OpenSpec.ofChange patMatchesSpec)) patMatchesCard

/-- THE TIED CARD OF 'marginalialaw12.PatWild'. -/
def patWildCard : Claim7 := { stood := { row := patWildRow, standIns := [], harness := (true, "2067271c0583ca5874ac26b177efc5c813fdbc63d42bf094944fb20ec67ed6cc"), looks := false }, kinds := [], alts := [], laidByText := true, laidKinds := [.data, .pinned], laidTests := true, laidLooks := .later }
def PatWildCardSaid : Prop := Claim7.holds Tryz.pinned (.plain (OpenSpec.ofChange patWildSpec)) patWildCard

/-- THE TIED CARD OF 'marginalialaw12.PatMany'. -/
def patManyCard : Claim7 := { stood := { row := patManyRow, standIns := [], harness := (true, "2067271c0583ca5874ac26b177efc5c813fdbc63d42bf094944fb20ec67ed6cc"), looks := false }, kinds := [], alts := [], laidByText := true, laidKinds := [.data, .pinned], laidTests := true, laidLooks := .later }
def PatManyCardSaid : Prop := Claim7.holds Tryz.pinned (.plain (OpenSpec.ofChange patManySpec)) patManyCard

/-- THE TIED CARD OF 'marginalialaw12.PatLiterals'. -/
def patLiteralsCard : Claim7 := { stood := { row := patLiteralsRow, standIns := [], harness := (true, "2067271c0583ca5874ac26b177efc5c813fdbc63d42bf094944fb20ec67ed6cc"), looks := false }, kinds := [], alts := [], laidByText := true, laidKinds := [.data, .pinned], laidTests := true, laidLooks := .later }
def PatLiteralsCardSaid : Prop := Claim7.holds Tryz.pinned (.plain (OpenSpec.ofChange patLiteralsSpec)) patLiteralsCard

/-- THE TIED CARD OF 'marginalialaw12.PatNil'. -/
def patNilCard : Claim7 := { stood := { row := patNilRow, standIns := [], harness := (true, "2067271c0583ca5874ac26b177efc5c813fdbc63d42bf094944fb20ec67ed6cc"), looks := false }, kinds := [], alts := [], laidByText := true, laidKinds := [.data, .pinned], laidTests := true, laidLooks := .later }
def PatNilCardSaid : Prop := Claim7.holds Tryz.pinned (.plain (OpenSpec.ofChange patNilSpec)) patNilCard

/-- THE TIED CARD OF 'marginalialaw12.PatDots'. -/
def patDotsCard : Claim7 := { stood := { row := patDotsRow, standIns := [], harness := (true, "2067271c0583ca5874ac26b177efc5c813fdbc63d42bf094944fb20ec67ed6cc"), looks := false }, kinds := [], alts := [], laidByText := true, laidKinds := [.data, .pinned], laidTests := true, laidLooks := .later }
def PatDotsCardSaid : Prop := Claim7.holds Tryz.pinned (.plain (OpenSpec.ofChange patDotsSpec)) patDotsCard

/-- THE SECOND FORM's CARD OF 'marginalialaw10.StxOf'. -/
def stxOfUptoCard : Claim7 := { stood := { row := stxOfUptoRow, standIns := [], harness := (true, "2067271c0583ca5874ac26b177efc5c813fdbc63d42bf094944fb20ec67ed6cc"), looks := false }, kinds := [], alts := [], laidByText := true, laidKinds := [.data, .pinned], laidTests := true, laidLooks := .later }
def StxOfUptoCardSaid : Prop := Claim7.holds Tryz.pinned (.plain (OpenSpec.upto stxOfSpec)) stxOfUptoCard

/-- THE SECOND FORM's CARD OF 'marginalialaw10.StxPushes'. -/
def stxPushesUptoCard : Claim7 := { stood := { row := stxPushesUptoRow, standIns := [], harness := (true, "2067271c0583ca5874ac26b177efc5c813fdbc63d42bf094944fb20ec67ed6cc"), looks := false }, kinds := [], alts := [], laidByText := true, laidKinds := [.data, .pinned], laidTests := true, laidLooks := .later }
def StxPushesUptoCardSaid : Prop := Claim7.holds Tryz.pinned (.plain (OpenSpec.upto stxPushesSpec)) stxPushesUptoCard

/-- THE SECOND FORM's CARD OF 'marginalialaw10.StxSame'. -/
def stxSameUptoCard : Claim7 := { stood := { row := stxSameUptoRow, standIns := [], harness := (true, "2067271c0583ca5874ac26b177efc5c813fdbc63d42bf094944fb20ec67ed6cc"), looks := false }, kinds := [], alts := [], laidByText := true, laidKinds := [.data, .pinned], laidTests := true, laidLooks := .later }
def StxSameUptoCardSaid : Prop := Claim7.holds Tryz.pinned (.plain (OpenSpec.upto stxSameSpec)) stxSameUptoCard

/-- THE SECOND FORM's CARD OF 'marginalialaw10.StxLazy'. -/
def stxLazyUptoCard : Claim7 := { stood := { row := stxLazyUptoRow, standIns := [], harness := (true, "2067271c0583ca5874ac26b177efc5c813fdbc63d42bf094944fb20ec67ed6cc"), looks := false }, kinds := [], alts := [], laidByText := true, laidKinds := [.data, .pinned], laidTests := true, laidLooks := .later }
def StxLazyUptoCardSaid : Prop := Claim7.holds Tryz.pinned (.plain (OpenSpec.upto stxLazySpec)) stxLazyUptoCard

/-- THE SECOND FORM's CARD OF 'marginalialaw12.PatChecks'. -/
def patChecksUptoCard : Claim7 := { stood := { row := patChecksUptoRow, standIns := [], harness := (true, "2067271c0583ca5874ac26b177efc5c813fdbc63d42bf094944fb20ec67ed6cc"), looks := false }, kinds := [], alts := [], laidByText := true, laidKinds := [.data, .pinned], laidTests := true, laidLooks := .later }
def PatChecksUptoCardSaid : Prop := Claim7.holds Tryz.pinned (.plain (OpenSpec.upto patChecksSpec)) patChecksUptoCard

/-- THE SECOND FORM's CARD OF 'marginalialaw12.PatMatches'. -/
def patMatchesUptoCard : Claim7 := { stood := { row := patMatchesUptoRow, standIns := [], harness := (true, "2067271c0583ca5874ac26b177efc5c813fdbc63d42bf094944fb20ec67ed6cc"), looks := false }, kinds := [], alts := [], laidByText := true, laidKinds := [.data, .pinned], laidTests := true, laidLooks := .later }
def PatMatchesUptoCardSaid : Prop := Claim7.holds Tryz.pinned (.plain (OpenSpec.upto patMatchesSpec)) patMatchesUptoCard

/-- THE SECOND FORM's CARD OF 'marginalialaw12.PatWild'. -/
def patWildUptoCard : Claim7 := { stood := { row := patWildUptoRow, standIns := [], harness := (true, "2067271c0583ca5874ac26b177efc5c813fdbc63d42bf094944fb20ec67ed6cc"), looks := false }, kinds := [], alts := [], laidByText := true, laidKinds := [.data, .pinned], laidTests := true, laidLooks := .later }
def PatWildUptoCardSaid : Prop := Claim7.holds Tryz.pinned (.plain (OpenSpec.upto patWildSpec)) patWildUptoCard

/-- THE SECOND FORM's CARD OF 'marginalialaw12.PatMany'. -/
def patManyUptoCard : Claim7 := { stood := { row := patManyUptoRow, standIns := [], harness := (true, "2067271c0583ca5874ac26b177efc5c813fdbc63d42bf094944fb20ec67ed6cc"), looks := false }, kinds := [], alts := [], laidByText := true, laidKinds := [.data, .pinned], laidTests := true, laidLooks := .later }
def PatManyUptoCardSaid : Prop := Claim7.holds Tryz.pinned (.plain (OpenSpec.upto patManySpec)) patManyUptoCard

/-- THE SECOND FORM's CARD OF 'marginalialaw12.PatLiterals'. -/
def patLiteralsUptoCard : Claim7 := { stood := { row := patLiteralsUptoRow, standIns := [], harness := (true, "2067271c0583ca5874ac26b177efc5c813fdbc63d42bf094944fb20ec67ed6cc"), looks := false }, kinds := [], alts := [], laidByText := true, laidKinds := [.data, .pinned], laidTests := true, laidLooks := .later }
def PatLiteralsUptoCardSaid : Prop := Claim7.holds Tryz.pinned (.plain (OpenSpec.upto patLiteralsSpec)) patLiteralsUptoCard

/-- THE SECOND FORM's CARD OF 'marginalialaw12.PatNil'. -/
def patNilUptoCard : Claim7 := { stood := { row := patNilUptoRow, standIns := [], harness := (true, "2067271c0583ca5874ac26b177efc5c813fdbc63d42bf094944fb20ec67ed6cc"), looks := false }, kinds := [], alts := [], laidByText := true, laidKinds := [.data, .pinned], laidTests := true, laidLooks := .later }
def PatNilUptoCardSaid : Prop := Claim7.holds Tryz.pinned (.plain (OpenSpec.upto patNilSpec)) patNilUptoCard

/-- THE SECOND FORM's CARD OF 'marginalialaw12.PatDots'. -/
def patDotsUptoCard : Claim7 := { stood := { row := patDotsUptoRow, standIns := [], harness := (true, "2067271c0583ca5874ac26b177efc5c813fdbc63d42bf094944fb20ec67ed6cc"), looks := false }, kinds := [], alts := [], laidByText := true, laidKinds := [.data, .pinned], laidTests := true, laidLooks := .later }
def PatDotsUptoCardSaid : Prop := Claim7.holds Tryz.pinned (.plain (OpenSpec.upto patDotsSpec)) patDotsUptoCard
end Rows
end Go.Proofs.YtbfcbicbeagjkaaGreatDoor
