/-
  DERIVED. GIVEN WITH THE SEED: THE CARDS: each row of YtbfcbicbeagjkaaDoorRows.lean that lists a variable, with what it lists TIED to the program's text (the seventh form; the later family's looks); each row that meets fmt, with fmt's text TOLD by the authors' own Lean function (tested against real Go, not proved from fmt's source: count such statements apart). THE CARD IS WHAT COUNTS. Prove the row's statement (the work); the ties are given (YtbfcbicbeagjkaaDoorTie.lean); close each card by the builder's one call (the guide's Derived/Test/ToyasCard.lean, 'card_holds'). Laid BY PROGRAM, IN A SANDBOX (cutbox-door.mjs). By AI agents, Wed Nov 11 2026. No macro, syntax, notation, axiom, sorry.
-/
import Derived.Test.YtbfcbicbeagjkaaDoorRows
import GoSem.ClaimSeven
namespace Go.Proofs.YtbfcbicbeagjkaaDoor
namespace Rows

/-- THE TIED CARD OF 'marginalialaw10.StxKeeps'. -/
def stxKeepsCard : Claim7 := { stood := { row := stxKeepsRow, standIns := [], harness := (true, "ad59da9e1fba01a51baeee362da9d78e135a6d976b82bbfd21b695eb38b1fa3f"), looks := false }, kinds := [], alts := [], laidByText := true, laidKinds := [.data, .pinned], laidTests := true, laidLooks := .later }
def StxKeepsCardSaid : Prop := Claim7.holds Tryd.pinned (.plain (OpenSpec.ofChange stxKeepsSpec)) stxKeepsCard

/-- THE SECOND FORM's CARD OF 'marginalialaw10.StxKeeps'. -/
def stxKeepsUptoCard : Claim7 := { stood := { row := stxKeepsUptoRow, standIns := [], harness := (true, "ad59da9e1fba01a51baeee362da9d78e135a6d976b82bbfd21b695eb38b1fa3f"), looks := false }, kinds := [], alts := [], laidByText := true, laidKinds := [.data, .pinned], laidTests := true, laidLooks := .later }
def StxKeepsUptoCardSaid : Prop := Claim7.holds Tryd.pinned (.plain (OpenSpec.upto stxKeepsSpec)) stxKeepsUptoCard
end Rows
end Go.Proofs.YtbfcbicbeagjkaaDoor
