/-
  DERIVED. GIVEN WITH THE SEED: THE CARDS: each row of YtegengnffdlplaaGreatDoorRows.lean that lists a variable, with what it lists TIED to the program's text (the seventh form; the later family's looks); each row that meets fmt, with fmt's text TOLD by the authors' own Lean function (tested against real Go, not proved from fmt's source: count such statements apart). THE CARD IS WHAT COUNTS. Prove the row's statement (the work); the ties are given (YtegengnffdlplaaGreatDoorTie.lean); close each card by the builder's one call (the guide's Derived/Test/ToyasCard.lean, 'card_holds'). Laid BY PROGRAM, IN A SANDBOX (cutbox-door.mjs). By AI agents, Wed Nov 11 2026. No macro, syntax, notation, axiom, sorry.
-/
import Derived.Test.YtegengnffdlplaaGreatDoorRows
import GoSem.ClaimSeven
namespace Go.Proofs.YtegengnffdlplaaGreatDoor
namespace Rows

/-- THE TIED CARD OF 'marginalialaw11.RibFinds'. -/
def ribFindsCard : Claim7 := { stood := { row := ribFindsRow, standIns := [], harness := (true, "440f84b426860e24426977c29d87b1abd35e1bd7c2a8cfddd28a52dfae9dbb2e"), looks := true }, kinds := [], alts := [], laidByText := true, laidKinds := [.data, .pinned], laidTests := true, laidLooks := .later }
def RibFindsCardSaid : Prop := Claim7.holds Tryz.pinned (.plain (OpenSpec.ofChange ribFindsSpec)) ribFindsCard

/-- THE TIED CARD OF 'marginalialaw11.RibApart'. -/
def ribApartCard : Claim7 := { stood := { row := ribApartRow, standIns := [], harness := (true, "440f84b426860e24426977c29d87b1abd35e1bd7c2a8cfddd28a52dfae9dbb2e"), looks := true }, kinds := [], alts := [], laidByText := true, laidKinds := [.data, .pinned], laidTests := true, laidLooks := .later }
def RibApartCardSaid : Prop := Claim7.holds Tryz.pinned (.plain (OpenSpec.ofChange ribApartSpec)) ribApartCard

/-- THE TIED CARD OF 'marginalialaw11.RibBound'. -/
def ribBoundCard : Claim7 := { stood := { row := ribBoundRow, standIns := [], harness := (true, "440f84b426860e24426977c29d87b1abd35e1bd7c2a8cfddd28a52dfae9dbb2e"), looks := true }, kinds := [], alts := [], laidByText := true, laidKinds := [.data, .pinned], laidTests := true, laidLooks := .later }
def RibBoundCardSaid : Prop := Claim7.holds Tryz.pinned (.plain (OpenSpec.ofChange ribBoundSpec)) ribBoundCard

/-- THE SECOND FORM's CARD OF 'marginalialaw11.RibFinds'. -/
def ribFindsUptoCard : Claim7 := { stood := { row := ribFindsUptoRow, standIns := [], harness := (true, "440f84b426860e24426977c29d87b1abd35e1bd7c2a8cfddd28a52dfae9dbb2e"), looks := true }, kinds := [], alts := [], laidByText := true, laidKinds := [.data, .pinned], laidTests := true, laidLooks := .later }
def RibFindsUptoCardSaid : Prop := Claim7.holds Tryz.pinned (.plain (OpenSpec.upto ribFindsSpec)) ribFindsUptoCard

/-- THE SECOND FORM's CARD OF 'marginalialaw11.RibApart'. -/
def ribApartUptoCard : Claim7 := { stood := { row := ribApartUptoRow, standIns := [], harness := (true, "440f84b426860e24426977c29d87b1abd35e1bd7c2a8cfddd28a52dfae9dbb2e"), looks := true }, kinds := [], alts := [], laidByText := true, laidKinds := [.data, .pinned], laidTests := true, laidLooks := .later }
def RibApartUptoCardSaid : Prop := Claim7.holds Tryz.pinned (.plain (OpenSpec.upto ribApartSpec)) ribApartUptoCard

/-- THE SECOND FORM's CARD OF 'marginalialaw11.RibBound'. -/
def ribBoundUptoCard : Claim7 := { stood := { row := ribBoundUptoRow, standIns := [], harness := (true, "440f84b426860e24426977c29d87b1abd35e1bd7c2a8cfddd28a52dfae9dbb2e"), looks := true }, kinds := [], alts := [], laidByText := true, laidKinds := [.data, .pinned], laidTests := true, laidLooks := .later }
def RibBoundUptoCardSaid : Prop := Claim7.holds Tryz.pinned (.plain (OpenSpec.upto ribBoundSpec)) ribBoundUptoCard
end Rows
end Go.Proofs.YtegengnffdlplaaGreatDoor
