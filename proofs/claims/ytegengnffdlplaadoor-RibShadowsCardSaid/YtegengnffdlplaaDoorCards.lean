/-
  DERIVED. GIVEN WITH THE SEED: THE CARDS: each row of YtegengnffdlplaaDoorRows.lean that lists a variable, with what it lists TIED to the program's text (the seventh form; the later family's looks); each row that meets fmt, with fmt's text TOLD by the authors' own Lean function (tested against real Go, not proved from fmt's source: count such statements apart). THE CARD IS WHAT COUNTS. Prove the row's statement (the work); the ties are given (YtegengnffdlplaaDoorTie.lean); close each card by the builder's one call (the guide's Derived/Test/ToyasCard.lean, 'card_holds'). Laid BY PROGRAM, IN A SANDBOX (cutbox-door.mjs). By AI agents, Wed Nov 11 2026. No macro, syntax, notation, axiom, sorry.
-/
import Derived.Test.YtegengnffdlplaaDoorRows
import GoSem.ClaimSeven
namespace Go.Proofs.YtegengnffdlplaaDoor
namespace Rows

/-- THE TIED CARD OF 'marginalialaw11.RibShadows'. -/
def ribShadowsCard : Claim7 := { stood := { row := ribShadowsRow, standIns := [], harness := (true, "f20402ac69a1dced15361ac4eadd8bc862bb54bcffb4986b7e2a8ec04e4bff0f"), looks := false }, kinds := [], alts := [], laidByText := true, laidKinds := [.data, .pinned], laidTests := true, laidLooks := .later }
def RibShadowsCardSaid : Prop := Claim7.holds Tryd.pinned (.plain (OpenSpec.ofChange ribShadowsSpec)) ribShadowsCard

/-- THE TIED CARD OF 'marginalialaw11.RibMany'. -/
def ribManyCard : Claim7 := { stood := { row := ribManyRow, standIns := [], harness := (true, "f20402ac69a1dced15361ac4eadd8bc862bb54bcffb4986b7e2a8ec04e4bff0f"), looks := false }, kinds := [], alts := [], laidByText := true, laidKinds := [.data, .pinned], laidTests := true, laidLooks := .later }
def RibManyCardSaid : Prop := Claim7.holds Tryd.pinned (.plain (OpenSpec.ofChange ribManySpec)) ribManyCard

/-- THE SECOND FORM's CARD OF 'marginalialaw11.RibShadows'. -/
def ribShadowsUptoCard : Claim7 := { stood := { row := ribShadowsUptoRow, standIns := [], harness := (true, "f20402ac69a1dced15361ac4eadd8bc862bb54bcffb4986b7e2a8ec04e4bff0f"), looks := false }, kinds := [], alts := [], laidByText := true, laidKinds := [.data, .pinned], laidTests := true, laidLooks := .later }
def RibShadowsUptoCardSaid : Prop := Claim7.holds Tryd.pinned (.plain (OpenSpec.upto ribShadowsSpec)) ribShadowsUptoCard

/-- THE SECOND FORM's CARD OF 'marginalialaw11.RibMany'. -/
def ribManyUptoCard : Claim7 := { stood := { row := ribManyUptoRow, standIns := [], harness := (true, "f20402ac69a1dced15361ac4eadd8bc862bb54bcffb4986b7e2a8ec04e4bff0f"), looks := false }, kinds := [], alts := [], laidByText := true, laidKinds := [.data, .pinned], laidTests := true, laidLooks := .later }
def RibManyUptoCardSaid : Prop := Claim7.holds Tryd.pinned (.plain (OpenSpec.upto ribManySpec)) ribManyUptoCard
end Rows
end Go.Proofs.YtegengnffdlplaaDoor
