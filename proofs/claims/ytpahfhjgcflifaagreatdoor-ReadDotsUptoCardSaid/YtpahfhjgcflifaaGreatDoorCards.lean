/-
  DERIVED. GIVEN WITH THE SEED: THE CARDS: each row of YtpahfhjgcflifaaGreatDoorRows.lean that lists a variable, with what it lists TIED to the program's text (the seventh form; the later family's looks); each row that meets fmt, with fmt's text TOLD by the authors' own Lean function (tested against real Go, not proved from fmt's source: count such statements apart). THE CARD IS WHAT COUNTS. Prove the row's statement (the work); the ties are given (YtpahfhjgcflifaaGreatDoorTie.lean); close each card by the builder's one call (the guide's Derived/Test/ToyasCard.lean, 'card_holds'). Laid BY PROGRAM, IN A SANDBOX (cutbox-door.mjs). By AI agents, Wed Nov 11 2026. No macro, syntax, notation, axiom, sorry.
-/
import Derived.Test.YtpahfhjgcflifaaGreatDoorRows
import GoSem.ClaimSeven
namespace Go.Proofs.YtpahfhjgcflifaaGreatDoor
namespace Rows

/-- THE TIED CARD OF 'marginalialaw04.ReadSound'. -/
def readSoundCard : Claim7 := { stood := { row := readSoundRow, standIns := [], harness := (true, "875ee3f122a0f2780305062d90b6c9a92f32ad0d731e202bd599986c87091447"), looks := true }, kinds := [], alts := [], laidByText := true, laidKinds := [.data, .data, .data, .pinned, .pinned], laidTests := true, laidLooks := .later }
def ReadSoundCardSaid : Prop := Claim7.holds Tryz.pinned (.plain (OpenSpec.ofChange readSoundSpec)) readSoundCard

/-- THE TIED CARD OF 'marginalialaw04.ReadSame'. -/
def readSameCard : Claim7 := { stood := { row := readSameRow, standIns := [], harness := (true, "875ee3f122a0f2780305062d90b6c9a92f32ad0d731e202bd599986c87091447"), looks := true }, kinds := [], alts := [], laidByText := true, laidKinds := [.data, .data, .data, .pinned, .pinned], laidTests := true, laidLooks := .later }
def ReadSameCardSaid : Prop := Claim7.holds Tryz.pinned (.plain (OpenSpec.ofChange readSameSpec)) readSameCard

/-- THE TIED CARD OF 'marginalialaw04.ReadGives'. -/
def readGivesCard : Claim7 := { stood := { row := readGivesRow, standIns := [], harness := (true, "875ee3f122a0f2780305062d90b6c9a92f32ad0d731e202bd599986c87091447"), looks := true }, kinds := [], alts := [], laidByText := true, laidKinds := [.data, .data, .data, .pinned, .pinned], laidTests := true, laidLooks := .later }
def ReadGivesCardSaid : Prop := Claim7.holds Tryz.pinned (.plain (OpenSpec.ofChange readGivesSpec)) readGivesCard

/-- THE TIED CARD OF 'marginalialaw04.ReadDeep'. -/
def readDeepCard : Claim7 := { stood := { row := readDeepRow, standIns := [], harness := (true, "875ee3f122a0f2780305062d90b6c9a92f32ad0d731e202bd599986c87091447"), looks := true }, kinds := [], alts := [], laidByText := true, laidKinds := [.data, .data, .data, .pinned, .pinned], laidTests := true, laidLooks := .later }
def ReadDeepCardSaid : Prop := Claim7.holds Tryz.pinned (.plain (OpenSpec.ofChange readDeepSpec)) readDeepCard

/-- THE TIED CARD OF 'marginalialaw04.ReadShorts'. -/
def readShortsCard : Claim7 := { stood := { row := readShortsRow, standIns := [], harness := (true, "875ee3f122a0f2780305062d90b6c9a92f32ad0d731e202bd599986c87091447"), looks := true }, kinds := [], alts := [], laidByText := true, laidKinds := [.data, .data, .data, .pinned, .pinned], laidTests := true, laidLooks := .later }
def ReadShortsCardSaid : Prop := Claim7.holds Tryz.pinned (.plain (OpenSpec.ofChange readShortsSpec)) readShortsCard

/-- THE TIED CARD OF 'marginalialaw04.ReadDots'. -/
def readDotsCard : Claim7 := { stood := { row := readDotsRow, standIns := [], harness := (true, "875ee3f122a0f2780305062d90b6c9a92f32ad0d731e202bd599986c87091447"), looks := true }, kinds := [], alts := [], laidByText := true, laidKinds := [.data, .data, .data, .pinned, .pinned], laidTests := true, laidLooks := .later }
def ReadDotsCardSaid : Prop := Claim7.holds Tryz.pinned (.plain (OpenSpec.ofChange readDotsSpec)) readDotsCard

/-- THE TIED CARD OF 'marginalialaw05.PrintBack'. -/
def printBackCard : Claim7 := { stood := { row := printBackRow, standIns := [], harness := (true, "875ee3f122a0f2780305062d90b6c9a92f32ad0d731e202bd599986c87091447"), looks := true }, kinds := [], alts := [], laidByText := true, laidKinds := [.data, .data, .data, .data, .data, .data, .pinned, .pinned], laidTests := true, laidLooks := .later }
def PrintBackCardSaid : Prop := Claim7.holds Tryz.pinned (.plain (OpenSpec.ofChange printBackSpec)) printBackCard

/-- THE SECOND FORM's CARD OF 'marginalialaw04.ReadSound'. -/
def readSoundUptoCard : Claim7 := { stood := { row := readSoundUptoRow, standIns := [], harness := (true, "875ee3f122a0f2780305062d90b6c9a92f32ad0d731e202bd599986c87091447"), looks := true }, kinds := [], alts := [], laidByText := true, laidKinds := [.data, .data, .data, .pinned, .pinned], laidTests := true, laidLooks := .later }
def ReadSoundUptoCardSaid : Prop := Claim7.holds Tryz.pinned (.plain (OpenSpec.upto readSoundSpec)) readSoundUptoCard

/-- THE SECOND FORM's CARD OF 'marginalialaw04.ReadSame'. -/
def readSameUptoCard : Claim7 := { stood := { row := readSameUptoRow, standIns := [], harness := (true, "875ee3f122a0f2780305062d90b6c9a92f32ad0d731e202bd599986c87091447"), looks := true }, kinds := [], alts := [], laidByText := true, laidKinds := [.data, .data, .data, .pinned, .pinned], laidTests := true, laidLooks := .later }
def ReadSameUptoCardSaid : Prop := Claim7.holds Tryz.pinned (.plain (OpenSpec.upto readSameSpec)) readSameUptoCard

/-- THE SECOND FORM's CARD OF 'marginalialaw04.ReadGives'. -/
def readGivesUptoCard : Claim7 := { stood := { row := readGivesUptoRow, standIns := [], harness := (true, "875ee3f122a0f2780305062d90b6c9a92f32ad0d731e202bd599986c87091447"), looks := true }, kinds := [], alts := [], laidByText := true, laidKinds := [.data, .data, .data, .pinned, .pinned], laidTests := true, laidLooks := .later }
def ReadGivesUptoCardSaid : Prop := Claim7.holds Tryz.pinned (.plain (OpenSpec.upto readGivesSpec)) readGivesUptoCard

/-- THE SECOND FORM's CARD OF 'marginalialaw04.ReadDeep'. -/
def readDeepUptoCard : Claim7 := { stood := { row := readDeepUptoRow, standIns := [], harness := (true, "875ee3f122a0f2780305062d90b6c9a92f32ad0d731e202bd599986c87091447"), looks := true }, kinds := [], alts := [], laidByText := true, laidKinds := [.data, .data, .data, .pinned, .pinned], laidTests := true, laidLooks := .later }
def ReadDeepUptoCardSaid : Prop := Claim7.holds Tryz.pinned (.plain (OpenSpec.upto readDeepSpec)) readDeepUptoCard

/-- THE SECOND FORM's CARD OF 'marginalialaw04.ReadShorts'. -/
def readShortsUptoCard : Claim7 := { stood := { row := readShortsUptoRow, standIns := [], harness := (true, "875ee3f122a0f2780305062d90b6c9a92f32ad0d731e202bd599986c87091447"), looks := true }, kinds := [], alts := [], laidByText := true, laidKinds := [.data, .data, .data, .pinned, .pinned], laidTests := true, laidLooks := .later }
def ReadShortsUptoCardSaid : Prop := Claim7.holds Tryz.pinned (.plain (OpenSpec.upto readShortsSpec)) readShortsUptoCard

/-- THE SECOND FORM's CARD OF 'marginalialaw04.ReadDots'. -/
def readDotsUptoCard : Claim7 := { stood := { row := readDotsUptoRow, standIns := [], harness := (true, "875ee3f122a0f2780305062d90b6c9a92f32ad0d731e202bd599986c87091447"), looks := true }, kinds := [], alts := [], laidByText := true, laidKinds := [.data, .data, .data, .pinned, .pinned], laidTests := true, laidLooks := .later }
def ReadDotsUptoCardSaid : Prop := Claim7.holds Tryz.pinned (.plain (OpenSpec.upto readDotsSpec)) readDotsUptoCard

/-- THE SECOND FORM's CARD OF 'marginalialaw05.PrintBack'. -/
def printBackUptoCard : Claim7 := { stood := { row := printBackUptoRow, standIns := [], harness := (true, "875ee3f122a0f2780305062d90b6c9a92f32ad0d731e202bd599986c87091447"), looks := true }, kinds := [], alts := [], laidByText := true, laidKinds := [.data, .data, .data, .data, .data, .data, .pinned, .pinned], laidTests := true, laidLooks := .later }
def PrintBackUptoCardSaid : Prop := Claim7.holds Tryz.pinned (.plain (OpenSpec.upto printBackSpec)) printBackUptoCard
end Rows
end Go.Proofs.YtpahfhjgcflifaaGreatDoor
