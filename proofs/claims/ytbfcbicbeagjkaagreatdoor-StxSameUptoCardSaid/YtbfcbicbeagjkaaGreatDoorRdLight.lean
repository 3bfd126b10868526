/- x -/
import Derived.Test.YtbfcbicbeagjkaaGreatDoorTkSc
import Derived.Test.YtbfcbicbeagjkaaGreatDoorUDec
import Derived.Deep.RegionHeld3
import Derived.Test.YtbfcbicbeagjkaaGreatDoorTkAtom
import Derived.Test.YtbfcbicbeagjkaaGreatDoorUEncMath
import Derived.StillTailTactics
import Derived.Deep.MidRow
import Derived.Deep.Cut
import Derived.Laws.AppendOwn
import Derived.Defers
import Derived.Recover
import Derived.Laws.Pointers
import Derived.Test.YtbfcbicbeagjkaaGreatDoorRdMath
import Derived.Test.YtbfcbicbeagjkaaGreatDoorDm
import Derived.Test.YtbfcbicbeagjkaaGreatDoorDmOwnP
import Derived.Test.YtbfcbicbeagjkaaGreatDoorWpAssoc
namespace Go.Proofs.YtbfcbicbeagjkaaGreatDoor
open Go.RowKit
end Go.Proofs.YtbfcbicbeagjkaaGreatDoor
namespace Go.Proofs.YtbfcbicbeagjkaaGreatDoor
open Go.RowKit
end Go.Proofs.YtbfcbicbeagjkaaGreatDoor
namespace Go.Proofs.YtbfcbicbeagjkaaGreatDoor
open Go.RowKit
end Go.Proofs.YtbfcbicbeagjkaaGreatDoor
namespace Go.Proofs.YtbfcbicbeagjkaaGreatDoor
open Go.RowKit
end Go.Proofs.YtbfcbicbeagjkaaGreatDoor
namespace Go.Proofs.YtbfcbicbeagjkaaGreatDoor
open Go.RowKit
end Go.Proofs.YtbfcbicbeagjkaaGreatDoor
namespace Go.Proofs.YtbfcbicbeagjkaaGreatDoor
open Go.RowKit
end Go.Proofs.YtbfcbicbeagjkaaGreatDoor
namespace Go.Proofs.YtbfcbicbeagjkaaGreatDoor
open Go.RowKit
end Go.Proofs.YtbfcbicbeagjkaaGreatDoor
namespace Go.Proofs.YtbfcbicbeagjkaaGreatDoor
open Go.RowKit
end Go.Proofs.YtbfcbicbeagjkaaGreatDoor
namespace Go.Proofs.YtbfcbicbeagjkaaGreatDoor
open Go.RowKit
end Go.Proofs.YtbfcbicbeagjkaaGreatDoor
namespace Go.Proofs.YtbfcbicbeagjkaaGreatDoor
open Go.RowKit
def NU (v : Value) : Prop := ∀ x, v ≠ .int .u32 x
def OwnQ (w : World) (base : Nat) (e : TypeId) (size : Nat) (v : Value) (n : Nat) (xs : List Value) : Prop :=
 xs.length = n * size ∧
 ((v = .slice none 0 0 ∧ n = 0) ∨
  ∃ g cap cur, v = .slice (some ⟨g, 0, none⟩) n cap ∧ base ≤ g ∧ w.heap[g]? = some (.cells cur e (0, 0)) ∧ n ≤ cap ∧ cap ≤ maxLen ∧ cur.size = cap * size ∧ cur.toList.take (n * size) = xs ∧ ∀ u ∈ cur.toList.drop (n * size), NU u)
section
variable {P : Program} (w : World)
end
end Go.Proofs.YtbfcbicbeagjkaaGreatDoor
namespace Go.Proofs.YtbfcbicbeagjkaaGreatDoor
open Go.RowKit
theorem parA_ok {s : ByteArray} (h : (parA s).2.2 = true) : okA s := by
 unfold parA at h
 split at h
 . rename_i hx
   have h2 := hx.choose_spec
   rcases h2 with h2 | h2
   . exact h2.1
   . rw [h2.1] at h; cases h
 . cases h
end Go.Proofs.YtbfcbicbeagjkaaGreatDoor
namespace Go.Proofs.YtbfcbicbeagjkaaGreatDoor
open Go.RowKit
end Go.Proofs.YtbfcbicbeagjkaaGreatDoor
namespace Go.Proofs.YtbfcbicbeagjkaaGreatDoor
open Go.RowKit
end Go.Proofs.YtbfcbicbeagjkaaGreatDoor
namespace Go.Proofs.YtbfcbicbeagjkaaGreatDoor
open Go.RowKit
end Go.Proofs.YtbfcbicbeagjkaaGreatDoor
namespace Go.Proofs.YtbfcbicbeagjkaaGreatDoor
open Go.RowKit
end Go.Proofs.YtbfcbicbeagjkaaGreatDoor
