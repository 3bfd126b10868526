/- RibBound: who binds one binds the other just if both have one name and the same marks. Of any two identifiers. -/
import Derived.Test.YtegengnffdlplaaGreatDoorRbRef
namespace Go.Proofs.YtegengnffdlplaaGreatDoor
open Go.RowKit

/-- A piece of syntax that lies somewhere. -/
def isOw (D : Sx) : Value → World → Prop := fun v W => ∃ us, v = .agg us.toArray ∧ SLay W D us
theorem isOw_stays (D : Sx) : Stays (isOw D) := fun _ _ _ hb ⟨us, h1, h2⟩ => ⟨us, h1, h2.keep hb⟩

end Go.Proofs.YtegengnffdlplaaGreatDoor
