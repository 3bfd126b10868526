/- ref.sum, ref.give -/
import Derived.Test.YtocladhggcaokaaGreatDoorRPlus
import Derived.Test.YtocladhggcaokaaGreatDoorRTrim
import Derived.Test.YtocladhggcaokaaGreatDoorAdd
namespace Go.Proofs.YtocladhggcaokaaGreatDoor
open Go.RowKit

/-- Digits with a sign. -/
def sg (neg : Bool) (N : Nat) : Int := if neg then -(N : Int) else (N : Int)

/-- What sum answers. -/
def SumPost (N : Int) (w : World) (e : Ending) (w' : World) : Prop :=
  ∃ n v ds, e = .returned (.tuple #[.bool n, v]) ∧ Sl .u8 w' v ds ∧ Db ds ∧ sg n (dval ds) = N ∧ Below w.heap.size w w'

/-- A slice of numbers does not lie in a box of a sign and a slice: so it stays while the box is written. -/
theorem give_sl {k : IntKind} {w' : World} {b i j : Nat} {a c : Value} {o : Obj} {v : Value} {rs : List Nat} {n0 : Bool} {a0 : Option Addr} {l0 c0 : Nat} {e : TypeId} (h : Sl k w' v rs) (hr : w'.heap[b]? = some (.cells #[.bool n0, .slice a0 l0 c0] e (0, 0))) :
    Sl k (((w'.alloc o).setCell ⟨b, i, none⟩ a).setCell ⟨b, j, none⟩ c) v rs := by
  obtain ⟨hm, ao, cap, hv, hc, h⟩ := h
  refine ⟨hm, ao, cap, hv, hc, ?_⟩
  rcases h with h | ⟨g, off, ha, hlt, hcell⟩
  · exact .inl h
  · by_cases hne : g = b
    · subst hne
      by_cases h0 : rs = []
      · exact .inr ⟨g, off, ha, by simp; omega, fun j hj => by rw [h0] at hj; simp at hj⟩
      · exfalso
        have hl : 0 < rs.length := List.length_pos_iff.2 h0
        have := hcell 0 hl
        rw [cell_heap hr] at this
        rcases (by omega : off + 0 = 0 ∨ off + 0 = 1 ∨ 2 ≤ off + 0) with e | e | e
        · rw [e] at this; simp at this
        · rw [e] at this; simp at this
        · rw [Array.getElem?_eq_none (by simpa using e)] at this; cases this
    · refine .inr ⟨g, off, ha, by simp; omega, fun j hj => ?_⟩
      rw [cell_other (by simpa using hne), cell_other (by simpa using hne), World.cell?_of_block (w := w') (Below.heap_alloc _ _ _ hlt)]
      exact hcell j hj

end Go.Proofs.YtocladhggcaokaaGreatDoor
