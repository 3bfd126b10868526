/- Ints that came in, opened. -/
import Derived.Test.YtmbhkhjoibibnaaDoorUOpen
import Derived.Test.YtmbhkhjoibibnaaDoorUEncMath
namespace Go.Proofs.YtmbhkhjoibibnaaDoor
open Go.ChangeShapes Go.WideShapes Go.ChangeAt Go.RowKit

set_option maxRecDepth 100000 in
theorem open_intsl {H : Type} {enc : TypeId × Value → H} {W : World} {base : Nat} {v : Value} {d : DataW H} {p : List MemPlace} (hv : Value.okWide Tryd.prog W .any base 23 v)
    (h : DataW.Trod enc Tryd.prog W 0 (fun _ => true) true 23 v d p) : ∃ zs, SlV W v (intCells zs) := by
  obtain ⟨a0, l0, c0, rfl⟩ := okWide_slice Tryd.underlying23 hv
  obtain ⟨m, hm⟩ := h
  rcases open_ints Tryd.underlying23 Tryd.underlying3 cellsI hm with ⟨e1, _⟩ | ⟨a, len, cap, zs, e1, _, hl, hcm, hz, hx, hcell, hwz⟩
  · simp only [Value.cells, List.cons.injEq, and_true] at e1
    rw [e1]
    exact ⟨[], by simp [intCells], none, 0, rfl, by simp [intCells], .inl ⟨rfl, fun _ => rfl⟩⟩
  · simp only [Value.cells, List.cons.injEq, and_true] at e1
    rw [e1]
    simp only [if_true] at hz
    have hlen : (intCells (zs.take len)).length = len := by rw [intCells_len]; simp; omega
    refine ⟨zs.take len, by rw [hlen]; omega, some a, cap, by rw [hlen], by rw [hlen]; exact hl, ?_⟩
    by_cases h0 : len = 0
    · subst h0
      exact .inl ⟨by simp [intCells], fun h => by cases h⟩
    · obtain ⟨b, off, rfl, hc⟩ := ints_at hcell (by omega)
      refine .inr ⟨b, off, rfl, World.block_lt_of_cell? W _ (hc 0 (by omega)), fun j u hu => ?_⟩
      have hj : j < len := by rw [← hlen]; exact (List.getElem?_eq_some_iff.1 hu).1
      rw [hc j (by omega), ← hu]
      simp [intCells, hj, show j < zs.length by omega]
end Go.Proofs.YtmbhkhjoibibnaaDoor
