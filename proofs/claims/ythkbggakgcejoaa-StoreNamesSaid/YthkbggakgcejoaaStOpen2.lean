/- A slice of strings that came in. No walk here. -/
import Derived.Test.YthkbggakgcejoaaStOpen
import Derived.SliceStrings
namespace Go.Proofs.Ythkbggakgcejoaa
open Go.ChangeShapes Go.WideShapes Go.ChangeAt Go.RowKit

set_option maxRecDepth 100000 in
theorem cellsStr : Try.prog.cellsOf 9 = 1 := by kernel_rfl
set_option maxRecDepth 100000 in
theorem open_strs {H : Type} {enc : TypeId × Value → H} {W : World} {base : Nat} {v : Value} {d : DataW H} {p : List MemPlace} (hv : Value.okWide Try.prog W .any base 30 v)
    (h : DataW.Trod enc Try.prog W 0 (fun _ => true) true 30 v d p) : ∃ l : List ByteArray, RowV W v l.length 1 (l.map Value.string) := by
  obtain ⟨a0, l0, c0, rfl⟩ := okWide_slice Try.underlying30 hv
  obtain ⟨fuel, hf⟩ := h
  rcases open_strings Try.underlying30 Try.underlying9 cellsStr hf with ⟨e3, _⟩ | ⟨ad, len, cap, ss, e3, _, hlc, hcm, hss, _, hcell, _⟩
  · simp only [Value.cells, List.cons.injEq, and_true] at e3
    rw [e3]
    exact ⟨[], rfl, by simp, none, 0, rfl, by simp, .inl ⟨rfl, fun _ => rfl⟩⟩
  · simp only [Value.cells, List.cons.injEq, and_true] at e3
    rw [e3]
    simp only [if_true] at hss
    have hl : (ss.take len).length = len := by rw [List.length_take]; omega
    refine ⟨ss.take len, by simp, by omega, some ad, cap, by rw [hl], by omega, ?_⟩
    by_cases h00 : len = 0
    · exact .inl ⟨by omega, fun h => by cases h⟩
    · have hc0 := hcell 0 (by omega)
      obtain ⟨b, off, spot⟩ := ad
      have hspot : spot = none := by simpa [Addr.add] using World.cell?_spot hc0
      subst hspot
      refine .inr ⟨b, off, rfl, World.block_lt_of_cell? W _ (by rw [Addr.add_mid] at hc0; exact hc0), fun j u hu => ?_⟩
      have hj : j < (ss.take len).length := by simpa using (List.getElem?_eq_some_iff.1 hu).1
      have hc := hcell j (by omega)
      rw [Addr.add_mid] at hc
      rw [hc]
      simp only [List.getElem?_map, List.getElem?_take, if_pos (show j < len by omega), List.getElem?_eq_getElem (show j < ss.length by omega), Option.map_some, Option.some.injEq] at hu
      rw [← hu, List.getD_eq_getElem?_getD, List.getElem?_eq_getElem (show j < ss.length by omega)]
      rfl
end Go.Proofs.Ythkbggakgcejoaa
