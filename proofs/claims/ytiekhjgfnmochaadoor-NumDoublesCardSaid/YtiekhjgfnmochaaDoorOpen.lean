/- A number that came in, opened. -/
import Derived.Test.YtiekhjgfnmochaaDoorLaid
namespace Go.Proofs.YtiekhjgfnmochaaDoor
open Go.ChangeShapes Go.WideShapes Go.ChangeAt Go.RowKit

set_option maxRecDepth 100000 in
theorem open_intv {H : Type} {enc : TypeId × Value → H} {W : World} {base : Nat} {v : Value} {d : DataW H} {p : List MemPlace} (hv : Value.okWide Tryd.prog W .any base 24 v)
    (h : DataW.Trod enc Tryd.prog W 0 (fun _ => true) true 24 v d p) :
    ∃ n a c xs, v = .agg #[.bool n, .slice a xs.length c] ∧ Sl .u32 W (.slice a xs.length c) xs ∧ ∀ i, limb xs i < 4294967296 := by
  obtain ⟨c0, c1, y0, y1, m, rfl, _, _, hy0, hy1⟩ := Go.Joins.open_agg2 Tryd.underlying24 (by kernel_rfl) cellsInt hv h
  obtain ⟨n, e0, _⟩ := DataW.trod_bool Tryd.underlying4 hy0
  simp only [List.cons.injEq, and_true] at e0
  subst e0
  rcases open_ints Tryd.underlying22 Tryd.underlying52 cellsU32 hy1 with ⟨e1, _⟩ | ⟨a, len, cap, zs, e1, _, hl, hm, hz, _, hcell, hwz⟩
  · simp only [List.cons.injEq, and_true] at e1
    subst e1
    exact ⟨n, none, 0, [], rfl, Sl.nil _ _, fun i => by rw [limb_out (by simp)]; omega⟩
  · simp only [List.cons.injEq, and_true] at e1
    subst e1
    simp only [if_true] at hz
    have hnn := range_u32 hwz
    have hlen : ((zs.take len).map Int.toNat).length = len := by simp; omega
    have hlimb : ∀ j, j < len → ((limb ((zs.take len).map Int.toNat) j : Nat) : Int) = zs.getD j 0 := fun j hj => by
      have := (hnn j).1
      unfold limb
      simp only [List.getD_eq_getElem?_getD, List.getElem?_map, List.getElem?_take, if_pos hj]
      rw [List.getElem?_eq_getElem (by omega)] at this ⊢
      simp at this ⊢
      omega
    refine ⟨n, some a, cap, (zs.take len).map Int.toNat, by rw [hlen], ?_, fun j => ?_⟩
    · refine ⟨by rw [hlen]; omega, some a, cap, rfl, by rw [hlen]; exact hl, ?_⟩
      by_cases h0 : len = 0
      · subst h0
        exact .inl ⟨by simp, fun h => by cases h⟩
      · obtain ⟨b, off, rfl, hc⟩ := ints_at hcell (by omega)
        refine .inr ⟨b, off, rfl, World.block_lt_of_cell? W _ (hc 0 (by omega)), fun j hj => ?_⟩
        rw [hlen] at hj
        rw [hc j (by omega), hlimb j hj]
    · by_cases hj : j < len
      · have h1 := hlimb j hj
        have h2 := (hnn j).2
        rw [List.getD_eq_getElem?_getD] at h1
        omega
      · rw [limb_out (by omega)]; omega
end Go.Proofs.YtiekhjgfnmochaaDoor
