/- A slice of bytes that came in. No walk here. -/
import Derived.Test.YtoefkhpgabmieaaStOpen
import Derived.SizedLaws
import Derived.Deep.MidRow
namespace Go.Proofs.Ytoefkhpgabmieaa
open Go.ChangeShapes Go.WideShapes Go.ChangeAt Go.RowKit

theorem nil8 (k : IntKind) (w : World) : Sl k w (.slice none 0 0) [] := ⟨by simp, none, 0, rfl, by simp, .inl ⟨rfl, fun _ => rfl⟩⟩
def By (xs : List Nat) : Prop := ∀ i, limb xs i < 256
set_option maxRecDepth 100000 in
theorem cellsU8 : Try.prog.cellsOf 5 = 1 := by kernel_rfl
theorem nat_list {zs : List Int} {len : Nat} (hl : len ≤ zs.length) (hp : ∀ n ∈ zs, 0 ≤ n) : ((zs.take len).map Int.toNat).length = len ∧ ∀ j, j < len → ((limb ((zs.take len).map Int.toNat) j : Nat) : Int) = zs.getD j 0 := by
  refine ⟨by simp; omega, fun j hj => ?_⟩
  have := hp zs[j] (List.getElem_mem _)
  unfold limb
  simp only [List.getD_eq_getElem?_getD, List.getElem?_map, List.getElem?_take, if_pos hj]
  rw [List.getElem?_eq_getElem (by omega)]
  simp
  omega

set_option maxRecDepth 100000 in
theorem open_bytes6 {H : Type} {enc : TypeId × Value → H} {W : World} {base : Nat} {v : Value} {d : DataW H} {p : List MemPlace} (hv : Value.okWide Try.prog W .any base 40 v)
    (h : DataW.Trod enc Try.prog W 0 (fun _ => true) true 40 v d p) :
    ∃ xs, Sl .u8 W v xs ∧ By xs ∧ (xs = [] ∨ ∃ el sp, d = .slice el sp ∧ el.length = xs.length) := by
  obtain ⟨a0, l0, c0, rfl⟩ := okWide_slice Try.underlying40 hv
  obtain ⟨m, hm⟩ := h
  rcases open_ints Try.underlying40 Try.underlying5 cellsU8 hm with ⟨e1, _⟩ | ⟨a, len, cap, zs, e1, _, hl, hcm, hz, hx, hcell, hwz⟩
  · simp only [Value.cells, List.cons.injEq, and_true] at e1
    rw [e1]
    exact ⟨[], nil8 _ _, fun i => by rw [limb_out (by simp)]; omega, .inl rfl⟩
  · simp only [Value.cells, List.cons.injEq, and_true] at e1
    rw [e1]
    simp only [if_true] at hz
    have hp : ∀ n ∈ zs, 0 ≤ n ∧ n < 256 := fun n hn => by
      have := hwz n hn
      simp [Lit.wf, IntKind.min, IntKind.max, IntKind.signed, IntKind.bits] at this
      omega
    obtain ⟨hlen, hlimb⟩ := nat_list (zs := zs) (len := len) (by omega) fun n hn => (hp n hn).1
    refine ⟨(zs.take len).map Int.toNat, ?_, fun j => ?_, .inr ⟨_, _, (Prod.mk.inj hx).1, ?_⟩⟩
    · refine ⟨by rw [hlen]; omega, some a, cap, by rw [hlen], by rw [hlen]; exact hl, ?_⟩
      by_cases h0 : len = 0
      · subst h0
        exact .inl ⟨by simp, fun h => by cases h⟩
      · obtain ⟨b, off, rfl, hc⟩ := ints_at hcell (by omega)
        refine .inr ⟨b, off, rfl, World.block_lt_of_cell? W _ (hc 0 (by omega)), fun j hj => ?_⟩
        rw [hlen] at hj
        rw [hc j (by omega), hlimb j hj]
    · by_cases hj : j < len
      · have h1 := hlimb j hj
        have h2 := (hp zs[j] (List.getElem_mem _)).2
        have e : zs.getD j 0 = zs[j] := by simp [List.getElem?_eq_getElem (show j < zs.length by omega)]
        rw [e] at h1
        omega
      · rw [limb_out (by omega)]; omega
    · rw [hlen]; simp [lits]; omega

end Go.Proofs.Ytoefkhpgabmieaa
