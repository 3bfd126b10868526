/- A wrap that came in. No walk here. -/
import Derived.Test.YtoefkhpgabmieaaStOpen
import Derived.Test.YtoefkhpgabmieaaWpMath
import Derived.SizedLaws
import Derived.Deep.MidRow
namespace Go.Proofs.Ytoefkhpgabmieaa
open Go.ChangeShapes Go.WideShapes Go.ChangeAt Go.RowKit

set_option maxRecDepth 100000 in
theorem cellsWr : Try.prog.cellsOf 24 = 2 := by kernel_rfl
set_option maxRecDepth 100000 in
theorem cellsIs : Try.prog.cellsOf 22 = 1 := by kernel_rfl
set_option maxRecDepth 100000 in
theorem cellsI1 : Try.prog.cellsOf 3 = 1 := by kernel_rfl
set_option maxRecDepth 100000 in
theorem trod_iz {H : Type} {enc : TypeId × Value → H} {W : World} {n : Nat} {v : Value} {x : DataW H × List MemPlace} (h : DataW.trod enc Try.prog W 0 (fun _ => true) true n 22 [v] = some x) : ∃ zs, Iz W v zs := by
  rcases open_ints Try.underlying22 Try.underlying3 cellsI1 h with ⟨e1, _⟩ | ⟨a, len, cap, zs, e1, _, hl, hcm, hz, _, hcell, _⟩
  · simp only [List.cons.injEq, and_true] at e1
    subst e1
    exact ⟨[], Iz.nil _⟩
  · simp only [List.cons.injEq, and_true] at e1
    subst e1
    simp only [if_true] at hz
    by_cases h0 : len = 0
    · subst h0
      exact ⟨[], Iz.empty _ _ _⟩
    · obtain ⟨b, off, rfl, hc⟩ := ints_at hcell (by omega)
      refine ⟨zs.take len, Iz.mk (by simp; omega) (by omega) hl (World.block_lt_of_cell? W _ (hc 0 (by omega))) fun j hj => ?_⟩
      rw [hc j (by omega), gz_lt (by simp; omega)]
      simp [show j < zs.length by omega]
set_option maxRecDepth 100000 in
theorem open_wrap {H : Type} {enc : TypeId × Value → H} {W : World} {base : Nat} {v : Value} {d : DataW H} {p : List MemPlace} (hv : Value.okWide Try.prog W .any base 24 v)
    (h : DataW.Trod enc Try.prog W 0 (fun _ => true) true 24 v d p) : ∃ m s, Wr W v m s := by
  obtain ⟨cs, rfl, hsz⟩ := okWide_struct Try.underlying24 hv
  obtain ⟨fuel, hf⟩ := h
  obtain ⟨xs, k, hn, _, hl, hlen, hfl⟩ := DataW.trod_struct Try.underlying24 hf
  rw [cellsWr] at hl
  obtain ⟨c0, c1, hcs⟩ : ∃ c0 c1, cs.toList = [c0, c1] := by
    have hl' : cs.toList.length = 2 := hl
    match h : cs.toList, hl' with
    | [c0, c1], _ => exact ⟨c0, c1, rfl⟩
  obtain ⟨y0, y1, rfl⟩ : ∃ y0 y1, xs = [y0, y1] := by
    match xs, hlen with
    | [y0, y1], _ => exact ⟨y0, y1, rfl⟩
  have h0 := hfl 0 _ rfl
  have h1 := hfl 1 _ rfl
  obtain rfl : cs = #[c0, c1] := by apply Array.ext'; simpa using hcs
  simp [cellsIs] at h0
  simp [cellsIs] at h1
  obtain ⟨m, hm⟩ := trod_iz h0
  obtain ⟨s, hs⟩ := trod_iz h1
  exact ⟨m, s, ⟨_, _, rfl, hm, hs⟩⟩
end Go.Proofs.Ytoefkhpgabmieaa
