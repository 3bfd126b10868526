/- How much a piece of syntax that came in may weigh. No walk here. -/
import Derived.Test.YtioidaojnbenbaaSxOpen
namespace Go.Proofs.Ytioidaojnbenbaa
open Go.ChangeShapes Go.WideShapes Go.ChangeAt Go.RowKit

set_option maxRecDepth 100000 in
/-- The text of a piece that came in is within what may be reached. -/
theorem reach_stx {H : Type} {enc : TypeId × Value → H} {W : World} {D : Sx} {us : List Value} {d : DataW H} {p : List MemPlace} {ts : List TypeId} {ds : List (DataW H)} {j : Nat} (hy : SLay W D us)
    (h : DataW.Trod enc Try.prog W 0 (fun _ => true) true 50 (.agg us.toArray) d p) (hsz : (DataW.weightsEach Try.prog ts ds).all (· ≤ reachBytes) = true)
    (ht : ts[j]? = some 50) (hd : ds[j]? = some d) : D.t.size ≤ reachBytes := by
  obtain ⟨fuel, hf⟩ := h
  obtain ⟨lv, av, mv, sv, vs, rfl, _⟩ := hy.open'
  have hf' : DataW.trod enc Try.prog W 0 (fun _ => true) true fuel 50 [.int .i64 D.k, .string D.t, .bool D.n, lv, av, .int .i64 D.a, mv, sv] = some (d, p) := hf
  obtain ⟨xs, n, hn, hx, hl, hlen, hfl⟩ := DataW.trod_struct Try.underlying50 hf'
  have h1 := hfl 1 _ rfl
  obtain ⟨y0, y1, y2, y3, y4, y5, y6, rfl⟩ : ∃ y0 y1 y2 y3 y4 y5 y6, xs = [y0, y1, y2, y3, y4, y5, y6] := by
    match xs, hlen with
    | [y0, y1, y2, y3, y4, y5, y6], _ => exact ⟨y0, y1, y2, y3, y4, y5, y6, rfl⟩
  simp [cellsSt8] at h1
  obtain ⟨s, e1, ey, _⟩ := DataW.trod_string Try.underlying9 h1
  simp only [List.cons.injEq, Value.string.injEq, and_true] at e1
  subst e1
  simp only [Prod.mk.injEq] at hx
  obtain ⟨rfl, _⟩ := hx
  have hm : D.t.size ∈ (DataW.agg (List.map (·.1) [y0, y1, y2, y3, y4, y5, y6])).weights Try.prog 50 := by
    rw [DataW.weights, Try.underlying50]
    refine DataW.weights_mem_each (j := 1) rfl (show _ = some (DataW.lit (.string D.t.data.toList)) by rw [ey]; rfl) _ ?_
    rw [DataW.weights]
    exact List.mem_singleton.2 (by rw [Array.length_toList]; rfl)
  have := List.all_eq_true.1 hsz _ (DataW.weights_mem_each ht hd _ hm)
  simpa using this
end Go.Proofs.Ytioidaojnbenbaa
