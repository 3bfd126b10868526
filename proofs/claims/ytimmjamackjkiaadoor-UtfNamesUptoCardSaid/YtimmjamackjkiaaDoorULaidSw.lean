/- The list of laid variables: the order of the last two is of no matter. -/
import Derived.Test.YtimmjamackjkiaaDoorULaidN
namespace Go.Proofs.YtimmjamackjkiaaDoor
open Go.ChangeShapes Go.WideShapes Go.ChangeAt Go.RowKit

theorem laidVars_swap {P : Program} {w : World} {x y : String × DataW Unit} : ∀ {l : List (String × DataW Unit)} {ps : List MemPlace}, DataW.LaidVars P w (l ++ [x, y]) ps → ∃ qs, DataW.LaidVars P w (l ++ [y, x]) qs ∧ qs.Perm ps
  | [], ps, h => by
    obtain ⟨g, t, cs, fuel, p, q, h1, h2, h3, h4, h5, h6⟩ := h
    obtain ⟨g', t', cs', fuel', p', q', k1, k2, k3, k4, k5, k6⟩ := h5
    obtain rfl : q' = [] := k5
    refine ⟨_, ⟨g', t', cs', fuel', p', _, k1, k2, k3, k4, ⟨g, t, cs, fuel, p, [], h1, h2, h3, h4, rfl, rfl⟩, rfl⟩, ?_⟩
    subst h6 k6
    simp only [List.append_nil]
    first | exact List.perm_append_comm | skip
  | z :: l, ps, h => by
    obtain ⟨g, t, cs, fuel, p, q, h1, h2, h3, h4, h5, h6⟩ := h
    obtain ⟨qs, k, hp⟩ := laidVars_swap h5
    refine ⟨_, ⟨g, t, cs, fuel, p, qs, h1, h2, h3, h4, k, rfl⟩, ?_⟩
    subst h6
    exact List.Perm.append_left _ hp
theorem laidMet_swap {P : Program} {w : World} {x y : String × DataW Unit} {l : List (String × DataW Unit)} (h : laidMet P (l ++ [x, y]) w) : laidMet P (l ++ [y, x]) w := by
  obtain ⟨ps, hv, hn, hc⟩ := h
  obtain ⟨qs, hq, hp⟩ := laidVars_swap hv
  exact ⟨qs, hq, hp.nodup_iff.2 hn, fun b off hm => hc b off (hp.mem_iff.1 hm)⟩
end Go.Proofs.YtimmjamackjkiaaDoor
