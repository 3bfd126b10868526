/- same.Eqv, walked. -/
import Derived.Test.YtioidaojnbenbaaSmEqv
namespace Go.Proofs.Ytioidaojnbenbaa
open Go.RowKit

def St.eqvA (s : St) (a b : Int × Int) : Bool := decide (a = b ∨ (s.kind a = 5 ∧ s.kind b = 5 ∧ s.slotsEq a b = true))
theorem eqvA_same {s : St} {a b : Int × Int} (h : a = b) : s.eqvA a b = true := by unfold St.eqvA; simp [h]
theorem eqvA_no1 {s : St} {a b : Int × Int} (h : a ≠ b) (h1 : s.kind a ≠ 5) : s.eqvA a b = false := by unfold St.eqvA; simp [h, h1]
theorem eqvA_no2 {s : St} {a b : Int × Int} (h : a ≠ b) (h1 : s.kind b ≠ 5) : s.eqvA a b = false := by unfold St.eqvA; simp [h, h1]
theorem eqvA_big {s : St} {a b : Int × Int} (h : a ≠ b) (h1 : s.kind a = 5) (h2 : s.kind b = 5) : s.eqvA a b = s.slotsEq a b := by unfold St.eqvA; simp [h, h1, h2]

end Go.Proofs.Ytioidaojnbenbaa
