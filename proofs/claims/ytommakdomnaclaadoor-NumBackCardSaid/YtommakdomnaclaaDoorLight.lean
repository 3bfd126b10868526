/- light; what a law comes to -/
import Derived.Test.YtommakdomnaclaaDoorSound
namespace Go.Proofs.YtommakdomnaclaaDoor
open Go.RowKit

def TrueP (w : World) (e : Ending) (w' : World) : Prop := e = .returned (.bool true) ∧ Below w.heap.size w w'

set_option maxRecDepth 100000 in
set_option maxHeartbeats 1000000 in
theorem lightY (n : Bool) (ao : Option Addr) (cap : Nat) (xs : List Nat) (w : World) (h : xs.length ≤ 70) :
    Calls Tryd.prog 13 #[.agg #[.bool n, .slice ao xs.length cap]] w fun e w' => e = .returned (.bool true) ∧ Below w.heap.size w w' := by
  have hd : decide ((xs.length : Int) ≤ 70) = true := by simp; omega
  go_enter Tryd.func13, Tryd.ntmps13
  go_wp2
  go_ret
  exact ⟨by first | rfl | exact ret_bool hd, below1 w _⟩
set_option maxRecDepth 100000 in
set_option maxHeartbeats 1000000 in
theorem lightN (n : Bool) (ao : Option Addr) (cap : Nat) (xs : List Nat) (w : World) (h : 70 < xs.length) :
    Calls Tryd.prog 13 #[.agg #[.bool n, .slice ao xs.length cap]] w fun e w' => e = .returned (.bool false) ∧ Below w.heap.size w w' := by
  have hd : decide ((xs.length : Int) ≤ 70) = false := by rw [decide_eq_false_iff_not]; omega
  go_enter Tryd.func13, Tryd.ntmps13
  go_wp2
  go_ret
  exact ⟨by first | rfl | exact ret_bool hd, below1 w _⟩
end Go.Proofs.YtommakdomnaclaaDoor
