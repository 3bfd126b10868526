/- Scalar, of both -/
import Derived.Test.YtimmjamackjkiaaDoorUDec
namespace Go.Proofs.YtimmjamackjkiaaDoor
open Go.RowKit

/-- Is it a character? Does it stand between words? Does it end one? -/
def scB (c : Int) : Bool := decide ((0 ≤ c ∧ c < 55296) ∨ (57343 < c ∧ c ≤ 1114111))
def blB (c : Int) : Bool := decide (c = 9 ∨ c = 10 ∨ c = 13 ∨ c = 32)
def enB (c : Int) : Bool := decide (c = 40 ∨ c = 41 ∨ c = 59 ∨ c = 34 ∨ c = 39 ∨ c = 96 ∨ c = 44 ∨ c = 9 ∨ c = 10 ∨ c = 13 ∨ c = 32)
theorem enB_of_blB {c : Int} (h : blB c = true) : enB c = true := by
  unfold blB at h; unfold enB; simp only [decide_eq_true_iff] at *; omega

set_option maxRecDepth 100000 in
theorem scalar_any (c : Int) (w : World) : Calls Tryd.prog 9 #[.int .i64 c] w fun e w' => e = .returned (.bool (scB c)) ∧ w = w' := by
  go_enter Tryd.func9, Tryd.ntmps9
  go_wp2
  all_goals
    go_ret
    exact ⟨ret_bool (by unfold scB; rw [Bool.eq_iff_iff]; simp; try omega), rfl⟩
set_option maxRecDepth 100000 in
theorem rscalar_any (c : Int) (w : World) : Calls Tryd.prog 11 #[.int .i64 c] w fun e w' => e = .returned (.bool (scB c)) ∧ w = w' := by
  go_enter Tryd.func11, Tryd.ntmps11
  go_wp2
  all_goals
    go_ret
    exact ⟨ret_bool (by unfold scB; rw [Bool.eq_iff_iff]; simp; try omega), rfl⟩
end Go.Proofs.YtimmjamackjkiaaDoor
