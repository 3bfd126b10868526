/- Scalar, of both | Blank, Ends, of both -/
import Derived.Test.YtkocmjmmflphnaaDoorUDec
namespace Go.Proofs.YtkocmjmmflphnaaDoor
open Go.RowKit

/-- Is it a character? Does it stand between words? Does it end one? -/
def scB (c : Int) : Bool := decide ((0 ≤ c ∧ c < 55296) ∨ (57343 < c ∧ c ≤ 1114111))
def blB (c : Int) : Bool := decide (c = 9 ∨ c = 10 ∨ c = 13 ∨ c = 32)
def enB (c : Int) : Bool := decide (c = 40 ∨ c = 41 ∨ c = 59 ∨ c = 34 ∨ c = 39 ∨ c = 96 ∨ c = 44 ∨ c = 9 ∨ c = 10 ∨ c = 13 ∨ c = 32)
theorem enB_of_blB {c : Int} (h : blB c = true) : enB c = true := by
  unfold blB at h; unfold enB; simp only [decide_eq_true_iff] at *; omega

set_option maxRecDepth 100000 in
theorem scalar_any (c : Int) (w : World) : Calls Tryd.prog 21 #[.int .i64 c] w fun e w' => e = .returned (.bool (scB c)) ∧ w = w' := by
  go_enter Tryd.func21, Tryd.ntmps21
  go_wp2
  all_goals
    go_ret
    exact ⟨ret_bl (by unfold scB; rw [Bool.eq_iff_iff]; simp; try omega), rfl⟩
set_option maxRecDepth 100000 in
theorem rscalar_any (c : Int) (w : World) : Calls Tryd.prog 11 #[.int .i64 c] w fun e w' => e = .returned (.bool (scB c)) ∧ w = w' := by
  go_enter Tryd.func11, Tryd.ntmps11
  go_wp2
  all_goals
    go_ret
    exact ⟨ret_bl (by unfold scB; rw [Bool.eq_iff_iff]; simp; try omega), rfl⟩
end Go.Proofs.YtkocmjmmflphnaaDoor
namespace Go.Proofs.YtkocmjmmflphnaaDoor
open Go.RowKit

set_option maxRecDepth 100000 in
theorem blank_any (c : Int) (w : World) : Calls Tryd.prog 26 #[.int .i64 c] w fun e w' => e = .returned (.bool (blB c)) ∧ w = w' := by
  go_enter Tryd.func26, Tryd.ntmps26
  go_wp2
  all_goals
    go_ret
    exact ⟨ret_bl (by unfold blB; rw [Bool.eq_iff_iff]; simp; try omega), rfl⟩
set_option maxRecDepth 100000 in
set_option maxHeartbeats 1000000 in
theorem ends_any (c : Int) (w : World) : Calls Tryd.prog 35 #[.int .i64 c] w fun e w' => e = .returned (.bool (enB c)) ∧ w = w' := by
  go_enter Tryd.func35, Tryd.ntmps35
  go_wp2_with (go_at_call 26; refine (blank_any _ _).mono ?_; rintro e w' ⟨rfl, rfl⟩)
  all_goals
    go_ret
    exact ⟨ret_bl (by unfold enB; (try unfold blB); simp only [beq_iff_eq, beq_eq_false_iff_ne] at *; first | (symm; rw [decide_eq_true_iff]; omega) | (rw [decide_eq_decide]; omega)), rfl⟩
end Go.Proofs.YtkocmjmmflphnaaDoor
