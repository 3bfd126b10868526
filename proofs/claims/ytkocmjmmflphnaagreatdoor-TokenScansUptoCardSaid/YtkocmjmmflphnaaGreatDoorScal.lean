/- Scalar, of both | Blank, Ends, of both -/
import Derived.Test.YtkocmjmmflphnaaGreatDoorUDec
namespace Go.Proofs.YtkocmjmmflphnaaGreatDoor
open Go.RowKit

/-- Is it a character? Does it stand between words? Does it end one? -/
def scB (c : Int) : Bool := decide ((0 ≤ c ∧ c < 55296) ∨ (57343 < c ∧ c ≤ 1114111))
def blB (c : Int) : Bool := decide (c = 9 ∨ c = 10 ∨ c = 13 ∨ c = 32)
def enB (c : Int) : Bool := decide (c = 40 ∨ c = 41 ∨ c = 59 ∨ c = 34 ∨ c = 39 ∨ c = 96 ∨ c = 44 ∨ c = 9 ∨ c = 10 ∨ c = 13 ∨ c = 32)
theorem enB_of_blB {c : Int} (h : blB c = true) : enB c = true := by
  unfold blB at h; unfold enB; simp only [decide_eq_true_iff] at *; omega

set_option maxRecDepth 100000 in
theorem scalar_any (c : Int) (w : World) : Calls Tryz.prog 26 #[.int .i64 c] w fun e w' => e = .returned (.bool (scB c)) ∧ w = w' := by
  go_enter Tryz.func26, Tryz.ntmps26
  go_wp2
  all_goals
    go_ret
    exact ⟨ret_bl (by unfold scB; rw [Bool.eq_iff_iff]; simp; try omega), rfl⟩
set_option maxRecDepth 100000 in
theorem rscalar_any (c : Int) (w : World) : Calls Tryz.prog 14 #[.int .i64 c] w fun e w' => e = .returned (.bool (scB c)) ∧ w = w' := by
  go_enter Tryz.func14, Tryz.ntmps14
  go_wp2
  all_goals
    go_ret
    exact ⟨ret_bl (by unfold scB; rw [Bool.eq_iff_iff]; simp; try omega), rfl⟩
end Go.Proofs.YtkocmjmmflphnaaGreatDoor
namespace Go.Proofs.YtkocmjmmflphnaaGreatDoor
open Go.RowKit

set_option maxRecDepth 100000 in
theorem blank_any (c : Int) (w : World) : Calls Tryz.prog 37 #[.int .i64 c] w fun e w' => e = .returned (.bool (blB c)) ∧ w = w' := by
  go_enter Tryz.func37, Tryz.ntmps37
  go_wp2
  all_goals
    go_ret
    exact ⟨ret_bl (by unfold blB; rw [Bool.eq_iff_iff]; simp; try omega), rfl⟩
set_option maxRecDepth 100000 in
theorem rblank_any (c : Int) (w : World) : Calls Tryz.prog 15 #[.int .i64 c] w fun e w' => e = .returned (.bool (blB c)) ∧ w = w' := by
  go_enter Tryz.func15, Tryz.ntmps15
  go_wp2
  all_goals
    go_ret
    exact ⟨ret_bl (by unfold blB; rw [Bool.eq_iff_iff]; simp; try omega), rfl⟩
set_option maxRecDepth 100000 in
set_option maxHeartbeats 1000000 in
theorem ends_any (c : Int) (w : World) : Calls Tryz.prog 47 #[.int .i64 c] w fun e w' => e = .returned (.bool (enB c)) ∧ w = w' := by
  go_enter Tryz.func47, Tryz.ntmps47
  go_wp2_with (go_at_call 37; refine (blank_any _ _).mono ?_; rintro e w' ⟨rfl, rfl⟩)
  all_goals
    go_ret
    exact ⟨ret_bl (by unfold enB; (try unfold blB); simp only [beq_iff_eq, beq_eq_false_iff_ne] at *; first | (symm; rw [decide_eq_true_iff]; omega) | (rw [decide_eq_decide]; omega)), rfl⟩
set_option maxRecDepth 100000 in
set_option maxHeartbeats 1000000 in
theorem rends_any (c : Int) (w : World) : Calls Tryz.prog 29 #[.int .i64 c] w fun e w' => e = .returned (.bool (enB c)) ∧ w = w' := by
  go_enter Tryz.func29, Tryz.ntmps29
  go_wp2_with fail
  refine (rblank_any _ _).mono ?_
  rintro e w' ⟨rfl, rfl⟩
  cases hb : blB c
  · go_wp2
    all_goals
      go_ret
      exact ⟨ret_bl (by unfold blB at hb; unfold enB; rw [Bool.eq_iff_iff]; simp at *; try omega), rfl⟩
  · go_wp2
    all_goals
      go_ret
      exact ⟨ret_bl (by unfold blB at hb; unfold enB; rw [Bool.eq_iff_iff]; simp at *; try omega), rfl⟩
end Go.Proofs.YtkocmjmmflphnaaGreatDoor
