/- Scalar, Blank, Ends, of both; UtfSigns -/
import Derived.Test.YtmlpplniimehjaaDoorUAns
namespace Go.Proofs.YtmlpplniimehjaaDoor
open Go.RowKit

/-- Is it a character? Does it stand between words? Does it end one? -/
def scB (c : Int) : Bool := decide ((0 ≤ c ∧ c < 55296) ∨ (57343 < c ∧ c ≤ 1114111))
def blB (c : Int) : Bool := decide (c = 9 ∨ c = 10 ∨ c = 13 ∨ c = 32)
def enB (c : Int) : Bool := decide (c = 40 ∨ c = 41 ∨ c = 59 ∨ c = 34 ∨ c = 39 ∨ c = 96 ∨ c = 44 ∨ c = 9 ∨ c = 10 ∨ c = 13 ∨ c = 32)
theorem enB_of_blB {c : Int} (h : blB c = true) : enB c = true := by
  unfold blB at h; unfold enB; simp only [decide_eq_true_iff] at *; omega

set_option maxRecDepth 100000 in
theorem scalar_any (c : Int) (w : World) : Calls Tryd.prog 16 #[.int .i64 c] w fun e w' => e = .returned (.bool (scB c)) ∧ w = w' := by
  go_enter Tryd.func16, Tryd.ntmps16
  go_wp2
  all_goals
    go_ret
    exact ⟨ret_bool (by unfold scB; rw [Bool.eq_iff_iff]; simp; try omega), rfl⟩
set_option maxRecDepth 100000 in
theorem rscalar_any (c : Int) (w : World) : Calls Tryd.prog 17 #[.int .i64 c] w fun e w' => e = .returned (.bool (scB c)) ∧ w = w' := by
  go_enter Tryd.func17, Tryd.ntmps17
  go_wp2
  all_goals
    go_ret
    exact ⟨ret_bool (by unfold scB; rw [Bool.eq_iff_iff]; simp; try omega), rfl⟩
set_option maxRecDepth 100000 in
theorem blank_any (c : Int) (w : World) : Calls Tryd.prog 18 #[.int .i64 c] w fun e w' => e = .returned (.bool (blB c)) ∧ w = w' := by
  go_enter Tryd.func18, Tryd.ntmps18
  go_wp2
  all_goals
    go_ret
    exact ⟨ret_bool (by unfold blB; rw [Bool.eq_iff_iff]; simp; try omega), rfl⟩
set_option maxRecDepth 100000 in
theorem rblank_any (c : Int) (w : World) : Calls Tryd.prog 19 #[.int .i64 c] w fun e w' => e = .returned (.bool (blB c)) ∧ w = w' := by
  go_enter Tryd.func19, Tryd.ntmps19
  go_wp2
  all_goals
    go_ret
    exact ⟨ret_bool (by unfold blB; rw [Bool.eq_iff_iff]; simp; try omega), rfl⟩
set_option maxRecDepth 100000 in
set_option maxHeartbeats 1000000 in
theorem ends_any (c : Int) (w : World) : Calls Tryd.prog 20 #[.int .i64 c] w fun e w' => e = .returned (.bool (enB c)) ∧ w = w' := by
  go_enter Tryd.func20, Tryd.ntmps20
  go_wp2_with (go_at_call 18; refine (blank_any _ _).mono ?_; rintro e w' ⟨rfl, rfl⟩)
  all_goals
    go_ret
    exact ⟨ret_bool (by unfold enB; (try unfold blB); simp only [beq_iff_eq, beq_eq_false_iff_ne] at *; first | (symm; rw [decide_eq_true_iff]; omega) | (rw [decide_eq_decide]; omega)), rfl⟩
set_option maxRecDepth 100000 in
set_option maxHeartbeats 1000000 in
theorem rends_any (c : Int) (w : World) : Calls Tryd.prog 21 #[.int .i64 c] w fun e w' => e = .returned (.bool (enB c)) ∧ w = w' := by
  go_enter Tryd.func21, Tryd.ntmps21
  go_wp2_with fail
  refine (rblank_any _ _).mono ?_
  rintro e w' ⟨rfl, rfl⟩
  cases hb : blB c
  · go_wp2
    all_goals
      go_ret
      exact ⟨ret_bool (by unfold blB at hb; unfold enB; rw [Bool.eq_iff_iff]; simp at *; try omega), rfl⟩
  · go_wp2
    all_goals
      go_ret
      exact ⟨ret_bool (by unfold blB at hb; unfold enB; rw [Bool.eq_iff_iff]; simp at *; try omega), rfl⟩

set_option maxRecDepth 100000 in
set_option maxHeartbeats 1000000 in
theorem signs_any (c : Int) (w : World) (ht : Tabs w) : Calls Tryd.prog 6 #[.int .i64 c] w fun e w' => e = .returned (.bool true) ∧ Below w.heap.size w w' := by
  have HE := Lib.hid (@enB_of_blB c)
  go_enter Tryd.func6, Tryd.ntmps6
  go_wp2_with fail
  refine (answers_any w ht).mono ?_
  rintro e w1 ⟨rfl, hb⟩
  go_wp2_with fail
  refine (scalar_any _ _).mono ?_
  rintro e w' ⟨rfl, rfl⟩
  go_wp2_with fail
  refine (rscalar_any _ _).mono ?_
  rintro e w' ⟨rfl, rfl⟩
  generalize scB c = s
  have hs : (s == s) = true := by simp
  go_wp2_with fail
  refine (blank_any _ _).mono ?_
  rintro e w' ⟨rfl, rfl⟩
  go_wp2_with fail
  refine (rblank_any _ _).mono ?_
  rintro e w' ⟨rfl, rfl⟩
  obtain ⟨b, hbl⟩ : ∃ b, b = blB c := ⟨_, rfl⟩
  rw [← hbl]
  have HB := Lib.hid hbl; clear hbl
  have hbb : (b == b) = true := by simp
  go_wp2_with fail
  refine (ends_any _ _).mono ?_
  rintro e w' ⟨rfl, rfl⟩
  go_wp2_with fail
  refine (rends_any _ _).mono ?_
  rintro e w' ⟨rfl, rfl⟩
  obtain ⟨d, hen⟩ : ∃ d, d = enB c := ⟨_, rfl⟩
  rw [← hen]
  have HD := Lib.hid hen; clear hen
  have hdd : (d == d) = true := by simp
  go_wp2_with fail
  refine (blank_any _ _).mono ?_
  rintro e w' ⟨rfl, rfl⟩
  cases hbl : blB c
  · clear HB HD HE hbb hdd hs
    go_wp2
    go_ret
    exact ⟨rfl, hb⟩
  · have HF := Lib.hid (HE.out hbl)
    clear HB HD HE hbb hdd hs hbl
    go_wp2_with fail
    refine (ends_any _ _).mono ?_
    rintro e w' ⟨rfl, rfl⟩
    rw [HF.out]
    go_wp2
    go_ret
    exact ⟨rfl, hb⟩
end Go.Proofs.YtmlpplniimehjaaDoor
