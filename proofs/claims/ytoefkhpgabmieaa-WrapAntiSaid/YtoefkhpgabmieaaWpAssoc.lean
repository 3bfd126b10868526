/- Three wraps around one another are the same, whichever two are joined first. No walk here. -/
import Derived.Test.YtoefkhpgabmieaaWpMath
namespace Go.Proofs.Ytoefkhpgabmieaa
open Go.RowKit

theorem joinA_zero {m s n t : List Int} (h : (joinA m s n t).2.2 = 0) : sndB m s = true ∧ sndB n t = true ∧ (joinA m s n t).1 = cutL (endB m s && begB n t) m ++ cutF (endB m s && begB n t) n ∧ (joinA m s n t).2.1 = cutL (endB m s && begB n t) s ++ cutF (endB m s && begB n t) t := by
  cases h1 : sndB m s with
  | false => rw [joinA_bad (by rw [h1]; rfl)] at h; cases h
  | true =>
    cases h2 : sndB n t with
    | false => rw [joinA_bad (by rw [h2, Bool.and_false])] at h; cases h
    | true =>
      have he := joinA_ok h1 h2
      rw [he] at h
      refine ⟨rfl, rfl, ?_⟩
      rw [he]
      generalize hx : marryA (endB m s && begB n t) m s n t = x at h ⊢
      cases h3 : lrgB x.1 x.2 with
      | true => rw [closeA_large h3] at h; cases h
      | false =>
        cases h4 : sndS x.1 x.2 with
        | false => rw [closeA_bad h3 h4] at h; cases h
        | true =>
          rw [closeA_ok h3 h4, ← hx]
          exact ⟨rfl, rfl⟩
theorem cutL_app {b : Bool} {x y : List Int} (h : y ≠ []) : cutL b (x ++ y) = x ++ cutL b y := by
  unfold cutL
  cases b
  · rfl
  · simp only [if_true]; exact List.dropLast_append_of_ne_nil h
theorem cutF_app {b : Bool} {x y : List Int} (h : x ≠ []) : cutF b (x ++ y) = cutF b x ++ y := by
  unfold cutF
  cases b
  · rfl
  · simp only [if_true]; exact List.tail_append_of_ne_nil h
theorem cut_comm (b c : Bool) (x : List Int) : cutF b (cutL c x) = cutL c (cutF b x) := by
  unfold cutF cutL
  cases b <;> cases c <;> simp [List.tail_dropLast]
theorem cutF_ne {b : Bool} {x : List Int} (h : 2 ≤ x.length) : cutF b x ≠ [] := by
  intro e
  have h2 : x.length - 1 ≤ (cutF b x).length := by unfold cutF; cases b <;> simp
  rw [e, List.length_nil] at h2
  omega
theorem cutL_ne {b : Bool} {x : List Int} (h : 2 ≤ x.length) : cutL b x ≠ [] := by
  intro e
  have h2 : x.length - 1 ≤ (cutL b x).length := by unfold cutL; cases b <;> simp
  rw [e, List.length_nil] at h2
  omega
theorem gz_last_app {x y : List Int} (h : y ≠ []) : gz (x ++ y) ((x ++ y).length - 1) = gz y (y.length - 1) := by
  have hl : 0 < y.length := List.length_pos_iff.2 h
  rw [gz_app2 (by rw [List.length_append]; omega), List.length_append]
  congr 1
  omega
theorem gz_last_cutF {b : Bool} {x : List Int} (h : 2 ≤ x.length) : gz (cutF b x) ((cutF b x).length - 1) = gz x (x.length - 1) := by
  unfold cutF
  cases b
  · rfl
  · simp only [if_true]
    rw [gz_tail, List.length_tail]
    congr 1
    omega
theorem gz_first_cutL {b : Bool} {x : List Int} (h : 2 ≤ x.length) : gz (cutL b x) 0 = gz x 0 := by
  unfold cutL
  cases b
  · rfl
  · simp only [if_true]
    exact gz_init (by omega)
theorem joinA_assoc {ma sa mb sb mc sc : List Int} (h1 : (joinA ma sa mb sb).2.2 = 0) (h2 : (joinA mb sb mc sc).2.2 = 0) (hb : 2 ≤ mb.length)
    (h3 : (joinA (joinA ma sa mb sb).1 (joinA ma sa mb sb).2.1 mc sc).2.2 = 0) (h4 : (joinA ma sa (joinA mb sb mc sc).1 (joinA mb sb mc sc).2.1).2.2 = 0) :
    (joinA (joinA ma sa mb sb).1 (joinA ma sa mb sb).2.1 mc sc).1 = (joinA ma sa (joinA mb sb mc sc).1 (joinA mb sb mc sc).2.1).1 ∧ (joinA (joinA ma sa mb sb).1 (joinA ma sa mb sb).2.1 mc sc).2.1 = (joinA ma sa (joinA mb sb mc sc).1 (joinA mb sb mc sc).2.1).2.1 := by
  obtain ⟨_, hsb, e1, e2⟩ := joinA_zero h1
  obtain ⟨_, _, e3, e4⟩ := joinA_zero h2
  obtain ⟨_, _, e5, e6⟩ := joinA_zero h3
  obtain ⟨_, _, e7, e8⟩ := joinA_zero h4
  have hsl : 2 ≤ sb.length := Nat.le_trans hb (sndS_le (sndB_snd hsb))
  rw [e5, e6, e7, e8, e1, e2, e3, e4]
  generalize hp : (endB ma sa && begB mb sb) = b1 at *
  generalize hq : (endB mb sb && begB mc sc) = b2 at *
  have k1 : endB (cutL b1 ma ++ cutF b1 mb) (cutL b1 sa ++ cutF b1 sb) = endB mb sb := by
    unfold endB
    rw [gz_last_app (cutF_ne hb), gz_last_app (cutF_ne hsl), gz_last_cutF hb, gz_last_cutF hsl]
    have l1 : 0 < (cutL b1 ma ++ cutF b1 mb).length := by
      have := List.length_pos_iff.2 (cutF_ne (b := b1) hb)
      rw [List.length_append]; omega
    rw [decide_eq_true l1, decide_eq_true (show 0 < mb.length by omega)]
  have k2 : begB (cutL b2 mb ++ cutF b2 mc) (cutL b2 sb ++ cutF b2 sc) = begB mb sb := by
    unfold begB
    have l1 := List.length_pos_iff.2 (cutL_ne (b := b2) hb)
    have l2 := List.length_pos_iff.2 (cutL_ne (b := b2) hsl)
    rw [gz_app1 l1, gz_app1 l2, gz_first_cutL hb, gz_first_cutL hsl]
    rw [decide_eq_true (show 0 < (cutL b2 mb ++ cutF b2 mc).length by rw [List.length_append]; omega), decide_eq_true (show 0 < mb.length by omega)]
  rw [k1, k2, hp, hq]
  refine ⟨?_, ?_⟩
  · rw [cutL_app (cutF_ne hb), cutF_app (cutL_ne hb), cut_comm, List.append_assoc]
  · rw [cutL_app (cutF_ne hsl), cutF_app (cutL_ne hsl), cut_comm, List.append_assoc]
end Go.Proofs.Ytoefkhpgabmieaa
