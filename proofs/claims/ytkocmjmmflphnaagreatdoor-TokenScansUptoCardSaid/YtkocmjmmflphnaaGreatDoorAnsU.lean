/- A number has one form. -/
import Derived.Test.YtkocmjmmflphnaaGreatDoorAdd
namespace Go.Proofs.YtkocmjmmflphnaaGreatDoor
open Go.RowKit

theorem V_inj {f g : Nat → Nat} (hf : ∀ i, f i < 1000000000) (hg : ∀ i, g i < 1000000000) {n : Nat} (h : V f n = V g n) : ∀ i, i < n → f i = g i := by
  induction n with
  | zero => intro i hi; omega
  | succ n ih =>
    simp only [V] at h
    have a := V_lt hf n
    have b := V_lt hg n
    have e : f n = g n := by
      rcases Nat.lt_trichotomy (f n) (g n) with c | c | c
      · have : (f n + 1) * 1000000000 ^ n ≤ g n * 1000000000 ^ n := Nat.mul_le_mul_right _ c
        rw [Nat.add_mul, Nat.one_mul] at this
        omega
      · exact c
      · have : (g n + 1) * 1000000000 ^ n ≤ f n * 1000000000 ^ n := Nat.mul_le_mul_right _ c
        rw [Nat.add_mul, Nat.one_mul] at this
        omega
    rw [e] at h
    intro i hi
    by_cases e2 : i = n
    · rw [e2]; exact e
    · exact ih (by omega) i (by omega)

theorem list_limbs {xs ys : List Nat} (hl : xs.length = ys.length) (h : ∀ i, i < xs.length → limb xs i = limb ys i) : xs = ys := by
  apply List.ext_getElem hl
  intro i h1 h2
  have := h i h1
  rwa [limb_lt h1, limb_lt h2] at this

theorem snd_list {n1 n2 : Bool} {xs ys : List Nat} (hx : Snd n1 xs) (hy : Snd n2 ys) (h : val xs = val ys) : xs = ys := by
  have h1 := len_le_of_val hx hy (by omega)
  have h2 := len_le_of_val hy hx (by omega)
  refine list_limbs (by omega) (V_inj hx.2.1 hy.2.1 (n := xs.length) ?_)
  rw [val_eq (Nat.le_refl _), val_eq h1]
  exact h

theorem snd_pos {n : Bool} {xs : List Nat} (hx : Snd n xs) (h : xs ≠ []) : 0 < val xs := by
  have := val_pos h (hx.2.2.2 h)
  have := Nat.pow_pos (n := xs.length - 1) (show 0 < 1000000000 by omega)
  omega

/-- A number has one form. -/
theorem snd_unique {n1 n2 : Bool} {xs ys : List Nat} (hx : Snd n1 xs) (hy : Snd n2 ys) (h : ival n1 xs = ival n2 ys) : n1 = n2 ∧ xs = ys := by
  have e : xs = ys := by
    refine snd_list hx hy ?_
    unfold ival at h
    split at h <;> split at h <;> omega
  subst e
  refine ⟨?_, rfl⟩
  by_cases e : xs = []
  · rw [hx.2.2.1 e, hy.2.2.1 e]
  · have := snd_pos hx e
    unfold ival at h
    cases n1 <;> cases n2 <;> simp at h <;> first | rfl | omega
end Go.Proofs.YtkocmjmmflphnaaGreatDoor
