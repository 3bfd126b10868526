/- What a quotient, a rest and a modulo are to one another. No walk here. -/
import Derived.Test.YtiekhjgfnmochaaDoorEnvD
namespace Go.Proofs.YtiekhjgfnmochaaDoor
open Go.RowKit

theorem DivR.good {n1 n2 : Bool} {xs ys : List Nat} {c : Int} {m1 m2 : Bool} {q r : List Nat} (h : DivR n1 n2 xs ys c m1 q m2 r) (hx : Snd n1 xs) (hy : Snd n2 ys) (hne : ys ≠ []) :
    c = 0 ∧ Snd m1 q ∧ Snd m2 r ∧ ival m1 q = sg (!(n1 == n2)) (val xs / val ys) ∧ ival m2 r = sg n1 (val xs % val ys) := by
  rcases h with ⟨_, _, h⟩ | ⟨_, h, _⟩ | ⟨h, _⟩
  · exact h
  · exact absurd h hne
  · exact absurd ⟨hx, hy⟩ h
theorem ModR.good {n1 n2 : Bool} {xs ys : List Nat} {c : Int} {m : Bool} {r : List Nat} (h : ModR n1 n2 xs ys c m r) (hx : Snd n1 xs) (hy : Snd n2 ys) (hne : ys ≠ []) :
    c = 0 ∧ Snd m r ∧ ival m r = modN n1 n2 (val xs) (val ys) := by
  rcases h with ⟨_, _, h⟩ | ⟨_, h, _⟩ | ⟨h, _⟩
  · exact h
  · exact absurd h hne
  · exact absurd ⟨hx, hy⟩ h
/-- An answer that can't be too large. -/
theorem any_good {G : Prop} {N : Int} {c : Int} {n : Bool} {q : List Nat} (h : (G ∧ c = 0 ∧ Snd n q ∧ ival n q = N) ∨ (G ∧ c = 6 ∧ n = false ∧ q = [] ∧ 1000000000 ^ 64 ≤ N.natAbs) ∨ (¬ G ∧ c = 2 ∧ n = false ∧ q = [])) (g : G) (hN : N.natAbs < 1000000000 ^ 64) :
    c = 0 ∧ Snd n q ∧ ival n q = N := by
  rcases h with ⟨_, h⟩ | ⟨_, _, _, _, h⟩ | ⟨h, _⟩
  · exact h
  · exact absurd hN (Nat.not_lt.2 h)
  · exact absurd g h
theorem sg_abs (n : Bool) (N : Nat) : (sg n N).natAbs = N := by cases n <;> simp [sg]
theorem ival_abs (n : Bool) (xs : List Nat) : (ival n xs).natAbs = val xs := sg_abs n (val xs)
theorem whole_sum0 (n1 n2 : Bool) (Q R B : Nat) : sg (!(n1 == n2)) Q * sg n2 B + sg n1 R = sg n1 (B * Q + R) := by
  have e : ((B * Q + R : Nat) : Int) = (Q : Int) * (B : Int) + (R : Int) := by rw [Int.natCast_add, Int.natCast_mul, Int.mul_comm]
  unfold sg
  rw [e]
  have e1 : (-(Q : Int)) * (-(B : Int)) = (Q : Int) * (B : Int) := Int.neg_mul_neg _ _
  have e2 : (-(Q : Int)) * (B : Int) = -((Q : Int) * (B : Int)) := Int.neg_mul _ _
  have e3 : (Q : Int) * (-(B : Int)) = -((Q : Int) * (B : Int)) := Int.mul_neg _ _
  cases n1 <;> cases n2
  · exact rfl
  · show -(Q : Int) * -(B : Int) + (R : Int) = _
    rw [e1]; exact rfl
  · show -(Q : Int) * (B : Int) + -(R : Int) = -((Q : Int) * (B : Int) + (R : Int))
    rw [e2]; omega
  · show (Q : Int) * -(B : Int) + -(R : Int) = -((Q : Int) * (B : Int) + (R : Int))
    rw [e3]; omega
theorem whole_sum (n1 n2 : Bool) (X Y : Nat) : sg (!(n1 == n2)) (X / Y) * sg n2 Y + sg n1 (X % Y) = sg n1 X := by
  rw [whole_sum0, Nat.div_add_mod]
theorem whole_prod (n1 n2 : Bool) (X Y : Nat) : (sg (!(n1 == n2)) (X / Y) * sg n2 Y).natAbs ≤ X := by
  rw [Int.natAbs_mul, sg_abs, sg_abs]
  exact Nat.div_mul_le_self X Y
/-- The modulo differs from the rest by nothing, or by what it is divided by. -/
theorem modN_diff (n1 n2 : Bool) (X Y : Nat) : modN n1 n2 X Y - sg n1 (X % Y) = 0 ∨ modN n1 n2 X Y - sg n1 (X % Y) = sg n2 Y := by
  unfold modN
  split
  · exact .inl (by omega)
  · exact .inr (by omega)
/-- .. and has its sign. -/
theorem modN_sign {n1 n2 m : Bool} {X Y : Nat} {r : List Nat} (hY : 0 < Y) (hr : Snd m r) (h : ival m r = modN n1 n2 X Y) (hne : r ≠ []) : m = n2 := by
  have hlt := Nat.mod_lt X hY
  have hp := snd_pos hr hne
  unfold modN at h
  split at h
  · rename_i hc
    revert h hc
    generalize X % Y = R at *
    unfold ival sg
    cases n1 <;> cases n2 <;> cases m <;> simp <;> omega
  · rename_i hc
    revert h hc
    generalize X % Y = R at *
    unfold ival sg
    cases n1 <;> cases n2 <;> cases m <;> simp <;> omega
theorem snd_unsigned {m : Bool} {r : List Nat} (h : Snd m r) : Snd false r := ⟨h.1, h.2.1, fun _ => rfl, h.2.2.2⟩
theorem ival_zero {m : Bool} {r : List Nat} (h : Snd m r) (h0 : ival m r = 0) : r = [] := by
  apply Classical.byContradiction
  intro hne
  have hp := snd_pos h hne
  revert h0
  unfold ival
  cases m <;> simp <;> omega
end Go.Proofs.YtiekhjgfnmochaaDoor
