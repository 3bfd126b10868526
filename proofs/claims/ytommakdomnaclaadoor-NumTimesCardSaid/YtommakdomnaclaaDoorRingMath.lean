/- The numbers of NumRing. -/
import Derived.Test.YtommakdomnaclaaDoorOps
namespace Go.Proofs.YtommakdomnaclaaDoor

theorem ival_abs (n : Bool) (xs : List Nat) : (ival n xs).natAbs = val xs := by unfold ival; cases n <;> simp
theorem val_60 {xs : List Nat} {k : Nat} (h : Lb xs) (hl : xs.length ≤ k) : val xs < 1000000000 ^ k := Nat.lt_of_lt_of_le (val_lt h) (Nat.pow_le_pow_right (by omega) hl)
theorem two60 : 1000000000 ^ 60 + 1000000000 ^ 60 ≤ 1000000000 ^ 64 := by decide
theorem add_abs {n1 n2 : Bool} {xs ys : List Nat} (h1 : val xs < 1000000000 ^ 60) (h2 : val ys < 1000000000 ^ 60) : (ival n1 xs + ival n2 ys).natAbs < 1000000000 ^ 64 := by
  have := ival_abs n1 xs
  have := ival_abs n2 ys
  have := two60
  omega
theorem sub_abs {a b : Int} (h1 : a.natAbs < 1000000000 ^ 60) (h : b.natAbs < 1000000000 ^ 60) : (a - b).natAbs < 1000000000 ^ 64 := by
  have := two60
  omega
theorem mul_val {xs ys : List Nat} {i j : Nat} (hx : val xs < 1000000000 ^ i) (hy : val ys < 1000000000 ^ j) (h : i + j ≤ 60) : val xs * val ys < 1000000000 ^ 60 := by
  have h1 : val xs * val ys ≤ val xs * 1000000000 ^ j := Nat.mul_le_mul_left _ (Nat.le_of_lt hy)
  have h2 : val xs * 1000000000 ^ j < 1000000000 ^ i * 1000000000 ^ j := Nat.mul_lt_mul_of_pos_right hx (Nat.pow_pos (by omega))
  rw [← Nat.pow_add] at h2
  have h3 : (1000000000 : Nat) ^ (i + j) ≤ 1000000000 ^ 60 := Nat.pow_le_pow_right (by omega) h
  omega
theorem mul_abs (n1 n2 : Bool) (xs ys : List Nat) : (ival n1 xs * ival n2 ys).natAbs = val xs * val ys := by
  rw [Int.natAbs_mul, ival_abs, ival_abs]
theorem big64 : (1000000000 : Nat) ^ 60 < 1000000000 ^ 64 := by decide
theorem abs2 {a b : Int} (h1 : a.natAbs < 1000000000 ^ 60) (h : b.natAbs < 1000000000 ^ 60) : (a + b).natAbs < 1000000000 ^ 64 := by
  have := two60
  omega

end Go.Proofs.YtommakdomnaclaaDoor
