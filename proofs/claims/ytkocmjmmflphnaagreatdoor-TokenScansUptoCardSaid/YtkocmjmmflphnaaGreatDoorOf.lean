/- num.Of -/
import Derived.Test.YtkocmjmmflphnaaGreatDoorAdd
namespace Go.Proofs.YtkocmjmmflphnaaGreatDoor
open Go.RowKit

/-- What the loop of Of holds: rs is done, s is left of N. -/
structure OfInv (N : Nat) (rs : List Nat) (s : Nat) : Prop where
  lb : Lb rs
  eq : val rs + s * 1000000000 ^ rs.length = N
  top : s = 0 → rs ≠ [] → limb rs (rs.length - 1) ≠ 0
  len : rs.length ≤ 3
  small : 1 ≤ s → rs.length ≤ 2

theorem limb_snoc {rs : List Nat} {d i : Nat} : limb (rs ++ [d]) i = if i < rs.length then limb rs i else if i = rs.length then d else 0 := by
  unfold limb
  simp only [List.getD_eq_getElem?_getD, List.getElem?_append]
  split
  · rfl
  · split
    · next h => subst h; simp
    · rw [List.getElem?_eq_none (by simp; omega)]; rfl
theorem val_snoc (rs : List Nat) (d : Nat) : val (rs ++ [d]) = val rs + d * 1000000000 ^ rs.length := by
  unfold val
  have e : (rs ++ [d]).length = rs.length + 1 := by simp
  rw [e]
  simp only [V]
  rw [limb_snoc, if_neg (by omega), if_pos rfl]
  congr 1
  exact V_congr fun i hi => by rw [limb_snoc, if_pos hi]
theorem Lb.snoc {rs : List Nat} (h : Lb rs) {d : Nat} (hd : d < 1000000000) : Lb (rs ++ [d]) := by
  intro i; rw [limb_snoc]; split
  · exact h i
  · split <;> omega
theorem OfInv.step {N : Nat} {rs : List Nat} {s : Nat} (h : OfInv N rs s) (hs : 1 ≤ s) (hN : N ≤ 9223372036854775808) : OfInv N (rs ++ [s % 1000000000]) (s / 1000000000) := by
  have h2 := h.small hs
  have he := h.eq
  refine ⟨h.lb.snoc (by omega), ?_, fun h0 _ => ?_, by simp; omega, fun h1 => ?_⟩
  · rw [val_snoc]
    have e : (rs ++ [s % 1000000000]).length = rs.length + 1 := by simp
    rw [e, Nat.pow_succ]
    have hd := Nat.div_add_mod s 1000000000
    generalize s / 1000000000 = q at *
    generalize s % 1000000000 = r at *
    generalize 1000000000 ^ rs.length = P at *
    generalize val rs = x at *
    clear h2 h e
    subst hd
    grind
  · have e : (rs ++ [s % 1000000000]).length - 1 = rs.length := by simp
    rw [e, limb_snoc, if_neg (by omega), if_pos rfl]
    omega
  · have e : (rs ++ [s % 1000000000]).length = rs.length + 1 := by simp
    rw [e]
    rcases (by omega : rs.length = 0 ∨ rs.length = 1 ∨ rs.length = 2) with e2 | e2 | e2
    · omega
    · omega
    · rw [e2] at he
      omega
theorem OfInv.le {N : Nat} {rs : List Nat} {s : Nat} (h : OfInv N rs s) : s ≤ N := by
  have := h.eq
  have h2 : s * 1 ≤ s * 1000000000 ^ rs.length := Nat.mul_le_mul_left _ (Nat.pow_pos (by omega))
  omega
theorem OfInv.start (N : Nat) : OfInv N [] N := ⟨fun i => by rw [limb_out (by simp)]; omega, by simp [val, V], fun _ h => absurd rfl h, by simp, fun _ => by simp⟩

/-- What Of answers. -/
def OfPost (n : Int) (w : World) (e : Ending) (w' : World) : Prop :=
  ∃ v neg rs, e = .returned v ∧ IntV w' v neg rs ∧ Below w.heap.size w w' ∧ Snd neg rs ∧ ival neg rs = n

theorem wrap_neg (n : Int) (h1 : -9223372036854775808 ≤ n) (h2 : n < 0) : IntKind.u64.wrap (-IntKind.u64.wrap n) = -n := by
  rw [IntKind.wrap_u64, IntKind.wrap_u64]; omega

end Go.Proofs.YtkocmjmmflphnaaGreatDoor
