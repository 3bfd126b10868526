/- num.plus | num.minus | num.compare -/
import Derived.Test.YtbfcbicbeagjkaaDoorLook
namespace Go.Proofs.YtbfcbicbeagjkaaDoor
open Go.RowKit

/-- What a loop of plus holds behind k rounds. -/
def PlusInv (xs ys rs : List Nat) (k cc : Nat) : Prop :=
  Lb rs ∧ cc ≤ 1 ∧ V (limb rs) k + cc * 1000000000 ^ k = V (limb xs) k + V (limb ys) k

theorem PlusInv.step {xs ys rs : List Nat} {k cc : Nat} (h : PlusInv xs ys rs k cc) (hx : Lb xs) (hy : Lb ys) (hk : k < rs.length) :
    PlusInv xs ys (rs.set k ((limb xs k + limb ys k + cc) % 1000000000)) (k + 1) ((limb xs k + limb ys k + cc) / 1000000000) := by
  obtain ⟨h1, h2, h3⟩ := h
  have hxk := hx k
  have hyk := hy k
  refine ⟨h1.set hk (by omega), by omega, ?_⟩
  have e : V (limb (rs.set k ((limb xs k + limb ys k + cc) % 1000000000))) k = V (limb rs) k := V_congr fun i hi => by rw [limb_set hk, if_neg (by omega)]
  simp only [V]
  rw [e, limb_set hk, if_pos rfl, Nat.pow_succ]
  generalize 1000000000 ^ k = P at *
  have hd := Nat.div_add_mod (limb xs k + limb ys k + cc) 1000000000
  generalize (limb xs k + limb ys k + cc) / 1000000000 = q at *
  generalize (limb xs k + limb ys k + cc) % 1000000000 = r at *
  generalize limb xs k = x at *
  generalize limb ys k = y at *
  clear e hxk hyk h1
  grind

theorem PlusInv.done {xs ys rs : List Nat} {n cc : Nat} (h : PlusInv xs ys rs (n + 1) cc) (hx : Lb xs) (hy : Lb ys) (hxn : xs.length ≤ n) (hyn : ys.length ≤ n) (hr : rs.length = n + 1) : Lb rs ∧ val rs = val xs + val ys := by
  obtain ⟨h1, h2, h3⟩ := h
  rw [val_eq (n := n + 1) (by omega), val_eq (n := n + 1) (xs := ys) (by omega), val_eq (by omega)] at h3
  have a := V_lt hx n
  have b := V_lt hy n
  rw [val_eq hxn] at a
  rw [val_eq hyn] at b
  rw [Nat.pow_succ] at h3
  have c : cc = 0 := by
    rcases (by omega : cc = 0 ∨ cc = 1) with c | c
    · exact c
    · subst c; omega
  subst c
  exact ⟨h1, by omega⟩

end Go.Proofs.YtbfcbicbeagjkaaDoor
namespace Go.Proofs.YtbfcbicbeagjkaaDoor
open Go.RowKit

/-- What the loop of minus holds behind k rounds. -/
def MinusInv (xs ys rs : List Nat) (k cc : Nat) : Prop :=
  Lb rs ∧ cc ≤ 1 ∧ V (limb rs) k + V (limb ys) k = V (limb xs) k + cc * 1000000000 ^ k

theorem MinusInv.step {xs ys rs : List Nat} {k cc : Nat} (h : MinusInv xs ys rs k cc) (hx : Lb xs) (hy : Lb ys) (hk : k < rs.length) :
    MinusInv xs ys (rs.set k ((limb xs k + 1000000000 - limb ys k - cc) % 1000000000)) (k + 1) (1 - (limb xs k + 1000000000 - limb ys k - cc) / 1000000000) := by
  obtain ⟨h1, h2, h3⟩ := h
  have hxk := hx k
  have hyk := hy k
  refine ⟨h1.set hk (by omega), by omega, ?_⟩
  have e : V (limb (rs.set k ((limb xs k + 1000000000 - limb ys k - cc) % 1000000000))) k = V (limb rs) k := V_congr fun i hi => by rw [limb_set hk, if_neg (by omega)]
  simp only [V]
  rw [e, limb_set hk, if_pos rfl, Nat.pow_succ]
  generalize 1000000000 ^ k = P at *
  obtain ⟨t, ht⟩ : ∃ t, t = limb xs k + 1000000000 - limb ys k - cc := ⟨_, rfl⟩
  rw [← ht]
  have ht2 : t + limb ys k + cc = limb xs k + 1000000000 := by omega
  have hd := Nat.div_add_mod t 1000000000
  have hq : t / 1000000000 + (1 - t / 1000000000) = 1 := by omega
  generalize 1 - t / 1000000000 = q' at *
  generalize t / 1000000000 = q at *
  generalize t % 1000000000 = r at *
  generalize limb xs k = x at *
  generalize limb ys k = y at *
  clear e hxk hyk h1 ht
  grind

theorem MinusInv.done {xs ys rs : List Nat} {cc : Nat} (h : MinusInv xs ys rs xs.length cc) (hyn : ys.length ≤ xs.length) (hle : val ys ≤ val xs) (hr : rs.length = xs.length) : Lb rs ∧ val rs = val xs - val ys := by
  obtain ⟨h1, h2, h3⟩ := h
  have a := val_lt h1
  rw [val_eq (n := xs.length) (by omega), val_eq (n := xs.length) (xs := ys) (by omega), val_eq (by omega)] at h3
  have c : cc = 0 := by
    rcases (by omega : cc = 0 ∨ cc = 1) with c | c
    · exact c
    · subst c; rw [hr] at a; omega
  subst c
  exact ⟨h1, by omega⟩

end Go.Proofs.YtbfcbicbeagjkaaDoor
namespace Go.Proofs.YtbfcbicbeagjkaaDoor
open Go.RowKit

end Go.Proofs.YtbfcbicbeagjkaaDoor
