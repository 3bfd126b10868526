/- Long division by decimal digits: what ref.Divide keeps. No walk here. -/
import Derived.Test.YtiekhjgfnmochaaDoorDivMath
namespace Go.Proofs.YtiekhjgfnmochaaDoor
open Go.RowKit

theorem D_ahead (f : Nat → Nat) (n : Nat) : D f (n + 1) = f 0 + 10 * D (fun i => f (i + 1)) n := by
  induction n with
  | zero => simp [D]
  | succ n ih =>
    have e : D f (n + 1 + 1) = D f (n + 1) + f (n + 1) * 10 ^ (n + 1) := rfl
    rw [e, ih]
    simp only [D]
    rw [Nat.pow_succ, Nat.mul_add]
    have : f (n + 1) * (10 ^ n * 10) = 10 * (f (n + 1) * 10 ^ n) := by rw [← Nat.mul_assoc, Nat.mul_comm]
    omega
/-- The number of the digits from the i-th on. -/
def Hd (ds : List Nat) (i : Nat) : Nat := D (fun j => limb ds (i + j)) (ds.length - i)
theorem Hd_zero (ds : List Nat) : Hd ds 0 = dval ds := by unfold Hd dval; simp
theorem Hd_step {ds : List Nat} {i : Nat} (h : i < ds.length) : Hd ds i = limb ds i + 10 * Hd ds (i + 1) := by
  obtain ⟨m, hm⟩ : ∃ m, ds.length - i = m + 1 := ⟨ds.length - i - 1, by omega⟩
  have hm2 : ds.length - (i + 1) = m := by omega
  unfold Hd
  rw [hm, hm2, D_ahead]
  have e : (fun j => limb ds (i + (j + 1))) = fun j => limb ds (i + 1 + j) := by
    funext j; congr 1; omega
  rw [e]
  rfl
theorem Hd_end {ds : List Nat} {i : Nat} (h : ds.length ≤ i) : Hd ds i = 0 := by
  unfold Hd
  rw [show ds.length - i = 0 from by omega]
  rfl
theorem Hd_set {ds : List Nat} {k t i : Nat} (hk : k < ds.length) (h : k < i) : Hd (ds.set k t) i = Hd ds i := by
  unfold Hd
  rw [List.length_set]
  exact D_congr fun j _ => by rw [limb_set hk, if_neg (by omega)]

/-- What the outer loop keeps: the digits from the k-th on have been divided. -/
structure QInv (xs qs : List Nat) (Y k r : Nat) : Prop where
  len : qs.length = xs.length
  b : Db qs
  lt : r < Y
  eq : Hd qs k * Y + r = Hd xs k
  low : ∀ j, j < k → limb qs j = 0
/-- What the inner loop keeps: c times it went in. -/
structure QIn (xs qs : List Nat) (Y k r c : Nat) : Prop where
  len : qs.length = xs.length
  b : Db qs
  lt : c * Y + r < 10 * Y
  eq : (10 * Hd qs (k + 1) + c) * Y + r = Hd xs k
  low : ∀ j, j < k → limb qs j = 0
  dig : limb qs k = c
theorem QInv.start (xs : List Nat) {Y : Nat} (hY : 1 ≤ Y) : QInv xs (List.replicate xs.length 0) Y xs.length 0 :=
  ⟨by simp, fun i => by rw [limb_replicate]; omega, hY, by rw [Hd_end (by simp), Hd_end (Nat.le_refl _)]; omega, fun j _ => limb_replicate _ _⟩
theorem QInv.inn {xs qs : List Nat} {Y k r : Nat} (h : QInv xs qs Y (k + 1) r) (hx : Db xs) (hk : k < xs.length) : QIn xs qs Y k (limb xs k + 10 * r) 0 := by
  have h1 := h.lt
  have h2 := h.eq
  have h3 := hx k
  refine ⟨h.len, h.b, by omega, ?_, fun j hj => h.low j (by omega), h.low k (by omega)⟩
  rw [Hd_step hk, ← h2, Nat.add_zero, Nat.mul_add, Nat.mul_assoc]
  omega
theorem QIn.small {xs qs : List Nat} {Y k r c : Nat} (h : QIn xs qs Y k r c) (hr : Y ≤ r) : c + 1 < 10 := by
  have h1 := h.lt
  apply Classical.byContradiction
  intro hc
  have : 9 * Y ≤ c * Y := Nat.mul_le_mul_right _ (by omega)
  omega
theorem QIn.step {xs qs : List Nat} {Y k r c : Nat} (h : QIn xs qs Y k r c) (hr : Y ≤ r) (hk : k < xs.length) : QIn xs (qs.set k (c + 1)) Y k (r - Y) (c + 1) := by
  have hc := h.small hr
  have h1 := h.lt
  have h2 := h.eq
  have hkq : k < qs.length := by rw [h.len]; exact hk
  refine ⟨by rw [List.length_set]; exact h.len, fun i => ?_, ?_, ?_, fun j hj => ?_, ?_⟩
  · rw [limb_set hkq]
    split
    · omega
    · exact h.b i
  · rw [Nat.add_mul]; omega
  · rw [Hd_set hkq (by omega), ← h2, ← Nat.add_assoc, Nat.add_mul _ 1]
    omega
  · rw [limb_set hkq, if_neg (by omega)]
    exact h.low j hj
  · rw [limb_set hkq, if_pos rfl]
theorem QIn.next {xs qs : List Nat} {Y k r c : Nat} (h : QIn xs qs Y k r c) (hr : r < Y) (hk : k < xs.length) : QInv xs qs Y k r := by
  have hkq : k < qs.length := by rw [h.len]; exact hk
  refine ⟨h.len, h.b, hr, ?_, h.low⟩
  rw [Hd_step hkq, h.dig, ← h.eq, Nat.add_comm c]
theorem QInv.done {xs qs : List Nat} {Y r : Nat} (h : QInv xs qs Y 0 r) : dval qs = dval xs / Y ∧ r = dval xs % Y := by
  have e := h.eq
  rw [Hd_zero, Hd_zero] at e
  have hY : 0 < Y := by have := h.lt; omega
  rw [← e]
  constructor
  · rw [Nat.mul_comm, Nat.mul_add_div hY, Nat.div_eq_of_lt h.lt]
    omega
  · rw [Nat.mul_comm, Nat.mul_add_mod, Nat.mod_eq_of_lt h.lt]
/-- A digit put ahead of digits. -/
theorem dval_ahead (d : Nat) (ds : List Nat) : dval ([d] ++ ds) = d + 10 * dval ds := by
  unfold dval
  rw [show ([d] ++ ds).length = ds.length + 1 by simp]
  exact D_cons d ds _
theorem Db.ahead {ds : List Nat} (h : Db ds) {d : Nat} (hd : d < 10) : Db ([d] ++ ds) := by
  intro i
  rcases i with _ | i
  · exact hd
  · show limb ds i < 10
    exact h i
end Go.Proofs.YtiekhjgfnmochaaDoor
