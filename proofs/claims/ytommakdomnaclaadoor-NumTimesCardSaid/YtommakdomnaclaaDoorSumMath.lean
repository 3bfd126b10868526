/- Sums and differences of digits. No walk here. -/
import Derived.Test.YtommakdomnaclaaDoorMkMath
import Derived.Test.YtommakdomnaclaaDoorCompare
namespace Go.Proofs.YtommakdomnaclaaDoor
open Go.RowKit

theorem D_less {f g : Nat → Nat} (hf : ∀ i, f i < 10) {k n : Nat} (hk : k < n) (hlt : f k < g k) (heq : ∀ j, k < j → j < n → f j = g j) : D f n < D g n := by
  induction n with
  | zero => omega
  | succ n ih =>
    simp only [D]
    by_cases e : k = n
    · subst e
      have h1 := D_lt hf k
      have h2 : (f k + 1) * 10 ^ k ≤ g k * 10 ^ k := Nat.mul_le_mul_right _ hlt
      rw [Nat.add_mul, Nat.one_mul] at h2
      omega
    · have := ih (by omega) (fun j h1 h2 => heq j h1 (by omega))
      rw [heq n (by omega) (by omega)]
      omega

/-- What the loop of plus holds. -/
structure SumInv (xs ys rs : List Nat) (i c : Nat) : Prop where
  b : Db rs
  len : rs.length = i
  eq : dval rs + c * 10 ^ i = D (limb xs) i + D (limb ys) i
  small : c ≤ 1
theorem SumInv.start (xs ys : List Nat) : SumInv xs ys [] 0 0 := ⟨Db.nil, rfl, rfl, by omega⟩
theorem SumInv.step {xs ys rs : List Nat} {i c : Nat} (h : SumInv xs ys rs i c) (hx : Db xs) (hy : Db ys) {s : Nat} (hs : s = c + limb xs i + limb ys i) : SumInv xs ys (rs ++ [s % 10]) (i + 1) (s / 10) := by
  have he := h.eq
  have h1 := hx i
  have h2 := hy i
  have h3 := h.small
  have hd := Nat.div_add_mod s 10
  refine ⟨h.b.snoc (by omega), by simp [h.len], ?_, by omega⟩
  rw [dval_snoc, h.len, Nat.pow_succ]
  simp only [D]
  generalize s / 10 = q at *
  generalize s % 10 = r at *
  generalize limb xs i = x at *
  generalize limb ys i = y at *
  generalize D (limb xs) i = X at *
  generalize D (limb ys) i = Y at *
  generalize 10 ^ i = P at *
  generalize dval rs = R at *
  subst hs
  clear h h1 h2 h3 hx hy
  have e : (10 * q + r) * P = (c + x + y) * P := by rw [hd]
  grind
theorem SumInv.done {xs ys rs : List Nat} {i c : Nat} (h : SumInv xs ys rs i c) (hx : xs.length ≤ i) (hy : ys.length ≤ i) : Db (rs ++ [c]) ∧ dval (rs ++ [c]) = dval xs + dval ys := by
  have := h.small
  refine ⟨h.b.snoc (by omega), ?_⟩
  rw [dval_snoc, h.len, h.eq, dval_eq hx, dval_eq hy]

/-- What the loop of minus holds. -/
structure DifInv (xs ys rs : List Nat) (i c : Nat) : Prop where
  b : Db rs
  len : rs.length = i
  eq : dval rs + D (limb ys) i = D (limb xs) i + c * 10 ^ i
  small : c ≤ 1
theorem DifInv.start (xs ys : List Nat) : DifInv xs ys [] 0 0 := ⟨Db.nil, rfl, rfl, by omega⟩
theorem DifInv.step {xs ys rs : List Nat} {i c : Nat} (h : DifInv xs ys rs i c) {t c' : Nat} (ht : t < 10) (hc' : c' ≤ 1) (hs : t + (c + limb ys i) = limb xs i + 10 * c') : DifInv xs ys (rs ++ [t]) (i + 1) c' := by
  have he := h.eq
  refine ⟨h.b.snoc ht, by simp [h.len], ?_, hc'⟩
  rw [dval_snoc, h.len, Nat.pow_succ]
  simp only [D]
  generalize limb xs i = x at *
  generalize limb ys i = y at *
  generalize D (limb xs) i = X at *
  generalize D (limb ys) i = Y at *
  generalize 10 ^ i = P at *
  generalize dval rs = R at *
  clear h ht hc'
  have e : (t + (c + y)) * P = (x + 10 * c') * P := by rw [hs]
  grind
theorem DifInv.done {xs ys rs : List Nat} {c : Nat} (h : DifInv xs ys rs xs.length c) (hy : ys.length ≤ xs.length) (hle : dval ys ≤ dval xs) : dval rs = dval xs - dval ys := by
  have he := h.eq
  rw [dval_eq hy, dval_eq (Nat.le_refl _)] at he
  have hl := dval_lt h.b
  rw [h.len] at hl
  have hc := h.small
  rcases (by omega : c = 0 ∨ c = 1) with rfl | rfl
  · omega
  · rw [Nat.one_mul] at he; omega
theorem Top.mono {xs ys : List Nat} (hx : Db xs) (hy : Db ys) (ht : Top ys) (hle : dval ys ≤ dval xs) : ys.length ≤ xs.length :=
  (ht.len hy).2 (Nat.lt_of_le_of_lt hle (dval_lt hx))
theorem Top.less {xs ys : List Nat} (hx : Db xs) (hy : Db ys) (ht : Top ys) (hl : xs.length < ys.length) : dval xs < dval ys := by
  apply Classical.byContradiction
  intro h
  have := ht.mono hx hy (by omega)
  omega
end Go.Proofs.YtommakdomnaclaaDoor
