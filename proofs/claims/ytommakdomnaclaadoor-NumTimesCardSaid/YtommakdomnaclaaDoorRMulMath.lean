/- Products of digits, column by column. No walk here. -/
import Derived.Test.YtommakdomnaclaaDoorSumMath
namespace Go.Proofs.YtommakdomnaclaaDoor
open Go.RowKit

theorem D_set {xs : List Nat} {p t : Nat} (hp : p < xs.length) {N : Nat} (hN : p < N) : D (limb (xs.set p t)) N + limb xs p * 10 ^ p = D (limb xs) N + t * 10 ^ p := by
  induction N with
  | zero => omega
  | succ N ih =>
    simp only [D]
    by_cases e : p = N
    · subst e
      have h1 : D (limb (xs.set p t)) p = D (limb xs) p := D_congr fun i hi => by rw [limb_set hp, if_neg (by omega)]
      rw [h1, limb_set hp, if_pos rfl]
      omega
    · have h := ih (by omega)
      have h2 : limb (xs.set p t) N = limb xs N := by rw [limb_set hp, if_neg (by omega)]
      rw [h2]
      omega

/-- The columns behind i rows. -/
structure ColOut (xs ys rs : List Nat) (i : Nat) : Prop where
  len : rs.length = xs.length + ys.length + 1
  eq : dval rs = D (limb xs) i * dval ys
  small : ∀ j, limb rs j ≤ 81 * i
/-- .. and k digits of the next one. -/
structure ColIn (xs ys rs : List Nat) (i k : Nat) : Prop where
  len : rs.length = xs.length + ys.length + 1
  eq : dval rs = D (limb xs) i * dval ys + limb xs i * 10 ^ i * D (limb ys) k
  done : ∀ j, limb rs j ≤ 81 * i + 81
  left : ∀ j, i + k ≤ j → limb rs j ≤ 81 * i
theorem ColOut.start (xs ys : List Nat) : ColOut xs ys (List.replicate (xs.length + ys.length + 1) 0) 0 := by
  refine ⟨by simp, ?_, fun j => by rw [limb_replicate]; omega⟩
  have : ∀ n, D (limb (List.replicate (xs.length + ys.length + 1) 0)) n = 0 := by
    intro n
    induction n with
    | zero => rfl
    | succ n ih => simp only [D]; rw [ih, limb_replicate]; omega
  unfold dval
  rw [this]
  simp [D]
theorem ColOut.inn {xs ys rs : List Nat} {i : Nat} (h : ColOut xs ys rs i) : ColIn xs ys rs i 0 :=
  ⟨h.len, by rw [h.eq]; simp [D], fun j => by have := h.small j; omega, fun j _ => h.small j⟩
theorem digit_mul {x y : Nat} (hx : x < 10) (hy : y < 10) : x * y ≤ 81 := by
  have := Nat.mul_le_mul (show x ≤ 9 by omega) (show y ≤ 9 by omega)
  omega
theorem ColIn.step {xs ys rs : List Nat} {i k : Nat} (h : ColIn xs ys rs i k) (hx : Db xs) (hy : Db ys) (hi : i < xs.length) (hk : k < ys.length) : ColIn xs ys (rs.set (i + k) (limb rs (i + k) + limb xs i * limb ys k)) i (k + 1) := by
  have hl := h.len
  have hp : i + k < rs.length := by omega
  have hm := digit_mul (hx i) (hy k)
  refine ⟨by simp [hl], ?_, fun j => ?_, fun j hj => ?_⟩
  · have hs := D_set (t := limb rs (i + k) + limb xs i * limb ys k) hp hp
    have he := h.eq
    unfold dval at he ⊢
    rw [List.length_set]
    rw [he] at hs
    simp only [D]
    rw [Nat.pow_add] at hs
    generalize D (limb (rs.set (i + k) (limb rs (i + k) + limb xs i * limb ys k))) rs.length = A at *
    generalize limb rs (i + k) = r at *
    generalize limb xs i = x at *
    generalize limb ys k = y at *
    generalize 10 ^ i = P at *
    generalize 10 ^ k = Q at *
    generalize D (limb ys) k = Y at *
    generalize D (limb xs) i = X at *
    generalize D (limb ys) ys.length = Z at *
    clear he hm hp hl h hi hk hx hy
    have e : (r + x * y) * (P * Q) = r * (P * Q) + x * P * (y * Q) := by grind
    rw [e] at hs
    have e2 : x * P * (Y + y * Q) = x * P * Y + x * P * (y * Q) := Nat.mul_add _ _ _
    rw [e2]
    omega
  · rw [limb_set hp]
    split
    · have := h.left (i + k) (Nat.le_refl _); omega
    · exact h.done j
  · rw [limb_set hp, if_neg (by omega)]
    exact h.left j (by omega)
theorem ColIn.next {xs ys rs : List Nat} {i : Nat} (h : ColIn xs ys rs i ys.length) : ColOut xs ys rs (i + 1) := by
  refine ⟨h.len, ?_, fun j => by have := h.done j; omega⟩
  rw [h.eq]
  simp only [D]
  rw [Nat.add_mul]
  rfl

/-- The carrying. -/
structure Carry (xs ys rs ds : List Nat) (p c : Nat) : Prop where
  b : Db ds
  len : ds.length = p
  eq : dval ds + c * 10 ^ p = D (limb rs) p
  small : c ≤ 81000000
theorem Carry.start (xs ys rs : List Nat) : Carry xs ys rs [] 0 0 := ⟨Db.nil, rfl, rfl, by omega⟩
theorem Carry.step {xs ys rs ds : List Nat} {p c : Nat} (h : Carry xs ys rs ds p c) (hr : limb rs p ≤ 81000000) : Carry xs ys rs (ds ++ [(c + limb rs p) % 10]) (p + 1) ((c + limb rs p) / 10) := by
  have hs := h.small
  have he := h.eq
  have hd := Nat.div_add_mod (c + limb rs p) 10
  refine ⟨h.b.snoc (by omega), by simp [h.len], ?_, by omega⟩
  rw [dval_snoc, h.len, Nat.pow_succ]
  simp only [D]
  have e : (10 * ((c + limb rs p) / 10) + (c + limb rs p) % 10) * 10 ^ p = (c + limb rs p) * 10 ^ p := by rw [hd]
  generalize (c + limb rs p) / 10 = q at *
  generalize (c + limb rs p) % 10 = r at *
  generalize limb rs p = x at *
  generalize D (limb rs) p = X at *
  generalize 10 ^ p = P at *
  generalize dval ds = R at *
  clear hd hs h hr
  grind
theorem Carry.done {xs ys rs ds : List Nat} {c : Nat} (h : Carry xs ys rs ds rs.length c) (ho : ColOut xs ys rs xs.length) (hx : Db xs) (hy : Db ys) : dval ds = dval xs * dval ys := by
  have he := h.eq
  have hr : D (limb rs) rs.length = dval xs * dval ys := ho.eq
  rw [hr] at he
  have h1 := dval_lt hx
  have h2 := dval_lt hy
  have h3 : dval xs * dval ys < 10 ^ (xs.length + ys.length) := by
    rw [Nat.pow_add]
    exact Nat.mul_lt_mul'' h1 h2
  have h4 : 10 ^ (xs.length + ys.length) ≤ 10 ^ rs.length := Nat.pow_le_pow_right (by omega) (by rw [ho.len]; omega)
  rcases Nat.eq_zero_or_pos c with h0 | h0
  · subst h0; omega
  · have : 1 * 10 ^ rs.length ≤ c * 10 ^ rs.length := Nat.mul_le_mul_right _ h0
    omega
end Go.Proofs.YtommakdomnaclaaDoor
