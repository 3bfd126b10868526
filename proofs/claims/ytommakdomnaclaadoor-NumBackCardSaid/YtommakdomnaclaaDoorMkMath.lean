/- Numbers made of digits. No walk here. -/
import Derived.Test.YtommakdomnaclaaDoorDigMath
namespace Go.Proofs.YtommakdomnaclaaDoor
open Go.RowKit

/-- What the outer loop of Make holds: q limbs are made of the digits ds. -/
structure MkOut (ds rs : List Nat) (q : Nat) : Prop where
  b : Lb rs
  len : rs.length = q
  eq : val rs = D (limb ds) (9 * q)
  most : q = 0 ∨ 9 * q < ds.length + 9
/-- What its inner loop holds: x is made of the digits from 9q+k on. -/
structure MkIn (ds : List Nat) (q x k : Nat) : Prop where
  eq : x * 10 ^ (9 * q + k) + D (limb ds) (9 * q + k) = D (limb ds) (9 * q + 9)
  small : x * 10 ^ k < 1000000000
theorem MkOut.start (ds : List Nat) : MkOut ds [] 0 := ⟨fun i => by rw [limb_out (by simp)]; omega, rfl, rfl, .inl rfl⟩
theorem MkIn.start (ds : List Nat) (q : Nat) : MkIn ds q 0 9 := ⟨by omega, by omega⟩
theorem MkIn.lt {ds : List Nat} {q x k : Nat} (h : MkIn ds q x k) : x < 1000000000 := by
  have := h.small
  have h2 : x * 1 ≤ x * 10 ^ k := Nat.mul_le_mul_left _ (Nat.pow_pos (by omega))
  omega
theorem MkIn.ten {ds : List Nat} {q x k : Nat} (h : MkIn ds q x (k + 1)) : x * 10 < 1000000000 := by
  have := h.small
  rw [Nat.pow_succ] at this
  have h2 : x * 10 * 1 ≤ x * 10 * 10 ^ k := Nat.mul_le_mul_left _ (Nat.pow_pos (by omega))
  have e : x * (10 ^ k * 10) = x * 10 * 10 ^ k := by rw [Nat.mul_comm (10 ^ k), Nat.mul_assoc]
  omega
theorem ten_step {x d k : Nat} (hd : d < 10) (hk : k < 9) (h : x * (10 ^ k * 10) < 1000000000) : (x * 10 + d) * 10 ^ k < 1000000000 := by
  have e : 10 ^ (8 - k) * (10 ^ k * 10) = 1000000000 := by
    rw [← Nat.mul_assoc, ← Nat.pow_add, show 8 - k + k = 8 by omega]
  have hP : 0 < 10 ^ k := Nat.pow_pos (by omega)
  rw [← e] at h ⊢
  have h1 : x < 10 ^ (8 - k) := Nat.lt_of_mul_lt_mul_right h
  have h2 : (x + 1) * (10 ^ k * 10) ≤ 10 ^ (8 - k) * (10 ^ k * 10) := Nat.mul_le_mul_right _ h1
  refine Nat.lt_of_lt_of_le ?_ h2
  rw [← Nat.mul_assoc, Nat.mul_right_comm]
  exact Nat.mul_lt_mul_of_pos_right (by omega) hP
theorem MkIn.step {ds : List Nat} {q x k : Nat} (h : MkIn ds q x (k + 1)) (hb : Db ds) (hk : k < 9) : MkIn ds q (x * 10 + limb ds (9 * q + k)) k := by
  have he := h.eq
  have hs := h.small
  have hd := hb (9 * q + k)
  rw [← Nat.add_assoc (9 * q), Nat.pow_succ] at he
  rw [Nat.pow_succ] at hs
  refine ⟨?_, ?_⟩
  · rw [← he]
    simp only [D]
    generalize limb ds (9 * q + k) = d
    generalize D (limb ds) (9 * q + k) = s
    generalize 10 ^ (9 * q + k) = P
    clear he hs hd
    grind
  · exact ten_step hd hk hs
/-- .. where no digit stands. -/
theorem MkIn.step0 {ds : List Nat} {q x k : Nat} (h : MkIn ds q x (k + 1)) (hb : Db ds) (hk : k < 9) (hl : ds.length ≤ 9 * q + k) : MkIn ds q (x * 10) k := by
  have := h.step hb hk
  rwa [limb_out hl, Nat.add_zero] at this
theorem MkIn.next {ds rs : List Nat} {q x : Nat} (h : MkIn ds q x 0) (ho : MkOut ds rs q) (hl : 9 * q < ds.length) : MkOut ds (rs ++ [x]) (q + 1) := by
  have he := h.eq
  refine ⟨ho.b.snoc h.lt, by simp [ho.len], ?_, .inr (by omega)⟩
  rw [val_snoc, ho.eq, ho.len, show 9 * (q + 1) = 9 * q + 9 by omega, ← he, Nat.add_zero, pow9]
  omega
/-- What is made in the end. -/
theorem MkOut.done {ds rs : List Nat} {q : Nat} (h : MkOut ds rs q) (ht : Top ds) (hl : ds.length ≤ 9 * q) (h64 : ds.length ≤ 576) {neg neg' : Bool} (hn : neg' = (neg && decide (0 < ds.length))) :
    Snd neg' rs ∧ val rs = dval ds ∧ (rs ≠ [] → neg' = neg) := by
  have hm := h.most
  have hv : val rs = dval ds := by rw [h.eq, dval_eq hl]
  have hlen := h.len
  refine ⟨⟨by omega, h.b, fun e => ?_, fun e => ?_⟩, hv, fun e => ?_⟩
  · subst e
    have : ds = [] := ht.zero (by rw [← hv]; rfl)
    subst this
    simp [hn]
  · have hq : 0 < rs.length := List.length_pos_iff.2 e
    intro h0
    obtain ⟨p, hp⟩ : ∃ p, rs.length = p + 1 := ⟨rs.length - 1, by omega⟩
    have hne : ds ≠ [] := by intro h; rw [h] at hm; simp at hm; omega
    have hg := ht.le hne
    have hlt : val rs < 1000000000 ^ p := by
      unfold val
      rw [hp] at h0 ⊢
      simp only [Nat.add_sub_cancel] at h0
      simp only [V, h0]
      have := V_lt h.b p
      omega
    have : 10 ^ (9 * p) ≤ 10 ^ (ds.length - 1) := Nat.pow_le_pow_right (by omega) (by omega)
    rw [pow9] at this
    omega
  · have : 0 < ds.length := by
      have hq : 0 < rs.length := List.length_pos_iff.2 e
      omega
    simp [hn, this]
end Go.Proofs.YtommakdomnaclaaDoor
