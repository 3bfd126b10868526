/- Products limb by limb: the numbers alone. -/
import Derived.Test.YtiekhjgfnmochaaDoorBase
namespace Go.Proofs.YtiekhjgfnmochaaDoor

theorem V_set {xs : List Nat} {p t : Nat} (hp : p < xs.length) {N : Nat} (hN : p < N) : V (limb (xs.set p t)) N + limb xs p * 1000000000 ^ p = V (limb xs) N + t * 1000000000 ^ p := by
  induction N with
  | zero => omega
  | succ N ih =>
    simp only [V]
    by_cases e : p = N
    · subst e
      have h1 : V (limb (xs.set p t)) p = V (limb xs) p := V_congr fun i hi => by rw [limb_set hp, if_neg (by omega)]
      rw [h1, limb_set hp, if_pos rfl]
      omega
    · have := ih (by omega)
      have h2 : limb (xs.set p t) N = limb xs N := by rw [limb_set hp, if_neg (by omega)]
      rw [h2]
      omega

/-- What the inner loop of times holds behind j rounds: rs0 is what the outer one left. -/
structure TimesIn (ys rs0 rs : List Nat) (i x m N j cc : Nat) : Prop where
  lb : Lb rs
  len : rs.length = N
  small : cc < 1000000000
  far : ∀ p, i + j ≤ p → limb rs p = limb rs0 p
  eq : V (limb rs) N + cc * 1000000000 ^ (i + j) = V (limb rs0) N + x * V (limb ys) j * 1000000000 ^ i
  last : m < j → cc = 0

theorem TimesIn.step {ys rs0 rs : List Nat} {i x m N j cc : Nat} (h : TimesIn ys rs0 rs i x m N j cc) (hx : x < 1000000000) (hy : Lb ys) (hm : ys.length ≤ m) (hj : j ≤ m) (hN : i + j < N) (h0 : limb rs0 (i + m) = 0) :
    TimesIn ys rs0 (rs.set (i + j) ((limb rs (i + j) + x * limb ys j + cc) % 1000000000)) i x m N (j + 1) ((limb rs (i + j) + x * limb ys j + cc) / 1000000000) := by
  have hp : i + j < rs.length := by rw [h.len]; exact hN
  have hr := h.lb (i + j)
  have hyj := hy j
  have hc := h.small
  have hxy : x * limb ys j ≤ 999999999 * 999999999 := Nat.mul_le_mul (by omega) (by omega)
  refine ⟨h.lb.set hp (by omega), by rw [List.length_set]; exact h.len, by omega, fun p hp' => ?_, ?_, fun hl => ?_⟩
  · rw [limb_set hp, if_neg (by omega)]
    exact h.far p (by omega)
  · have hs := V_set (t := (limb rs (i + j) + x * limb ys j + cc) % 1000000000) hp hN
    have he := h.eq
    have hd := Nat.div_add_mod (limb rs (i + j) + x * limb ys j + cc) 1000000000
    generalize (limb rs (i + j) + x * limb ys j + cc) / 1000000000 = q at *
    generalize (limb rs (i + j) + x * limb ys j + cc) % 1000000000 = t at *
    simp only [V]
    have e1 : (1000000000 : Nat) ^ (i + (j + 1)) = 1000000000 ^ (i + j) * 1000000000 := by rw [← Nat.add_assoc, Nat.pow_succ]
    have e2 : (1000000000 : Nat) ^ (i + j) = 1000000000 ^ i * 1000000000 ^ j := Nat.pow_add _ _ _
    rw [e1]
    generalize (1000000000 : Nat) ^ (i + j) = P at *
    generalize (1000000000 : Nat) ^ i = Pi at *
    generalize (1000000000 : Nat) ^ j = Pj at *
    generalize V (limb (rs.set (i + j) t)) N = A at *
    generalize V (limb rs) N = B at *
    generalize V (limb rs0) N = C at *
    generalize V (limb ys) j = D at *
    generalize limb rs (i + j) = r at *
    generalize limb ys j = y at *
    clear hr hyj hxy e1 hp h h0 hy hx
    subst e2
    grind
  · obtain rfl : j = m := by omega
    have e1 : limb ys j = 0 := limb_out hm
    rw [e1, h.far (i + j) (Nat.le_refl _), h0]
    omega

theorem TimesIn.done {ys rs0 rs : List Nat} {i x m N cc : Nat} (h : TimesIn ys rs0 rs i x m N (m + 1) cc) (hm : ys.length ≤ m) (hz : ∀ p, i + m ≤ p → limb rs0 p = 0) :
    Lb rs ∧ rs.length = N ∧ V (limb rs) N = V (limb rs0) N + x * val ys * 1000000000 ^ i ∧ ∀ p, i + 1 + m ≤ p → limb rs p = 0 := by
  have hc := h.last (by omega)
  have he := h.eq
  rw [hc, val_eq (xs := ys) (by omega)] at he
  exact ⟨h.lb, h.len, by omega, fun p hp => by rw [h.far p (by omega), hz p (by omega)]⟩

/-- What the outer loop holds behind i rounds. -/
structure TimesOut (xs ys rs : List Nat) (m N i : Nat) : Prop where
  lb : Lb rs
  len : rs.length = N
  eq : V (limb rs) N = V (limb xs) i * val ys
  zero : ∀ p, i + m ≤ p → limb rs p = 0
theorem TimesOut.inn {xs ys rs : List Nat} {m N i : Nat} (h : TimesOut xs ys rs m N i) (x : Nat) : TimesIn ys rs rs i x m N 0 0 :=
  ⟨h.lb, h.len, by omega, fun _ _ => rfl, by simp [V], fun h => by omega⟩
theorem TimesOut.next {xs ys rs0 rs : List Nat} {m N i cc : Nat} (h : TimesOut xs ys rs0 m N i) (h2 : TimesIn ys rs0 rs i (limb xs i) m N (m + 1) cc) (hm : ys.length ≤ m) : TimesOut xs ys rs m N (i + 1) := by
  obtain ⟨a, b, c, d⟩ := h2.done hm h.zero
  refine ⟨a, b, ?_, d⟩
  rw [c, h.eq]
  simp only [V]
  generalize V (limb xs) i = A
  generalize limb xs i = x
  generalize val ys = y
  generalize 1000000000 ^ i = P
  grind
theorem TimesOut.start {xs ys : List Nat} {m N : Nat} : TimesOut xs ys (List.replicate N 0) m N 0 :=
  ⟨fun i => by rw [limb_replicate]; omega, by simp, by
    simp only [V, Nat.zero_mul]
    have := V_out (f := limb (List.replicate N 0)) (m := 0) (fun i _ => limb_replicate N i) (Nat.zero_le N)
    rw [this]; rfl, fun p _ => limb_replicate N p⟩
theorem TimesOut.done {xs ys rs : List Nat} {m N : Nat} (h : TimesOut xs ys rs m N xs.length) : Lb rs ∧ rs.length = N ∧ val rs = val xs * val ys := by
  refine ⟨h.lb, h.len, ?_⟩
  have := h.eq
  rw [val_eq (by rw [h.len]; exact Nat.le_refl _)] at this
  rw [this, val_eq (Nat.le_refl _)]

end Go.Proofs.YtiekhjgfnmochaaDoor
