/- What shrink, takeAway and putBack keep, limb by limb. No walk here. | The guess of one limb of a quotient. No walk here. | Long division by limbs: what split keeps. No walk here. -/
import Derived.Test.YtiekhjgfnmochaaDoorTxtMath
import Derived.Test.YtiekhjgfnmochaaDoorTimesMath
namespace Go.Proofs.YtiekhjgfnmochaaDoor
open Go.RowKit

theorem tdiv_nat {T s D : Nat} {t : Int} (ht : t = (T : Int)) (h : T / s = D) : t.tdiv (s : Int) = (D : Int) := by
  rw [ht, Int.tdiv_eq_ediv_of_nonneg (by omega), ← h]; rfl
theorem tmod_nat {T s M : Nat} {t : Int} (ht : t = (T : Int)) (h : T % s = M) : t.tmod (s : Int) = (M : Int) := by
  rw [ht, Int.tmod_eq_emod_of_nonneg (by omega), ← h]; rfl
theorem Hi_end {rs : List Nat} {i : Nat} (h : rs.length ≤ i) : Hi rs i = 0 := by
  unfold Hi
  rw [show rs.length - i = 0 from by omega]
  rfl
theorem Hi_set {rs : List Nat} {k t i : Nat} (hk : k < rs.length) (h : k < i) : Hi (rs.set k t) i = Hi rs i := by
  unfold Hi
  rw [List.length_set]
  exact V_congr fun j _ => by rw [limb_set hk, if_neg (by omega)]

/-- What shrink has made when the limbs from the k-th on have been divided. -/
structure ShrinkInv (xs rs : List Nat) (s k r : Nat) : Prop where
  len : rs.length = xs.length
  lb : Lb rs
  lt : r < s
  eq : Hi rs k * s + r = Hi xs k
theorem ShrinkInv.start (xs : List Nat) {s : Nat} (hs : 1 ≤ s) : ShrinkInv xs (List.replicate xs.length 0) s xs.length 0 :=
  ⟨by simp, fun i => by rw [limb_replicate]; omega, hs, by rw [Hi_end (by simp), Hi_end (Nat.le_refl _)]; omega⟩
theorem ShrinkInv.step {xs rs : List Nat} {s k r : Nat} (h : ShrinkInv xs rs s (k + 1) r) (hx : Lb xs) (hk : k < xs.length) :
    ShrinkInv xs (rs.set k ((r * 1000000000 + limb xs k) / s)) s k ((r * 1000000000 + limb xs k) % s) ∧ (r * 1000000000 + limb xs k) / s < 1000000000 := by
  have hs : 0 < s := by have := h.lt; omega
  have hkr : k < rs.length := by rw [h.len]; exact hk
  have hq : (r * 1000000000 + limb xs k) / s < 1000000000 := by
    rw [Nat.div_lt_iff_lt_mul hs]
    have h1 : (r + 1) * 1000000000 ≤ s * 1000000000 := Nat.mul_le_mul_right _ h.lt
    have := hx k
    omega
  refine ⟨⟨by rw [List.length_set]; exact h.len, fun i => ?_, Nat.mod_lt _ hs, ?_⟩, hq⟩
  · rw [limb_set hkr]
    split
    · exact hq
    · exact h.lb i
  · rw [Hi_step (by rw [List.length_set]; exact hkr), limb_set hkr, if_pos rfl, Hi_set hkr (by omega), Hi_step hk, ← h.eq]
    have hd := Nat.div_add_mod (r * 1000000000 + limb xs k) s
    generalize (r * 1000000000 + limb xs k) / s = D at *
    generalize (r * 1000000000 + limb xs k) % s = M at *
    rw [Nat.add_mul, Nat.mul_add, Nat.mul_assoc, Nat.mul_comm D s]
    omega
theorem ShrinkInv.done {xs rs : List Nat} {s r : Nat} (h : ShrinkInv xs rs s 0 r) : val rs = val xs / s := by
  have e := h.eq
  rw [Hi_zero, Hi_zero] at e
  have hs : 0 < s := by have := h.lt; omega
  rw [← e, Nat.mul_comm, Nat.mul_add_div hs, Nat.div_eq_of_lt h.lt]
  omega

/-- A part of a row: m limbs from the o-th on. -/
def Part (R : List Nat) (o m : Nat) : Nat := V (fun j => limb R (o + j)) m
theorem Part_succ (R : List Nat) (o m : Nat) : Part R o (m + 1) = Part R o m + limb R (o + m) * 1000000000 ^ m := rfl
theorem Part_lt {R : List Nat} (h : Lb R) (o m : Nat) : Part R o m < 1000000000 ^ m := V_lt (fun _ => h _) m
theorem Part_congr {R S : List Nat} {o m : Nat} (h : ∀ j, j < m → limb R (o + j) = limb S (o + j)) : Part R o m = Part S o m := V_congr h
theorem Part_set {R : List Nat} {o m t : Nat} (h : o + m < R.length) : Part (R.set (o + m) t) o m = Part R o m :=
  V_congr fun j hj => by rw [limb_set h, if_neg (by omega)]

/-- What takeAway has made when k limbs are done: q times y has been taken from the part, but for what is short. -/
structure TakeInv (R0 R ys : List Nat) (o q k short : Nat) : Prop where
  len : R.length = R0.length
  lb : Lb R
  le : short ≤ 1000000000
  eq : Part R o k + q * V (limb ys) k = Part R0 o k + short * 1000000000 ^ k
  out : ∀ j, j < o ∨ o + k ≤ j → limb R j = limb R0 j
theorem TakeInv.start {R0 : List Nat} (h : Lb R0) (ys : List Nat) (o q : Nat) : TakeInv R0 R0 ys o q 0 0 := ⟨rfl, h, by omega, by simp [Part, V], fun _ _ => rfl⟩
/-- One limb: low and short as the program reckons them; less than low, so a unit is lent. -/
theorem take_one {p low q y short B : Nat} (hB : B = 1000000000) (hq : q < B) (hy : y < B) (hs : short ≤ B) (hp : p < B) (hl : low = (y * q + short) % B) :
    ((p < low → p + B - low + (y * q + short) = p + ((y * q + short) / B + 1) * B ∧ p + B - low < B ∧ (y * q + short) / B + 1 ≤ B) ∧
     (¬ p < low → p - low + (y * q + short) = p + ((y * q + short) / B) * B ∧ p - low < B ∧ (y * q + short) / B ≤ B)) := by
  have h1 : y * q ≤ (B - 1) * (B - 1) := Nat.mul_le_mul (by omega) (by omega)
  have h2 : (B - 1) * (B - 1) = 999999998000000001 := by rw [hB]
  have hd := Nat.div_add_mod (y * q + short) B
  have hm := Nat.mod_lt (y * q + short) (show 0 < B by omega)
  rw [← hl] at hd hm
  generalize (y * q + short) / B = D at *
  generalize y * q = T at *
  subst hB
  constructor
  · intro h
    refine ⟨by omega, by omega, by omega⟩
  · intro h
    refine ⟨by omega, by omega, by omega⟩
theorem TakeInv.step {R0 R ys : List Nat} {o q k short p' s' : Nat} (h : TakeInv R0 R ys o q k short) (hk : o + k < R0.length)
    (hp : p' + (limb ys k * q + short) = limb R0 (o + k) + s' * 1000000000) (hb : p' < 1000000000) (hs : s' ≤ 1000000000) : TakeInv R0 (R.set (o + k) p') ys o q (k + 1) s' := by
  have hkr : o + k < R.length := by rw [h.len]; exact hk
  refine ⟨by rw [List.length_set]; exact h.len, fun i => ?_, hs, ?_, fun j hj => ?_⟩
  · rw [limb_set hkr]
    split
    · exact hb
    · exact h.lb i
  · rw [Part_succ, Part_succ, Part_set hkr, limb_set hkr, if_pos rfl]
    show _ + q * (V (limb ys) k + limb ys k * 1000000000 ^ k) = _
    have e := h.eq
    rw [Nat.pow_succ]
    generalize 1000000000 ^ k = B at *
    have e1 : p' * B + (limb ys k * q) * B + short * B = limb R0 (o + k) * B + s' * (B * 1000000000) := by
      have := congrArg (· * B) hp
      simp only [Nat.add_mul] at this
      rw [Nat.mul_comm B 1000000000, ← Nat.mul_assoc]
      omega
    have e2 : q * (V (limb ys) k + limb ys k * B) = q * V (limb ys) k + (limb ys k * q) * B := by
      rw [Nat.mul_add, ← Nat.mul_assoc, Nat.mul_comm q (limb ys k)]
    rw [e2]
    omega
  · rw [limb_set hkr, if_neg (by omega)]
    exact h.out j (by omega)

/-- What putBack has made when k limbs are done. -/
structure PutInv (R0 R ys : List Nat) (o k carry : Nat) : Prop where
  len : R.length = R0.length
  lb : Lb R
  le : carry ≤ 1
  eq : Part R o k + carry * 1000000000 ^ k = Part R0 o k + V (limb ys) k
  out : ∀ j, j < o ∨ o + k ≤ j → limb R j = limb R0 j
theorem PutInv.start {R0 : List Nat} (h : Lb R0) (ys : List Nat) (o : Nat) : PutInv R0 R0 ys o 0 0 := ⟨rfl, h, by omega, by simp [Part, V], fun _ _ => rfl⟩
theorem PutInv.step {R0 R ys : List Nat} {o k carry : Nat} (h : PutInv R0 R ys o k carry) (h0 : Lb R0) (hy : Lb ys) (hk : o + k < R0.length) :
    PutInv R0 (R.set (o + k) ((limb R0 (o + k) + limb ys k + carry) % 1000000000)) ys o (k + 1) ((limb R0 (o + k) + limb ys k + carry) / 1000000000) := by
  have hkr : o + k < R.length := by rw [h.len]; exact hk
  have h1 := h0 (o + k)
  have h2 := hy k
  have h3 := h.le
  refine ⟨by rw [List.length_set]; exact h.len, fun i => ?_, by omega, ?_, fun j hj => ?_⟩
  · rw [limb_set hkr]
    split
    · omega
    · exact h.lb i
  · rw [Part_succ, Part_succ, Part_set hkr, limb_set hkr, if_pos rfl]
    show _ = _ + (V (limb ys) k + limb ys k * 1000000000 ^ k)
    have e := h.eq
    rw [Nat.pow_succ]
    have hd := Nat.div_add_mod (limb R0 (o + k) + limb ys k + carry) 1000000000
    generalize (limb R0 (o + k) + limb ys k + carry) / 1000000000 = D at *
    generalize (limb R0 (o + k) + limb ys k + carry) % 1000000000 = M at *
    generalize 1000000000 ^ k = B at *
    have e1 : M * B + D * (B * 1000000000) = limb R0 (o + k) * B + limb ys k * B + carry * B := by
      have := congrArg (· * B) hd
      simp only [Nat.add_mul] at this
      rw [Nat.mul_comm B 1000000000, ← Nat.mul_assoc, Nat.mul_comm D]
      omega
    omega
  · rw [limb_set hkr, if_neg (by omega)]
    exact h.out j (by omega)
end Go.Proofs.YtiekhjgfnmochaaDoor
namespace Go.Proofs.YtiekhjgfnmochaaDoor
open Go.RowKit

theorem Part_top {R : List Nat} {o n : Nat} (h : Lb R) : Part R o (n + 2) < (limb R (o + (n + 1)) * 1000000000 + limb R (o + n) + 1) * 1000000000 ^ n := by
  rw [Part_succ, Part_succ, Nat.pow_succ]
  have h1 := Part_lt h o n
  generalize 1000000000 ^ n = B at *
  rw [Nat.add_mul, Nat.add_mul, Nat.mul_assoc, Nat.mul_comm 1000000000 B]
  omega
theorem val_top {ys : List Nat} {n : Nat} (hl : ys.length = n + 1) : limb ys n * 1000000000 ^ n ≤ val ys := by
  unfold val
  rw [hl]
  show _ ≤ V (limb ys) n + limb ys n * 1000000000 ^ n
  omega
/-- The guess is not too low. -/
theorem guess_ge {R ys : List Nat} {o n : Nat} (h : Lb R) (hl : ys.length = n + 1) (hy : 1 ≤ limb ys n) (hp : Part R o (n + 2) < val ys * 1000000000) :
    Part R o (n + 2) / val ys ≤ min ((limb R (o + (n + 1)) * 1000000000 + limb R (o + n)) / limb ys n) 999999999 := by
  have hv := val_top hl
  have hB : 0 < 1000000000 ^ n := Nat.pow_pos (by omega)
  have hvp : 0 < val ys := Nat.lt_of_lt_of_le (Nat.mul_pos hy hB) hv
  have ht := Part_top (o := o) (n := n) h
  have hq := Nat.div_mul_le_self (Part R o (n + 2)) (val ys)
  have hq2 : Part R o (n + 2) / val ys < 1000000000 := by
    rw [Nat.div_lt_iff_lt_mul hvp, Nat.mul_comm]; exact hp
  refine Nat.le_min.2 ⟨?_, by omega⟩
  rw [Nat.le_div_iff_mul_le hy]
  generalize Part R o (n + 2) / val ys = q at *
  have h1 : q * (limb ys n * 1000000000 ^ n) ≤ q * val ys := Nat.mul_le_mul_left _ hv
  rw [← Nat.mul_assoc] at h1
  have h2 := Nat.lt_of_le_of_lt (Nat.le_trans h1 hq) ht
  have h3 := Nat.lt_of_mul_lt_mul_right h2
  omega

/-- Where a guess stands: below nought it is (one turn has been borrowed), or it is right. -/
def GoesAt (P V B : Nat) (g : Nat) (below : Bool) (part : Nat) : Prop :=
  g ≤ 999999999 ∧ part < B ∧ ((below = true ∧ part + g * V = P + B) ∨ (below = false ∧ part + g * V = P ∧ part < V))
theorem GoesAt.start {P V B g short part m : Nat} (hg : P / V ≤ g) (hg2 : g ≤ 999999999) (hV : 0 < V) (hVm : V ≤ m) (hB : B = m * 1000000000) (hpart : part < B) (he : part + g * V = P + short * B) :
    GoesAt P V B g (decide (0 < short)) part := by
  have h1 : g * V ≤ 999999999 * m := Nat.mul_le_mul hg2 hVm
  have hs : short ≤ 1 := by
    rcases Nat.lt_or_ge short 2 with h | h
    · omega
    · have : 2 * B ≤ short * B := Nat.mul_le_mul_right _ h
      omega
  refine ⟨hg2, hpart, ?_⟩
  rcases (by omega : short = 0 ∨ short = 1) with rfl | rfl
  · right
    refine ⟨rfl, by omega, ?_⟩
    have hle : g ≤ P / V := by
      rw [Nat.le_div_iff_mul_le hV]; omega
    have hgq : g = P / V := by omega
    have hm := Nat.div_add_mod P V
    rw [← hgq, Nat.mul_comm] at hm
    have := Nat.mod_lt P hV
    omega
  · left
    exact ⟨rfl, by omega⟩
theorem GoesAt.pos {P V B g part : Nat} (h : GoesAt P V B g true part) : 1 ≤ g := by
  obtain ⟨_, h1, ⟨_, h2⟩ | ⟨h2, _⟩⟩ := h
  · rcases Nat.eq_zero_or_pos g with rfl | h
    · simp at h2; omega
    · exact h
  · cases h2
theorem GoesAt.step {P V B g part part' carry : Nat} (h : GoesAt P V B g true part) (hc : carry ≤ 1) (hp : part' < B) (he : part' + carry * B = part + V) :
    GoesAt P V B (g - 1) (!decide (0 < carry)) part' := by
  have hg := h.pos
  obtain ⟨h0, h1, ⟨_, h2⟩ | ⟨h2, _⟩⟩ := h
  · obtain ⟨k, rfl⟩ : ∃ k, g = k + 1 := ⟨g - 1, by omega⟩
    rw [Nat.add_mul, Nat.one_mul] at h2
    refine ⟨by omega, hp, ?_⟩
    rw [Nat.add_sub_cancel]
    rcases (by omega : carry = 0 ∨ carry = 1) with rfl | rfl
    · left
      exact ⟨rfl, by omega⟩
    · right
      exact ⟨rfl, by omega, by omega⟩
  · cases h2
end Go.Proofs.YtiekhjgfnmochaaDoor
namespace Go.Proofs.YtiekhjgfnmochaaDoor
open Go.RowKit

theorem Hi_part {R : List Nat} {i : Nat} : ∀ m, i + m ≤ R.length → Hi R i = Part R i m + 1000000000 ^ m * Hi R (i + m) := by
  intro m
  induction m with
  | zero => intro _; simp [Part, V]
  | succ m ih =>
    intro h
    rw [ih (by omega), Part_succ, Hi_step (show i + m < R.length by omega), Nat.mul_add, Nat.pow_succ, Nat.mul_comm (1000000000 ^ m) (limb R (i + m)), ← Nat.mul_assoc, Nat.add_assoc i m 1]
    omega
theorem Hi_congr {R S : List Nat} {i : Nat} (hl : R.length = S.length) (h : ∀ j, i ≤ j → limb R j = limb S j) : Hi R i = Hi S i := by
  unfold Hi
  rw [hl]
  exact V_congr fun j _ => h _ (by omega)

/-- What split has made when the limbs from the k-th on are divided. -/
structure SplitInv (A R whole : List Nat) (V nb k : Nat) : Prop where
  len : R.length = A.length
  wlen : whole.length + nb = A.length
  lb : Lb R
  wlb : Lb whole
  lt : Hi R k < V
  eq : Hi whole k * V + Hi R k = Hi A k
  low : ∀ j, j < k → limb R j = limb A j
theorem SplitInv.high {A R whole : List Nat} {V nb k : Nat} (h : SplitInv A R whole V nb k) (hV : V ≤ 1000000000 ^ nb) (hk : k ≤ whole.length) : Hi R (k + nb) = 0 := by
  have e := Hi_part (R := R) (i := k) nb (by rw [h.len]; have := h.wlen; omega)
  have := h.lt
  rcases Nat.eq_zero_or_pos (Hi R (k + nb)) with h0 | h0
  · exact h0
  · have : 1000000000 ^ nb * 1 ≤ 1000000000 ^ nb * Hi R (k + nb) := Nat.mul_le_mul_left _ h0
    omega
theorem SplitInv.part {A R whole : List Nat} {V nb i : Nat} (h : SplitInv A R whole V nb (i + 1)) (hV : V ≤ 1000000000 ^ nb) (hi : i < whole.length) :
    Hi R i = Part R i (nb + 1) ∧ Part R i (nb + 1) < V * 1000000000 := by
  have hw := h.wlen
  have e := Hi_part (R := R) (i := i) (nb + 1) (by rw [h.len]; omega)
  have h0 := h.high hV (by omega)
  rw [show i + (nb + 1) = i + 1 + nb by omega, h0, Nat.mul_zero, Nat.add_zero] at e
  refine ⟨e, ?_⟩
  rw [← e, Hi_step (by rw [h.len]; omega)]
  have h1 := h.lt
  have h2 := h.lb i
  have h3 : (Hi R (i + 1) + 1) * 1000000000 ≤ V * 1000000000 := Nat.mul_le_mul_right _ h1
  omega
theorem SplitInv.step {A R R' whole : List Nat} {V nb i D : Nat} (h : SplitInv A R whole V nb (i + 1)) (hV : V ≤ 1000000000 ^ nb) (hi : i < whole.length)
    (hl : R'.length = R.length) (hlb : Lb R') (he : Part R' i (nb + 1) + D * V = Part R i (nb + 1)) (hlt : Part R' i (nb + 1) < V) (hD : D < 1000000000) (hout : ∀ j, j < i ∨ i + (nb + 1) ≤ j → limb R' j = limb R j) :
    SplitInv A R' (whole.set i D) V nb i := by
  have hw := h.wlen
  obtain ⟨h1, _⟩ := h.part hV hi
  have h0 := h.high hV (by omega)
  have e := Hi_part (R := R') (i := i) (nb + 1) (by rw [hl, h.len]; omega)
  have e2 : Hi R' (i + (nb + 1)) = 0 := by
    rw [Hi_congr hl (fun j hj => hout j (.inr hj)), show i + (nb + 1) = i + 1 + nb by omega]
    exact h0
  rw [e2, Nat.mul_zero, Nat.add_zero] at e
  refine ⟨hl.trans h.len, by rw [List.length_set]; exact hw, hlb, fun j => ?_, by rw [e]; exact hlt, ?_, fun j hj => (hout j (.inl hj)).trans (h.low j (by omega))⟩
  · rw [limb_set hi]
    split
    · exact hD
    · exact h.wlb j
  · rw [e, Hi_step (show i < (whole.set i D).length by rw [List.length_set]; exact hi), limb_set hi, if_pos rfl, Hi_set hi (by omega), Hi_step (show i < A.length by omega), ← h.eq, ← h.low i (by omega)]
    rw [Hi_step (show i < R.length by rw [h.len]; omega)] at h1
    rw [Nat.add_mul, Nat.mul_add, Nat.mul_assoc]
    omega
/-- Where it begins: with what is scaled. -/
theorem SplitInv.start {A xs ys : List Nat} {s nb : Nat} (hA : Lb A) (hx : Lb xs) (hlen : A.length = xs.length + 1) (hv : val A = val xs * s) (hs : 1 ≤ s) (hy : ys.length = nb) (h1 : 1 ≤ nb) (hyt : 1 ≤ limb ys (nb - 1)) (hle : nb ≤ xs.length) :
    SplitInv A A (List.replicate (xs.length - nb + 1) 0) (val ys * s) nb (xs.length - nb + 1) := by
  refine ⟨rfl, by simp; omega, hA, fun i => by rw [limb_replicate]; omega, ?_, ?_, fun _ _ => rfl⟩
  · have e := Hi_part (R := A) (i := 0) (xs.length - nb + 1) (by omega)
    rw [Hi_zero, Nat.zero_add] at e
    have hvx := val_lt hx
    have hvy := val_top (ys := ys) (n := nb - 1) (by omega)
    have hp : 1000000000 ^ xs.length = 1000000000 ^ (nb - 1) * 1000000000 ^ (xs.length - nb + 1) := by
      rw [← Nat.pow_add]; congr 1; omega
    have hB : 0 < 1000000000 ^ (xs.length - nb + 1) := Nat.pow_pos (by omega)
    have h2 : 1000000000 ^ (nb - 1) ≤ val ys := Nat.le_trans (by have := Nat.mul_le_mul_right (1000000000 ^ (nb - 1)) hyt; omega) hvy
    have h3 : val A < 1000000000 ^ xs.length * s := by rw [hv]; exact Nat.mul_lt_mul_of_pos_right hvx hs
    rw [hp] at h3
    generalize 1000000000 ^ (xs.length - nb + 1) = B at *
    generalize 1000000000 ^ (nb - 1) = C at *
    have h4 : B * Hi A (xs.length - nb + 1) < B * (C * s) := by
      rw [show B * (C * s) = C * B * s by rw [← Nat.mul_assoc, Nat.mul_comm B C]]
      omega
    exact Nat.lt_of_lt_of_le (Nat.lt_of_mul_lt_mul_left h4) (Nat.mul_le_mul_right s h2)
  · rw [Hi_end (by simp)]; omega
/-- Where it ends: the quotient, and what is left when it is scaled back. -/
theorem SplitInv.done {A R whole : List Nat} {a b s nb : Nat} (h : SplitInv A R whole (b * s) nb 0) (hv : val A = a * s) (hs : 1 ≤ s) (hV : b * s ≤ 1000000000 ^ nb) :
    val whole = a / b ∧ val (R.take nb) / s = a % b := by
  have h0 := h.high hV (by omega)
  rw [Nat.zero_add] at h0
  have hw := h.wlen
  have e := Hi_part (R := R) (i := 0) nb (by rw [h.len]; omega)
  rw [Nat.zero_add, h0, Nat.mul_zero, Nat.add_zero] at e
  have et : val (R.take nb) = Hi R 0 := by
    have hl : (R.take nb).length = nb := by simp; rw [h.len]; omega
    unfold val
    rw [hl, e]
    exact V_congr fun j hj => by rw [limb_take, if_pos hj, Nat.zero_add]
  have h1 := h.eq
  have h2 := h.lt
  rw [Hi_zero, Hi_zero A, hv, ← et] at h1
  rw [← et] at h2
  generalize val (R.take nb) = r at *
  generalize val whole = q at *
  have h3 : q * b * s ≤ a * s := by rw [Nat.mul_assoc]; omega
  have h4 := Nat.le_of_mul_le_mul_right h3 hs
  obtain ⟨d, hd⟩ : ∃ d, a = q * b + d := ⟨a - q * b, by omega⟩
  subst hd
  rw [Nat.add_mul, Nat.mul_assoc] at h1
  have hr : r = d * s := by omega
  subst hr
  have hdb : d < b := Nat.lt_of_mul_lt_mul_right h2
  constructor
  · rw [Nat.mul_comm q b, Nat.mul_add_div (by omega), Nat.div_eq_of_lt hdb]; omega
  · rw [Nat.mul_div_cancel _ hs, Nat.mul_comm q b, Nat.mul_add_mod, Nat.mod_eq_of_lt hdb]

/-- The scale leaves the divisor as long as it is. -/
theorem scale_fits {ys : List Nat} {nb s : Nat} (hy : Lb ys) (hl : ys.length = nb) (h1 : 1 ≤ nb) (hs : s = 1000000000 / (limb ys (nb - 1) + 1)) (hyt : 1 ≤ limb ys (nb - 1)) :
    1 ≤ s ∧ s ≤ 1000000000 ∧ val ys * s ≤ 1000000000 ^ nb - 1 ∧ 1000000000 ^ (nb - 1) ≤ val ys * s := by
  have ht := hy (nb - 1)
  have hs1 : 1 ≤ s := by rw [hs, Nat.le_div_iff_mul_le (by omega)]; omega
  have hs2 : s ≤ 1000000000 := by rw [hs]; exact Nat.div_le_self _ _
  have hs3 : s * (limb ys (nb - 1) + 1) ≤ 1000000000 := by rw [hs]; exact Nat.div_mul_le_self _ _
  have hv1 := val_top (ys := ys) (n := nb - 1) (by omega)
  have hv2 : val ys < (limb ys (nb - 1) + 1) * 1000000000 ^ (nb - 1) := by
    unfold val
    obtain ⟨m, rfl⟩ : ∃ m, nb = m + 1 := ⟨nb - 1, by omega⟩
    rw [hl]
    have := V_lt hy m
    show V (limb ys) m + limb ys m * 1000000000 ^ m < _
    rw [Nat.add_sub_cancel, Nat.add_mul]
    omega
  refine ⟨hs1, hs2, ?_, ?_⟩
  · have h5 : val ys * s < (limb ys (nb - 1) + 1) * 1000000000 ^ (nb - 1) * s := Nat.mul_lt_mul_of_pos_right hv2 hs1
    have h6 : (limb ys (nb - 1) + 1) * 1000000000 ^ (nb - 1) * s = s * (limb ys (nb - 1) + 1) * 1000000000 ^ (nb - 1) := by
      rw [Nat.mul_comm _ s, Nat.mul_assoc]
    have h7 : s * (limb ys (nb - 1) + 1) * 1000000000 ^ (nb - 1) ≤ 1000000000 * 1000000000 ^ (nb - 1) := Nat.mul_le_mul_right _ hs3
    have h8 : 1000000000 ^ nb = 1000000000 * 1000000000 ^ (nb - 1) := by
      rw [Nat.mul_comm, ← Nat.pow_succ]; congr 1; omega
    omega
  · have h9 : 1 * 1000000000 ^ (nb - 1) ≤ limb ys (nb - 1) * 1000000000 ^ (nb - 1) := Nat.mul_le_mul_right _ hyt
    have h10 : val ys * 1 ≤ val ys * s := Nat.mul_le_mul_left _ hs1
    omega
/-- What is left of the scaled divisor when it is trimmed: as many limbs as before. -/
theorem trim_len {B : List Nat} {n m : Nat} (hb : Lb B) (hn : n ≤ B.length) (ht : n = 0 ∨ limb B (n - 1) ≠ 0) (hz : ∀ i, n ≤ i → limb B i = 0) (h1 : 1000000000 ^ (m - 1) ≤ val B) (h2 : val B ≤ 1000000000 ^ m - 1) (hm : 1 ≤ m) : n = m := by
  have hp : 0 < 1000000000 ^ m := Nat.pow_pos (by omega)
  have hp1 : 0 < 1000000000 ^ (m - 1) := Nat.pow_pos (by omega)
  have hv := val_take hn hz
  have hl : (B.take n).length = n := by simp; omega
  have hlt : val B < 1000000000 ^ n := by
    rw [← hv]
    have hb' : Lb (B.take n) := by
      intro i
      rw [limb_take]
      split
      · exact hb i
      · omega
    have := val_lt hb'
    rwa [hl] at this
  rcases Nat.lt_trichotomy n m with h | h | h
  · have := Nat.pow_le_pow_right (n := 1000000000) (by omega) (show n ≤ m - 1 by omega)
    omega
  · exact h
  · rcases ht with rfl | ht
    · omega
    · have h3 := val_ge (xs := B) (n := n - 1) (by omega) ht
      have := Nat.pow_le_pow_right (n := 1000000000) (by omega) (show m ≤ n - 1 by omega)
      omega
end Go.Proofs.YtiekhjgfnmochaaDoor
