/- Decimal digits, the lowest first, and the numbers that they stand for. No walk here. | Numbers made of digits. No walk here. | Sums and differences of digits. No walk here. -/
import Derived.Test.YtkocmjmmflphnaaGreatDoorOf
import Derived.Test.YtkocmjmmflphnaaGreatDoorPlus
namespace Go.Proofs.YtkocmjmmflphnaaGreatDoor
open Go.RowKit

/-- The number of the first n digits. -/
def D (f : Nat → Nat) : Nat → Nat
  | 0 => 0
  | n + 1 => D f n + f n * 10 ^ n
def dval (ds : List Nat) : Nat := D (limb ds) ds.length
/-- Digits as they may be. -/
def Db (ds : List Nat) : Prop := ∀ i, limb ds i < 10
/-- No nought at the top. -/
def Top (ds : List Nat) : Prop := ds ≠ [] → limb ds (ds.length - 1) ≠ 0

theorem D_congr {f g : Nat → Nat} {n : Nat} (h : ∀ i, i < n → f i = g i) : D f n = D g n := by
  induction n with
  | zero => rfl
  | succ n ih => simp only [D]; rw [ih (fun i hi => h i (by omega)), h n (by omega)]
theorem D_out {f : Nat → Nat} {m : Nat} (h : ∀ i, m ≤ i → f i = 0) {n : Nat} (hn : m ≤ n) : D f n = D f m := by
  induction n with
  | zero => obtain rfl : m = 0 := by omega
            rfl
  | succ n ih =>
    by_cases e : m = n + 1
    · rw [e]
    · simp only [D]; rw [ih (by omega), h n (by omega)]; omega
theorem D_lt {f : Nat → Nat} (h : ∀ i, f i < 10) (n : Nat) : D f n < 10 ^ n := by
  induction n with
  | zero => simp [D]
  | succ n ih =>
    simp only [D]
    have h1 : f n * 10 ^ n ≤ 9 * 10 ^ n := Nat.mul_le_mul_right _ (by have := h n; omega)
    rw [Nat.pow_succ]; omega
theorem dval_lt {ds : List Nat} (h : Db ds) : dval ds < 10 ^ ds.length := D_lt h _
theorem dval_eq {ds : List Nat} {n : Nat} (h : ds.length ≤ n) : D (limb ds) n = dval ds := D_out (fun _ hi => limb_out hi) h
theorem dval_snoc (ds : List Nat) (d : Nat) : dval (ds ++ [d]) = dval ds + d * 10 ^ ds.length := by
  unfold dval
  have e : (ds ++ [d]).length = ds.length + 1 := by simp
  rw [e]
  simp only [D]
  rw [limb_snoc, if_neg (by omega), if_pos rfl]
  congr 1
  exact D_congr fun i hi => by rw [limb_snoc, if_pos hi]
theorem Db.snoc {ds : List Nat} (h : Db ds) {d : Nat} (hd : d < 10) : Db (ds ++ [d]) := by
  intro i; rw [limb_snoc]; split
  · exact h i
  · split <;> omega
theorem Db.nil : Db [] := fun i => by rw [limb_out (by simp)]; omega
theorem Db.wide {ds : List Nat} (h : Db ds) : ∀ i, limb ds i < 256 := fun i => by have := h i; omega
theorem dlimb_take {xs : List Nat} {n i : Nat} : limb (xs.take n) i = if i < n then limb xs i else 0 := by
  unfold limb
  simp only [List.getD_eq_getElem?_getD, List.getElem?_take]
  split <;> rfl
theorem Db.take {ds : List Nat} (h : Db ds) (n : Nat) : Db (ds.take n) := by
  intro i; rw [dlimb_take]; split
  · exact h i
  · omega
theorem dval_take {ds : List Nat} {n : Nat} (hn : n ≤ ds.length) (hz : ∀ i, n ≤ i → limb ds i = 0) : dval (ds.take n) = dval ds := by
  have e : (ds.take n).length = n := by simp; omega
  unfold dval
  rw [e, D_out hz hn]
  exact D_congr fun i hi => by rw [dlimb_take, if_pos hi]
theorem Top.take {ds : List Nat} {n : Nat} (hn : n ≤ ds.length) (h : n = 0 ∨ limb ds (n - 1) ≠ 0) : Top (ds.take n) := by
  intro hne
  have e : (ds.take n).length = n := by simp; omega
  rcases h with h | h
  · subst h; simp at hne
  · by_cases h0 : n = 0
    · subst h0; simp at hne
    · rw [e, dlimb_take, if_pos (by omega)]; exact h
theorem Top.le {ds : List Nat} (h : Top ds) (hne : ds ≠ []) : 10 ^ (ds.length - 1) ≤ dval ds := by
  have h1 := h hne
  have hl : 0 < ds.length := List.length_pos_iff.2 hne
  obtain ⟨k, hk⟩ : ∃ k, ds.length = k + 1 := ⟨ds.length - 1, by omega⟩
  unfold dval
  rw [hk] at h1 ⊢
  simp only [Nat.add_sub_cancel, D] at h1 ⊢
  have : 1 * 10 ^ k ≤ limb ds k * 10 ^ k := Nat.mul_le_mul_right _ (by omega)
  omega
/-- How many digits there are says how large the number is. -/
theorem Top.len {ds : List Nat} (h : Top ds) (hb : Db ds) {n : Nat} : ds.length ≤ n ↔ dval ds < 10 ^ n := by
  constructor
  · intro hl
    exact Nat.lt_of_lt_of_le (dval_lt hb) (Nat.pow_le_pow_right (by omega) hl)
  · intro hv
    by_cases hne : ds = []
    · subst hne; simp
    · have h1 := h.le hne
      by_cases hl : ds.length ≤ n
      · exact hl
      · have : 10 ^ n ≤ 10 ^ (ds.length - 1) := Nat.pow_le_pow_right (by omega) (by omega)
        omega
theorem Top.zero {ds : List Nat} (h : Top ds) (h0 : dval ds = 0) : ds = [] := by
  apply Classical.byContradiction
  intro hne
  have h1 := h.le hne
  have : 0 < 10 ^ (ds.length - 1) := Nat.pow_pos (by omega)
  omega

theorem pow9 (n : Nat) : 10 ^ (9 * n) = 1000000000 ^ n := by rw [Nat.pow_mul]

/-- What the outer loop of Digits holds. -/
structure DigOut (xs ds : List Nat) (i : Nat) : Prop where
  b : Db ds
  len : ds.length = 9 * i
  eq : dval ds = V (limb xs) i
/-- What its inner loop holds: l is left of the i-th limb behind k digits. -/
structure DigIn (xs ds : List Nat) (i l k : Nat) : Prop where
  b : Db ds
  len : ds.length = 9 * i + k
  eq : dval ds + l * 10 ^ (9 * i + k) = V (limb xs) (i + 1)
  small : l * 10 ^ k < 1000000000
theorem DigOut.start (xs : List Nat) : DigOut xs [] 0 := ⟨Db.nil, rfl, rfl⟩
theorem DigOut.inn {xs ds : List Nat} {i : Nat} (h : DigOut xs ds i) (hx : limb xs i < 1000000000) : DigIn xs ds i (limb xs i) 0 :=
  ⟨h.b, h.len, by rw [h.eq, Nat.add_zero, pow9]; rfl, by simpa using hx⟩
theorem DigIn.step {xs ds : List Nat} {i l k : Nat} (h : DigIn xs ds i l k) : DigIn xs (ds ++ [l % 10]) i (l / 10) (k + 1) := by
  have hd := Nat.div_add_mod l 10
  have hs := h.small
  have he := h.eq
  have hl := h.len
  refine ⟨h.b.snoc (by omega), by simp; omega, ?_, ?_⟩
  · rw [dval_snoc, hl, ← Nat.add_assoc (9 * i), Nat.pow_succ, ← he]
    have e : l * 10 ^ (9 * i + k) = (10 * (l / 10) + l % 10) * 10 ^ (9 * i + k) := by rw [hd]
    rw [e]
    generalize 10 ^ (9 * i + k) = P
    generalize l / 10 = q
    generalize l % 10 = r
    grind
  · rw [Nat.pow_succ]
    have : l / 10 * 10 * 10 ^ k ≤ l * 10 ^ k := Nat.mul_le_mul_right _ (by omega)
    have e : l / 10 * (10 ^ k * 10) = l / 10 * 10 * 10 ^ k := by rw [Nat.mul_comm (10 ^ k), Nat.mul_assoc]
    omega
theorem DigIn.lt {xs ds : List Nat} {i l k : Nat} (h : DigIn xs ds i l k) : l < 1000000000 := by
  have := h.small
  have h2 : l * 1 ≤ l * 10 ^ k := Nat.mul_le_mul_left _ (Nat.pow_pos (by omega))
  omega
theorem DigIn.next {xs ds : List Nat} {i l : Nat} (h : DigIn xs ds i l 9) : DigOut xs ds (i + 1) := by
  have hs := h.small
  have hl : l = 0 := by omega
  have he := h.eq
  subst hl
  exact ⟨h.b, by rw [h.len]; omega, by omega⟩

/-- What Digits answers, and the sums and differences of digits: digits of the number N. -/
def DigPost (N : Nat) (w : World) (e : Ending) (w' : World) : Prop :=
  ∃ v ds, e = .returned v ∧ Sl .u8 w' v ds ∧ Db ds ∧ Top ds ∧ dval ds = N ∧ Below w.heap.size w w'
end Go.Proofs.YtkocmjmmflphnaaGreatDoor
namespace Go.Proofs.YtkocmjmmflphnaaGreatDoor
open Go.RowKit

/-- What the outer loop of Make holds: q limbs are made of the digits ds. -/
structure MkOut (ds rs : List Nat) (q : Nat) : Prop where
  b : Lb rs
  len : rs.length = q
  eq : val rs = D (limb ds) (9 * q)
  most : q = 0 ∨ 9 * q < ds.length + 9
/-- What its inner loop holds: x is made of the digits from 9q+k on. -/
structure MkIn (ds : List Nat) (q x k : Nat) : Prop where
  eq : x * 10 ^ (9 * q + k) + D (limb ds) (9 * q + k) = D (limb ds) (9 * q + 9)
  small : x * 10 ^ k < 1000000000
theorem MkOut.start (ds : List Nat) : MkOut ds [] 0 := ⟨fun i => by rw [limb_out (by simp)]; omega, rfl, rfl, .inl rfl⟩
theorem MkIn.start (ds : List Nat) (q : Nat) : MkIn ds q 0 9 := ⟨by omega, by omega⟩
theorem MkIn.lt {ds : List Nat} {q x k : Nat} (h : MkIn ds q x k) : x < 1000000000 := by
  have := h.small
  have h2 : x * 1 ≤ x * 10 ^ k := Nat.mul_le_mul_left _ (Nat.pow_pos (by omega))
  omega
theorem MkIn.ten {ds : List Nat} {q x k : Nat} (h : MkIn ds q x (k + 1)) : x * 10 < 1000000000 := by
  have := h.small
  rw [Nat.pow_succ] at this
  have h2 : x * 10 * 1 ≤ x * 10 * 10 ^ k := Nat.mul_le_mul_left _ (Nat.pow_pos (by omega))
  have e : x * (10 ^ k * 10) = x * 10 * 10 ^ k := by rw [Nat.mul_comm (10 ^ k), Nat.mul_assoc]
  omega
theorem ten_step {x d k : Nat} (hd : d < 10) (hk : k < 9) (h : x * (10 ^ k * 10) < 1000000000) : (x * 10 + d) * 10 ^ k < 1000000000 := by
  have e : 10 ^ (8 - k) * (10 ^ k * 10) = 1000000000 := by
    rw [← Nat.mul_assoc, ← Nat.pow_add, show 8 - k + k = 8 by omega]
  have hP : 0 < 10 ^ k := Nat.pow_pos (by omega)
  rw [← e] at h ⊢
  have h1 : x < 10 ^ (8 - k) := Nat.lt_of_mul_lt_mul_right h
  have h2 : (x + 1) * (10 ^ k * 10) ≤ 10 ^ (8 - k) * (10 ^ k * 10) := Nat.mul_le_mul_right _ h1
  refine Nat.lt_of_lt_of_le ?_ h2
  rw [← Nat.mul_assoc, Nat.mul_right_comm]
  exact Nat.mul_lt_mul_of_pos_right (by omega) hP
theorem MkIn.step {ds : List Nat} {q x k : Nat} (h : MkIn ds q x (k + 1)) (hb : Db ds) (hk : k < 9) : MkIn ds q (x * 10 + limb ds (9 * q + k)) k := by
  have he := h.eq
  have hs := h.small
  have hd := hb (9 * q + k)
  rw [← Nat.add_assoc (9 * q), Nat.pow_succ] at he
  rw [Nat.pow_succ] at hs
  refine ⟨?_, ?_⟩
  · rw [← he]
    simp only [D]
    generalize limb ds (9 * q + k) = d
    generalize D (limb ds) (9 * q + k) = s
    generalize 10 ^ (9 * q + k) = P
    clear he hs hd
    grind
  · exact ten_step hd hk hs
/-- .. where no digit stands. -/
theorem MkIn.step0 {ds : List Nat} {q x k : Nat} (h : MkIn ds q x (k + 1)) (hb : Db ds) (hk : k < 9) (hl : ds.length ≤ 9 * q + k) : MkIn ds q (x * 10) k := by
  have := h.step hb hk
  rwa [limb_out hl, Nat.add_zero] at this
theorem MkIn.next {ds rs : List Nat} {q x : Nat} (h : MkIn ds q x 0) (ho : MkOut ds rs q) (hl : 9 * q < ds.length) : MkOut ds (rs ++ [x]) (q + 1) := by
  have he := h.eq
  refine ⟨ho.b.snoc h.lt, by simp [ho.len], ?_, .inr (by omega)⟩
  rw [val_snoc, ho.eq, ho.len, show 9 * (q + 1) = 9 * q + 9 by omega, ← he, Nat.add_zero, pow9]
  omega
/-- What is made in the end. -/
theorem MkOut.done {ds rs : List Nat} {q : Nat} (h : MkOut ds rs q) (ht : Top ds) (hl : ds.length ≤ 9 * q) (h64 : ds.length ≤ 576) {neg neg' : Bool} (hn : neg' = (neg && decide (0 < ds.length))) :
    Snd neg' rs ∧ val rs = dval ds ∧ (rs ≠ [] → neg' = neg) := by
  have hm := h.most
  have hv : val rs = dval ds := by rw [h.eq, dval_eq hl]
  have hlen := h.len
  refine ⟨⟨by omega, h.b, fun e => ?_, fun e => ?_⟩, hv, fun e => ?_⟩
  · subst e
    have : ds = [] := ht.zero (by rw [← hv]; rfl)
    subst this
    simp [hn]
  · have hq : 0 < rs.length := List.length_pos_iff.2 e
    intro h0
    obtain ⟨p, hp⟩ : ∃ p, rs.length = p + 1 := ⟨rs.length - 1, by omega⟩
    have hne : ds ≠ [] := by intro h; rw [h] at hm; simp at hm; omega
    have hg := ht.le hne
    have hlt : val rs < 1000000000 ^ p := by
      unfold val
      rw [hp] at h0 ⊢
      simp only [Nat.add_sub_cancel] at h0
      simp only [V, h0]
      have := V_lt h.b p
      omega
    have : 10 ^ (9 * p) ≤ 10 ^ (ds.length - 1) := Nat.pow_le_pow_right (by omega) (by omega)
    rw [pow9] at this
    omega
  · have : 0 < ds.length := by
      have hq : 0 < rs.length := List.length_pos_iff.2 e
      omega
    simp [hn, this]
end Go.Proofs.YtkocmjmmflphnaaGreatDoor
namespace Go.Proofs.YtkocmjmmflphnaaGreatDoor
open Go.RowKit

theorem D_less {f g : Nat → Nat} (hf : ∀ i, f i < 10) {k n : Nat} (hk : k < n) (hlt : f k < g k) (heq : ∀ j, k < j → j < n → f j = g j) : D f n < D g n := by
  induction n with
  | zero => omega
  | succ n ih =>
    simp only [D]
    by_cases e : k = n
    · subst e
      have h1 := D_lt hf k
      have h2 : (f k + 1) * 10 ^ k ≤ g k * 10 ^ k := Nat.mul_le_mul_right _ hlt
      rw [Nat.add_mul, Nat.one_mul] at h2
      omega
    · have := ih (by omega) (fun j h1 h2 => heq j h1 (by omega))
      rw [heq n (by omega) (by omega)]
      omega

/-- What the loop of plus holds. -/
structure SumInv (xs ys rs : List Nat) (i c : Nat) : Prop where
  b : Db rs
  len : rs.length = i
  eq : dval rs + c * 10 ^ i = D (limb xs) i + D (limb ys) i
  small : c ≤ 1
theorem SumInv.start (xs ys : List Nat) : SumInv xs ys [] 0 0 := ⟨Db.nil, rfl, rfl, by omega⟩
theorem SumInv.step {xs ys rs : List Nat} {i c : Nat} (h : SumInv xs ys rs i c) (hx : Db xs) (hy : Db ys) {s : Nat} (hs : s = c + limb xs i + limb ys i) : SumInv xs ys (rs ++ [s % 10]) (i + 1) (s / 10) := by
  have he := h.eq
  have h1 := hx i
  have h2 := hy i
  have h3 := h.small
  have hd := Nat.div_add_mod s 10
  refine ⟨h.b.snoc (by omega), by simp [h.len], ?_, by omega⟩
  rw [dval_snoc, h.len, Nat.pow_succ]
  simp only [D]
  generalize s / 10 = q at *
  generalize s % 10 = r at *
  generalize limb xs i = x at *
  generalize limb ys i = y at *
  generalize D (limb xs) i = X at *
  generalize D (limb ys) i = Y at *
  generalize 10 ^ i = P at *
  generalize dval rs = R at *
  subst hs
  clear h h1 h2 h3 hx hy
  have e : (10 * q + r) * P = (c + x + y) * P := by rw [hd]
  grind
theorem SumInv.done {xs ys rs : List Nat} {i c : Nat} (h : SumInv xs ys rs i c) (hx : xs.length ≤ i) (hy : ys.length ≤ i) : Db (rs ++ [c]) ∧ dval (rs ++ [c]) = dval xs + dval ys := by
  have := h.small
  refine ⟨h.b.snoc (by omega), ?_⟩
  rw [dval_snoc, h.len, h.eq, dval_eq hx, dval_eq hy]

/-- What the loop of minus holds. -/
structure DifInv (xs ys rs : List Nat) (i c : Nat) : Prop where
  b : Db rs
  len : rs.length = i
  eq : dval rs + D (limb ys) i = D (limb xs) i + c * 10 ^ i
  small : c ≤ 1
theorem DifInv.start (xs ys : List Nat) : DifInv xs ys [] 0 0 := ⟨Db.nil, rfl, rfl, by omega⟩
theorem DifInv.step {xs ys rs : List Nat} {i c : Nat} (h : DifInv xs ys rs i c) {t c' : Nat} (ht : t < 10) (hc' : c' ≤ 1) (hs : t + (c + limb ys i) = limb xs i + 10 * c') : DifInv xs ys (rs ++ [t]) (i + 1) c' := by
  have he := h.eq
  refine ⟨h.b.snoc ht, by simp [h.len], ?_, hc'⟩
  rw [dval_snoc, h.len, Nat.pow_succ]
  simp only [D]
  generalize limb xs i = x at *
  generalize limb ys i = y at *
  generalize D (limb xs) i = X at *
  generalize D (limb ys) i = Y at *
  generalize 10 ^ i = P at *
  generalize dval rs = R at *
  clear h ht hc'
  have e : (t + (c + y)) * P = (x + 10 * c') * P := by rw [hs]
  grind
theorem DifInv.done {xs ys rs : List Nat} {c : Nat} (h : DifInv xs ys rs xs.length c) (hy : ys.length ≤ xs.length) (hle : dval ys ≤ dval xs) : dval rs = dval xs - dval ys := by
  have he := h.eq
  rw [dval_eq hy, dval_eq (Nat.le_refl _)] at he
  have hl := dval_lt h.b
  rw [h.len] at hl
  have hc := h.small
  rcases (by omega : c = 0 ∨ c = 1) with rfl | rfl
  · omega
  · rw [Nat.one_mul] at he; omega
theorem Top.mono {xs ys : List Nat} (hx : Db xs) (hy : Db ys) (ht : Top ys) (hle : dval ys ≤ dval xs) : ys.length ≤ xs.length :=
  (ht.len hy).2 (Nat.lt_of_le_of_lt hle (dval_lt hx))
theorem Top.less {xs ys : List Nat} (hx : Db xs) (hy : Db ys) (ht : Top ys) (hl : xs.length < ys.length) : dval xs < dval ys := by
  apply Classical.byContradiction
  intro h
  have := ht.mono hx hy (by omega)
  omega
end Go.Proofs.YtkocmjmmflphnaaGreatDoor
