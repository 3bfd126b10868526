/- Decimal digits, the lowest first, and the numbers that they stand for. No walk here. -/
import Derived.Test.YtommakdomnaclaaDoorOf
namespace Go.Proofs.YtommakdomnaclaaDoor
open Go.RowKit

/-- The number of the first n digits. -/
def D (f : Nat → Nat) : Nat → Nat
  | 0 => 0
  | n + 1 => D f n + f n * 10 ^ n
def dval (ds : List Nat) : Nat := D (limb ds) ds.length
/-- Digits as they may be. -/
def Db (ds : List Nat) : Prop := ∀ i, limb ds i < 10
/-- No nought at the top. -/
def Top (ds : List Nat) : Prop := ds ≠ [] → limb ds (ds.length - 1) ≠ 0

theorem D_congr {f g : Nat → Nat} {n : Nat} (h : ∀ i, i < n → f i = g i) : D f n = D g n := by
  induction n with
  | zero => rfl
  | succ n ih => simp only [D]; rw [ih (fun i hi => h i (by omega)), h n (by omega)]
theorem D_out {f : Nat → Nat} {m : Nat} (h : ∀ i, m ≤ i → f i = 0) {n : Nat} (hn : m ≤ n) : D f n = D f m := by
  induction n with
  | zero => obtain rfl : m = 0 := by omega
            rfl
  | succ n ih =>
    by_cases e : m = n + 1
    · rw [e]
    · simp only [D]; rw [ih (by omega), h n (by omega)]; omega
theorem D_lt {f : Nat → Nat} (h : ∀ i, f i < 10) (n : Nat) : D f n < 10 ^ n := by
  induction n with
  | zero => simp [D]
  | succ n ih =>
    simp only [D]
    have h1 : f n * 10 ^ n ≤ 9 * 10 ^ n := Nat.mul_le_mul_right _ (by have := h n; omega)
    rw [Nat.pow_succ]; omega
theorem dval_lt {ds : List Nat} (h : Db ds) : dval ds < 10 ^ ds.length := D_lt h _
theorem dval_eq {ds : List Nat} {n : Nat} (h : ds.length ≤ n) : D (limb ds) n = dval ds := D_out (fun _ hi => limb_out hi) h
theorem dval_snoc (ds : List Nat) (d : Nat) : dval (ds ++ [d]) = dval ds + d * 10 ^ ds.length := by
  unfold dval
  have e : (ds ++ [d]).length = ds.length + 1 := by simp
  rw [e]
  simp only [D]
  rw [limb_snoc, if_neg (by omega), if_pos rfl]
  congr 1
  exact D_congr fun i hi => by rw [limb_snoc, if_pos hi]
theorem Db.snoc {ds : List Nat} (h : Db ds) {d : Nat} (hd : d < 10) : Db (ds ++ [d]) := by
  intro i; rw [limb_snoc]; split
  · exact h i
  · split <;> omega
theorem Db.nil : Db [] := fun i => by rw [limb_out (by simp)]; omega
theorem Db.wide {ds : List Nat} (h : Db ds) : ∀ i, limb ds i < 256 := fun i => by have := h i; omega
theorem dlimb_take {xs : List Nat} {n i : Nat} : limb (xs.take n) i = if i < n then limb xs i else 0 := by
  unfold limb
  simp only [List.getD_eq_getElem?_getD, List.getElem?_take]
  split <;> rfl
theorem Db.take {ds : List Nat} (h : Db ds) (n : Nat) : Db (ds.take n) := by
  intro i; rw [dlimb_take]; split
  · exact h i
  · omega
theorem dval_take {ds : List Nat} {n : Nat} (hn : n ≤ ds.length) (hz : ∀ i, n ≤ i → limb ds i = 0) : dval (ds.take n) = dval ds := by
  have e : (ds.take n).length = n := by simp; omega
  unfold dval
  rw [e, D_out hz hn]
  exact D_congr fun i hi => by rw [dlimb_take, if_pos hi]
theorem Top.take {ds : List Nat} {n : Nat} (hn : n ≤ ds.length) (h : n = 0 ∨ limb ds (n - 1) ≠ 0) : Top (ds.take n) := by
  intro hne
  have e : (ds.take n).length = n := by simp; omega
  rcases h with h | h
  · subst h; simp at hne
  · by_cases h0 : n = 0
    · subst h0; simp at hne
    · rw [e, dlimb_take, if_pos (by omega)]; exact h
theorem Top.le {ds : List Nat} (h : Top ds) (hne : ds ≠ []) : 10 ^ (ds.length - 1) ≤ dval ds := by
  have h1 := h hne
  have hl : 0 < ds.length := List.length_pos_iff.2 hne
  obtain ⟨k, hk⟩ : ∃ k, ds.length = k + 1 := ⟨ds.length - 1, by omega⟩
  unfold dval
  rw [hk] at h1 ⊢
  simp only [Nat.add_sub_cancel, D] at h1 ⊢
  have : 1 * 10 ^ k ≤ limb ds k * 10 ^ k := Nat.mul_le_mul_right _ (by omega)
  omega
/-- How many digits there are says how large the number is. -/
theorem Top.len {ds : List Nat} (h : Top ds) (hb : Db ds) {n : Nat} : ds.length ≤ n ↔ dval ds < 10 ^ n := by
  constructor
  · intro hl
    exact Nat.lt_of_lt_of_le (dval_lt hb) (Nat.pow_le_pow_right (by omega) hl)
  · intro hv
    by_cases hne : ds = []
    · subst hne; simp
    · have h1 := h.le hne
      by_cases hl : ds.length ≤ n
      · exact hl
      · have : 10 ^ n ≤ 10 ^ (ds.length - 1) := Nat.pow_le_pow_right (by omega) (by omega)
        omega
theorem Top.zero {ds : List Nat} (h : Top ds) (h0 : dval ds = 0) : ds = [] := by
  apply Classical.byContradiction
  intro hne
  have h1 := h.le hne
  have : 0 < 10 ^ (ds.length - 1) := Nat.pow_pos (by omega)
  omega

theorem pow9 (n : Nat) : 10 ^ (9 * n) = 1000000000 ^ n := by rw [Nat.pow_mul]

/-- What the outer loop of Digits holds. -/
structure DigOut (xs ds : List Nat) (i : Nat) : Prop where
  b : Db ds
  len : ds.length = 9 * i
  eq : dval ds = V (limb xs) i
/-- What its inner loop holds: l is left of the i-th limb behind k digits. -/
structure DigIn (xs ds : List Nat) (i l k : Nat) : Prop where
  b : Db ds
  len : ds.length = 9 * i + k
  eq : dval ds + l * 10 ^ (9 * i + k) = V (limb xs) (i + 1)
  small : l * 10 ^ k < 1000000000
theorem DigOut.start (xs : List Nat) : DigOut xs [] 0 := ⟨Db.nil, rfl, rfl⟩
theorem DigOut.inn {xs ds : List Nat} {i : Nat} (h : DigOut xs ds i) (hx : limb xs i < 1000000000) : DigIn xs ds i (limb xs i) 0 :=
  ⟨h.b, h.len, by rw [h.eq, Nat.add_zero, pow9]; rfl, by simpa using hx⟩
theorem DigIn.step {xs ds : List Nat} {i l k : Nat} (h : DigIn xs ds i l k) : DigIn xs (ds ++ [l % 10]) i (l / 10) (k + 1) := by
  have hd := Nat.div_add_mod l 10
  have hs := h.small
  have he := h.eq
  have hl := h.len
  refine ⟨h.b.snoc (by omega), by simp; omega, ?_, ?_⟩
  · rw [dval_snoc, hl, ← Nat.add_assoc (9 * i), Nat.pow_succ, ← he]
    have e : l * 10 ^ (9 * i + k) = (10 * (l / 10) + l % 10) * 10 ^ (9 * i + k) := by rw [hd]
    rw [e]
    generalize 10 ^ (9 * i + k) = P
    generalize l / 10 = q
    generalize l % 10 = r
    grind
  · rw [Nat.pow_succ]
    have : l / 10 * 10 * 10 ^ k ≤ l * 10 ^ k := Nat.mul_le_mul_right _ (by omega)
    have e : l / 10 * (10 ^ k * 10) = l / 10 * 10 * 10 ^ k := by rw [Nat.mul_comm (10 ^ k), Nat.mul_assoc]
    omega
theorem DigIn.lt {xs ds : List Nat} {i l k : Nat} (h : DigIn xs ds i l k) : l < 1000000000 := by
  have := h.small
  have h2 : l * 1 ≤ l * 10 ^ k := Nat.mul_le_mul_left _ (Nat.pow_pos (by omega))
  omega
theorem DigIn.next {xs ds : List Nat} {i l : Nat} (h : DigIn xs ds i l 9) : DigOut xs ds (i + 1) := by
  have hs := h.small
  have hl : l = 0 := by omega
  have he := h.eq
  subst hl
  exact ⟨h.b, by rw [h.len]; omega, by omega⟩

/-- What Digits answers, and the sums and differences of digits: digits of the number N. -/
def DigPost (N : Nat) (w : World) (e : Ending) (w' : World) : Prop :=
  ∃ v ds, e = .returned v ∧ Sl .u8 w' v ds ∧ Db ds ∧ Top ds ∧ dval ds = N ∧ Below w.heap.size w w'
end Go.Proofs.YtommakdomnaclaaDoor
