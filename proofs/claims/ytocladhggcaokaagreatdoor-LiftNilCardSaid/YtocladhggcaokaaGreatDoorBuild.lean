/- strings.Builder's writing methods at this dump (the shelf's own cannot be laid here: the loader refuses copyCheck's panic). | num.Text | Decimal texts: of limbs, nine digits each, and of digits. No walk here. -/
import Derived.Test.YtocladhggcaokaaGreatDoorProg
import Derived.WalkKit
import Derived.WalkSpells
import Derived.WalkLawsBesides
import Derived.Lib.Hide
import Derived.Lib.OthersKept
import Derived.Lib.FrozenHead2
import Derived.Test.YtocladhggcaokaaGreatDoorLook
import Derived.Test.YtocladhggcaokaaGreatDoorShelf
import Derived.Lib.SmallJoins
import Derived.Lib.AppendIntMem
import Derived.Lib.ItoaLen
import Derived.Test.YtocladhggcaokaaGreatDoorAdd
namespace Go.Proofs.YtocladhggcaokaaGreatDoor
open Go.RowKit

theorem infoU8 : (Tryz.prog.info? 5).map (fun i => (i.zero, i.size, i.bytes)) = some (some (.int .u8 0), 1, 1) := by kernel_rfl

end Go.Proofs.YtocladhggcaokaaGreatDoor
namespace Go.Proofs.YtocladhggcaokaaGreatDoor
open Go.RowKit

/-- The lower limbs, nine digits each, the highest first. -/
def txtLow (rs : List Nat) : Nat → List UInt8
  | 0 => []
  | i + 1 => (Lib.itoa (1000000000 + (limb rs i : Nat))).drop 1 ++ txtLow rs i
def txt (neg : Bool) (rs : List Nat) : List UInt8 :=
  if rs = [] then [48] else (if neg then [45] else []) ++ (Lib.itoa (limb rs (rs.length - 1) : Nat) ++ txtLow rs (rs.length - 1))

def Pow10 (w : World) : Prop := Lib.TabIs Tryz.prog w "internal/strconv.uint64pow10" .u64 Lib.pow10Tab
/-- What Text answers. -/
def TextPost (l : List UInt8) (w : World) (e : Ending) (w' : World) : Prop := e = .returned (.string ⟨l.toArray⟩) ∧ Below w.heap.size w w'

theorem isB_below {T e : TypeId} {B b : Nat} {bs : List Value} {w w' : World} (h : Lib.IsBuilderF T e B b bs w) (hb : Below w.heap.size w w') : Lib.IsBuilderF T e B b bs w' := by
  have hg : w.grownBy w' none := ⟨hb.os, hb.tape, hb.output, hb.size, fun k hk _ => hb.block k hk⟩
  have key : ∀ p, Lib.BuilderAtF T e B b p bs w → Lib.BuilderAtF T e B b p bs w' := by
    intro p ⟨hB, v, hv, hown, hne⟩
    have hlt : b < w.heap.size := (Array.getElem?_eq_some_iff.1 hv).1
    refine ⟨hB, v, by rw [hb.block b hlt]; exact hv, hown.kept hg ?_, hne⟩
    cases v.ownBlock <;> simp
  rcases h with h | h
  · exact .inl (key _ h)
  · exact .inr (key _ h)
theorem bld_start {T e : TypeId} (w : World) : Lib.IsBuilderF T e w.heap.size w.heap.size [] (w.alloc (.cells #[.pointer none, .slice none 0 0] T)) :=
  .inl ⟨Nat.le_refl _, .slice none 0 0, heap_alloc_new w _, World.ownsRowF_nil _ _ _ _, by simp [Value.ownBlock]⟩

end Go.Proofs.YtocladhggcaokaaGreatDoor
namespace Go.Proofs.YtocladhggcaokaaGreatDoor
open Go.RowKit

theorem dec_step {n : Nat} (h : 10 ≤ n) : Lib.decDigits n = Lib.decDigits (n / 10) ++ [UInt8.ofNat (48 + n % 10)] := by rw [Lib.decDigits, dif_neg (by omega)]
theorem dec_ne (n : Nat) : Lib.decDigits n ≠ [] := by
  rw [Lib.decDigits]; split <;> simp
theorem dec_pad : ∀ (k T l : Nat), 1 ≤ T → l < 10 ^ k → Lib.decDigits (T * 10 ^ k + l) = Lib.decDigits T ++ (Lib.decDigits (10 ^ k + l)).drop 1 := by
  intro k
  induction k with
  | zero =>
    intro T l hT hl
    have : l = 0 := by simpa using hl
    subst this
    have e : Lib.decDigits (10 ^ 0 + 0) = [UInt8.ofNat (48 + 1)] := Lib.decDigits_one (by omega)
    rw [e]
    simp
  | succ k ih =>
    intro T l hT hl
    have hp : 1 ≤ 10 ^ k := Nat.pow_pos (by omega)
    have e1 : 10 ^ (k + 1) = 10 * 10 ^ k := by rw [Nat.pow_succ, Nat.mul_comm]
    have e2 : T * 10 ^ (k + 1) = 10 * (T * 10 ^ k) := by rw [e1, Nat.mul_left_comm]
    have e3 : 1 ≤ T * 10 ^ k := Nat.mul_pos hT hp
    rw [e1] at hl
    rw [dec_step (n := T * 10 ^ (k + 1) + l) (by omega), dec_step (n := 10 ^ (k + 1) + l) (by omega)]
    have q1 : (T * 10 ^ (k + 1) + l) / 10 = T * 10 ^ k + l / 10 := by omega
    have q2 : (10 ^ (k + 1) + l) / 10 = 10 ^ k + l / 10 := by omega
    have q3 : (T * 10 ^ (k + 1) + l) % 10 = l % 10 := by omega
    have q4 : (10 ^ (k + 1) + l) % 10 = l % 10 := by omega
    rw [q1, q2, q3, q4, ih T (l / 10) hT (by omega)]
    have hne := dec_ne (10 ^ k + l / 10)
    obtain ⟨a, t, ht⟩ := List.exists_cons_of_ne_nil hne
    rw [ht]
    simp

theorem V_shift (f : Nat → Nat) (n : Nat) : V f (n + 1) = f 0 + 1000000000 * V (fun i => f (i + 1)) n := by
  induction n with
  | zero => simp [V]
  | succ n ih =>
    have e : V f (n + 1 + 1) = V f (n + 1) + f (n + 1) * 1000000000 ^ (n + 1) := rfl
    rw [e, ih]
    simp only [V]
    rw [Nat.pow_succ, Nat.mul_add]
    have : f (n + 1) * (1000000000 ^ n * 1000000000) = 1000000000 * (f (n + 1) * 1000000000 ^ n) := by rw [← Nat.mul_assoc, Nat.mul_comm]
    omega
/-- The number of the limbs from the i-th on. -/
def Hi (rs : List Nat) (i : Nat) : Nat := V (fun j => limb rs (i + j)) (rs.length - i)
theorem Hi_zero (rs : List Nat) : Hi rs 0 = val rs := by unfold Hi val; simp
theorem Hi_step {rs : List Nat} {i : Nat} (h : i < rs.length) : Hi rs i = limb rs i + 1000000000 * Hi rs (i + 1) := by
  obtain ⟨m, hm⟩ : ∃ m, rs.length - i = m + 1 := ⟨rs.length - i - 1, by omega⟩
  have hm2 : rs.length - (i + 1) = m := by omega
  unfold Hi
  rw [hm, hm2, V_shift]
  have e : (fun j => limb rs (i + (j + 1))) = fun j => limb rs (i + 1 + j) := by
    funext j; congr 1; omega
  rw [e]
  rfl
theorem Hi_top {rs : List Nat} (h : 1 ≤ rs.length) : Hi rs (rs.length - 1) = limb rs (rs.length - 1) := by
  unfold Hi
  have : rs.length - (rs.length - 1) = 1 := by omega
  rw [this]
  simp [V]
theorem Hi_pos {rs : List Nat} (h : 1 ≤ rs.length) (ht : limb rs (rs.length - 1) ≠ 0) : ∀ m i, rs.length - 1 - i = m → i ≤ rs.length - 1 → 1 ≤ Hi rs i := by
  intro m
  induction m with
  | zero =>
    intro i h1 h2
    obtain rfl : i = rs.length - 1 := by omega
    rw [Hi_top h]; omega
  | succ m ih =>
    intro i h1 h2
    rw [Hi_step (by omega)]
    have := ih (i + 1) (by omega) (by omega)
    omega
theorem txt_low {rs : List Nat} (hb : Lb rs) (h : 1 ≤ rs.length) (ht : limb rs (rs.length - 1) ≠ 0) : ∀ i, i ≤ rs.length - 1 → Lib.decDigits (Hi rs i) ++ txtLow rs i = Lib.decDigits (Hi rs 0) := by
  intro i
  induction i with
  | zero => intro _; simp [txtLow]
  | succ i ih =>
    intro hi
    rw [← ih (by omega)]
    simp only [txtLow]
    have e0 : (1000000000 : Int) + ((limb rs i : Nat) : Int) = ((1000000000 + limb rs i : Nat) : Int) := by omega
    rw [e0, Lib.itoa_nonneg, ← List.append_assoc]
    congr 1
    have hp := dec_pad 9 (Hi rs (i + 1)) (limb rs i) (Hi_pos h ht _ _ rfl hi) (hb i)
    have e1 : Hi rs (i + 1) * 10 ^ 9 + limb rs i = Hi rs i := by rw [Hi_step (show i < rs.length by omega)]; omega
    rw [e1] at hp
    exact hp.symm
/-- A number's text. -/
theorem txt_dec {neg : Bool} {rs : List Nat} (h : Snd neg rs) (hne : rs ≠ []) : txt neg rs = (if neg then [45] else []) ++ Lib.decDigits (val rs) := by
  have hl : 1 ≤ rs.length := List.length_pos_iff.2 hne
  have ht := h.2.2.2 hne
  unfold txt
  rw [if_neg hne, Lib.itoa_nonneg, ← Hi_top hl, txt_low h.2.1 hl ht _ (Nat.le_refl _), Hi_zero]

/-- Digits as a text, the highest first. -/
def revTxt (ds : List Nat) : List UInt8 := ds.reverse.map fun d => UInt8.ofNat (48 + d)
theorem D_cons (d : Nat) (ds : List Nat) (n : Nat) : D (limb (d :: ds)) (n + 1) = d + 10 * D (limb ds) n := by
  induction n with
  | zero => simp [D, limb]
  | succ n ih =>
    have e : D (limb (d :: ds)) (n + 1 + 1) = D (limb (d :: ds)) (n + 1) + limb (d :: ds) (n + 1) * 10 ^ (n + 1) := rfl
    have e2 : limb (d :: ds) (n + 1) = limb ds n := by simp [limb]
    rw [e, ih, e2]
    simp only [D]
    rw [Nat.pow_succ, Nat.mul_add]
    have : limb ds n * (10 ^ n * 10) = 10 * (limb ds n * 10 ^ n) := by rw [← Nat.mul_assoc, Nat.mul_comm]
    omega
theorem dval_cons (d : Nat) (ds : List Nat) : dval (d :: ds) = d + 10 * dval ds := by
  unfold dval
  exact D_cons d ds ds.length
theorem Db.tail {d : Nat} {ds : List Nat} (h : Db (d :: ds)) : d < 10 ∧ Db ds := by
  refine ⟨by have := h 0; simpa [limb] using this, fun i => ?_⟩
  have := h (i + 1)
  simpa [limb] using this
theorem Top.tail {d : Nat} {ds : List Nat} (h : Top (d :: ds)) : Top ds := by
  intro hne
  have := h (by simp)
  have hl : 0 < ds.length := List.length_pos_iff.2 hne
  obtain ⟨k, hk⟩ : ∃ k, ds.length = k + 1 := ⟨ds.length - 1, by omega⟩
  rw [hk]
  simp only [List.length_cons, hk] at this
  simpa [limb] using this
theorem revTxt_dec : ∀ (ds : List Nat), Db ds → Top ds → ds ≠ [] → revTxt ds = Lib.decDigits (dval ds) := by
  intro ds
  induction ds with
  | nil => intro _ _ h; exact absurd rfl h
  | cons d ds ih =>
    intro hb ht _
    obtain ⟨hd, hb'⟩ := hb.tail
    have ht' := ht.tail
    rw [dval_cons]
    by_cases hne : ds = []
    · subst hne
      have : dval [] = 0 := rfl
      rw [this, Nat.mul_zero, Nat.add_zero, Lib.decDigits_one hd]
      rfl
    · have h1 := ht'.le hne
      have h2 : 1 ≤ 10 ^ (ds.length - 1) := Nat.pow_pos (by omega)
      rw [dec_step (by omega)]
      have e1 : (d + 10 * dval ds) / 10 = dval ds := by omega
      have e2 : (d + 10 * dval ds) % 10 = d := by omega
      rw [e1, e2, ← ih hb' ht' hne]
      simp [revTxt]
theorem dig_len' {xs ds : List Nat} (hx : Lb xs) (hl : xs.length ≤ 64) (hb : Db ds) (ht : Top ds) (hv : dval ds = val xs) : ds.length < 1000000 := by
  obtain ⟨n, hn⟩ : ∃ n, n = 64 := ⟨_, rfl⟩
  rw [← hn] at hl
  have h1 : dval ds < 10 ^ (9 * n) := by
    rw [hv, pow9]
    exact Nat.lt_of_lt_of_le (val_lt hx) (Nat.pow_le_pow_right (by omega) hl)
  have := (ht.len hb).2 h1
  clear h1
  omega
theorem sl_at {k : IntKind} {w : World} {ao : Option Addr} {cap : Nat} {xs : List Nat} (h : Sl k w (.slice ao xs.length cap) xs) {j : Nat} (hj : j < xs.length) : ∃ b off, ao = some ⟨b, off, none⟩ ∧ b < w.heap.size ∧ w.cell? ⟨b, off + j, none⟩ = some (.int k ((limb xs j : Nat) : Int)) := by
  obtain ⟨_, ao', cap', hv, _, h⟩ := h
  simp only [Value.slice.injEq, true_and] at hv
  obtain ⟨rfl, rfl⟩ := hv
  rcases h with ⟨h, _⟩ | ⟨b, off, h1, h2, h3⟩
  · rw [h] at hj; simp at hj
  · exact ⟨b, off, h1, h2, h3 j hj⟩
end Go.Proofs.YtocladhggcaokaaGreatDoor
