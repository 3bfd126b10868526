/- answers; a number has one form -/
import Derived.Test.YtiekhjgfnmochaaDoorOf
import Derived.Test.YtiekhjgfnmochaaDoorText
namespace Go.Proofs.YtiekhjgfnmochaaDoor
open Go.RowKit

theorem V_inj {f g : Nat → Nat} (hf : ∀ i, f i < 1000000000) (hg : ∀ i, g i < 1000000000) {n : Nat} (h : V f n = V g n) : ∀ i, i < n → f i = g i := by
  induction n with
  | zero => intro i hi; omega
  | succ n ih =>
    simp only [V] at h
    have a := V_lt hf n
    have b := V_lt hg n
    have e : f n = g n := by
      rcases Nat.lt_trichotomy (f n) (g n) with c | c | c
      · have : (f n + 1) * 1000000000 ^ n ≤ g n * 1000000000 ^ n := Nat.mul_le_mul_right _ c
        rw [Nat.add_mul, Nat.one_mul] at this
        omega
      · exact c
      · have : (g n + 1) * 1000000000 ^ n ≤ f n * 1000000000 ^ n := Nat.mul_le_mul_right _ c
        rw [Nat.add_mul, Nat.one_mul] at this
        omega
    rw [e] at h
    intro i hi
    by_cases e2 : i = n
    · rw [e2]; exact e
    · exact ih (by omega) i (by omega)

theorem list_limbs {xs ys : List Nat} (hl : xs.length = ys.length) (h : ∀ i, i < xs.length → limb xs i = limb ys i) : xs = ys := by
  apply List.ext_getElem hl
  intro i h1 h2
  have := h i h1
  rwa [limb_lt h1, limb_lt h2] at this

theorem snd_list {n1 n2 : Bool} {xs ys : List Nat} (hx : Snd n1 xs) (hy : Snd n2 ys) (h : val xs = val ys) : xs = ys := by
  have h1 := len_le_of_val hx hy (by omega)
  have h2 := len_le_of_val hy hx (by omega)
  refine list_limbs (by omega) (V_inj hx.2.1 hy.2.1 (n := xs.length) ?_)
  rw [val_eq (Nat.le_refl _), val_eq h1]
  exact h

theorem snd_pos {n : Bool} {xs : List Nat} (hx : Snd n xs) (h : xs ≠ []) : 0 < val xs := by
  have := val_pos h (hx.2.2.2 h)
  have := Nat.pow_pos (n := xs.length - 1) (show 0 < 1000000000 by omega)
  omega

/-- A number has one form. -/
theorem snd_unique {n1 n2 : Bool} {xs ys : List Nat} (hx : Snd n1 xs) (hy : Snd n2 ys) (h : ival n1 xs = ival n2 ys) : n1 = n2 ∧ xs = ys := by
  have e : xs = ys := by
    refine snd_list hx hy ?_
    unfold ival at h
    split at h <;> split at h <;> omega
  subst e
  refine ⟨?_, rfl⟩
  by_cases e : xs = []
  · rw [hx.2.2.1 e, hy.2.2.1 e]
  · have := snd_pos hx e
    unfold ival at h
    cases n1 <;> cases n2 <;> simp at h <;> first | rfl | omega

theorem ans_txt {neg : Bool} {rs : List Nat} (h : Snd neg rs) (hv : ival neg rs = -1000000007) : txt neg rs = [45, 49, 48, 48, 48, 48, 48, 48, 48, 48, 55] := by
  have hs : Snd true [7, 1] := ⟨by simp, Lb.of_mem (by simp), fun h => by simp at h, fun _ => by simp [limb]⟩
  obtain ⟨rfl, rfl⟩ := snd_unique h hs (by rw [hv]; simp [ival, val, V, limb])
  have e1 : limb [7, 1] 1 = 1 := rfl
  have e0 : limb [7, 1] 0 = 7 := rfl
  unfold txt
  rw [if_neg (by simp)]
  show ([45] : List UInt8) ++ (Lib.itoa ((limb [7, 1] 1 : Nat) : Int) ++ ((Lib.itoa (1000000000 + ((limb [7, 1] 0 : Nat) : Int))).drop 1 ++ [])) = _
  rw [e1, e0]
  have i1 : Lib.itoa ((1 : Nat) : Int) = [49] := by rw [Lib.itoa_nonneg, Lib.decDigits_one (by omega)]; rfl
  have i2 : Lib.itoa (1000000000 + ((7 : Nat) : Int)) = [49, 48, 48, 48, 48, 48, 48, 48, 48, 55] := by
    have e9 : (1000000000 : Int) + ((7 : Nat) : Int) = ((1000000007 : Nat) : Int) := by omega
    rw [e9, Lib.itoa_nonneg]
    iterate 9 (rw [Lib.decDigits, dif_neg (by omega)])
    rw [Lib.decDigits_one (by omega)]
    rfl
  rw [i1, i2]
  rfl

set_option maxRecDepth 100000 in
set_option maxHeartbeats 2000000 in
theorem answers_any (w : World) (ht : Pow10 w) : Calls Tryd.prog 12 #[] w fun e w' => e = .returned (.bool true) ∧ Below w.heap.size w w' := by
  have HT := Lib.hid ht; clear ht
  go_enter Tryd.func12, Tryd.ntmps12
  go_wp2_with fail
  refine (of_any (-1000000007) w (by omega) (by omega)).mono ?_
  rintro e w1 ⟨v, neg, rs, rfl, ⟨sv, rfl, hsl⟩, hb1, hsnd, hval⟩
  have HV := Lib.hid (ans_txt hsnd hval)
  have HS := Lib.hid hsnd
  clear hval hsnd
  go_wp2_with fail
  refine (text_any neg sv rs w1 hsl HS.out (HT.out.below hb1)).mono ?_
  rintro e w2 ⟨rfl, hb2⟩
  rw [HV.out]
  go_wp2
  go_ret
  exact ⟨rfl, hb1.trans (hb2.mono hb1.size)⟩
end Go.Proofs.YtiekhjgfnmochaaDoor
