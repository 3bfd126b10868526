/- There and back. No walk here. -/
import Derived.Test.YtkocmjmmflphnaaGreatDoorUEncMath
namespace Go.Proofs.YtkocmjmmflphnaaGreatDoor
open Go.RowKit

theorem limb_cons0 (a : Nat) (l : List Nat) : limb (a :: l) 0 = a := rfl
theorem limb_cons1 (a b : Nat) (l : List Nat) : limb (a :: b :: l) 1 = b := rfl
theorem limb_cons2 (a b c : Nat) (l : List Nat) : limb (a :: b :: c :: l) 2 = c := rfl
theorem limb_cons3 (a b c d : Nat) (l : List Nat) : limb (a :: b :: c :: d :: l) 3 = d := rfl
/-- A character's bytes are it. -/
theorem dc_enc {c : Nat} (h : scN c) (bs : List Nat) : dc (encN c ++ bs) 0 = (c, blen c) := by
  unfold scN at h
  by_cases h1 : c < 128
  · have e : encN c = [c] := by unfold encN; rw [if_pos h1]
    have e2 : blen c = 1 := by unfold blen; rw [if_pos h1]
    rw [e, e2]
    exact dc_one (bs := c :: bs) (i := 0) h1
  by_cases h2 : c < 2048
  · have e : encN c = [192 + c / 64, 128 + c % 64] := by unfold encN; rw [if_neg h1, if_pos h2]
    have e2 : blen c = 2 := by unfold blen; rw [if_neg h1, if_pos h2]
    rw [e, e2]
    have := dc_two (bs := [192 + c / 64, 128 + c % 64] ++ bs) (i := 0) (by simp only [List.cons_append, limb_cons0]; omega) (by simp) (by simp only [List.cons_append, Nat.zero_add, limb_cons1]; omega)
    rw [this]
    simp only [List.cons_append, limb_cons0, Nat.zero_add, limb_cons1]
    have e3 : (192 + c / 64 - 192) * 64 + (128 + c % 64 - 128) = c := by omega
    rw [e3, if_pos (by omega)]
  by_cases h3 : c < 65536
  · have e : encN c = [224 + c / 4096, 128 + c / 64 % 64, 128 + c % 64] := by unfold encN; rw [if_neg h1, if_neg h2, if_pos h3]
    have e2 : blen c = 3 := by unfold blen; rw [if_neg h1, if_neg h2, if_pos h3]
    rw [e, e2]
    have := dc_three (bs := [224 + c / 4096, 128 + c / 64 % 64, 128 + c % 64] ++ bs) (i := 0) (by simp only [List.cons_append, limb_cons0]; omega) (by simp) (by simp only [List.cons_append, Nat.zero_add, limb_cons1]; omega) (by simp only [List.cons_append, Nat.zero_add, limb_cons2]; omega) c (by simp only [List.cons_append, limb_cons0, Nat.zero_add, limb_cons1, limb_cons2]; omega)
    rw [this, if_pos ⟨by omega, h⟩]
  · have e : encN c = [240 + c / 262144, 128 + c / 4096 % 64, 128 + c / 64 % 64, 128 + c % 64] := by unfold encN; rw [if_neg h1, if_neg h2, if_neg h3]
    have e2 : blen c = 4 := by unfold blen; rw [if_neg h1, if_neg h2, if_neg h3]
    rw [e, e2]
    have := dc_four (bs := [240 + c / 262144, 128 + c / 4096 % 64, 128 + c / 64 % 64, 128 + c % 64] ++ bs) (i := 0) (by simp only [List.cons_append, limb_cons0]; omega) (by simp) (by simp only [List.cons_append, Nat.zero_add, limb_cons1]; omega) (by simp only [List.cons_append, Nat.zero_add, limb_cons2]; omega) (by simp only [List.cons_append, Nat.zero_add, limb_cons3]; omega) c (by simp only [List.cons_append, limb_cons0, Nat.zero_add, limb_cons1, limb_cons2, limb_cons3]; omega)
    rw [this, if_pos ⟨by omega, h⟩]
theorem enc_good {c : Nat} : badB (c, blen c) = false := by
  rw [badB_false]
  unfold blen
  repeat' split
  all_goals (simp only []; omega)
/-- Characters' bytes are these characters. -/
theorem chars_enc : ∀ l : List Nat, (∀ c ∈ l, scN c) → chars (encL l) 0 = (l, none) := by
  intro l
  induction l with
  | nil => intro _; exact chars_end (by simp [encL])
  | cons c l ih =>
    intro h
    have e : encL (c :: l) = encN c ++ encL l := by simp [encL]
    rw [e]
    have hd := dc_enc (h c (by simp)) (encL l)
    have hg : badB (dc (encN c ++ encL l) 0) = false := by rw [hd]; exact enc_good
    have hb := blen_le c
    have hs := chars_shift (encN c) (encL l) _ 0 (Nat.le_refl _)
    rw [ih (fun x hx => h x (by simp [hx])), encN_len] at hs
    rw [chars_step (by rw [List.length_append, encN_len]; omega) hg, hd]
    simp only [Nat.zero_add, Nat.add_zero] at hs ⊢
    rw [hs]
    rfl

theorem drop_take1 {bs : List Nat} {i : Nat} (h : i + 1 ≤ bs.length) : (bs.drop i).take 1 = [limb bs i] := by
  rw [limb_lt (by omega), List.drop_eq_getElem_cons (show i < bs.length by omega), List.take_succ_cons, List.take_zero]
theorem drop_takeS {bs : List Nat} {i n : Nat} (h : i + (n + 1) ≤ bs.length) : (bs.drop i).take (n + 1) = limb bs i :: (bs.drop (i + 1)).take n := by
  rw [limb_lt (by omega), List.drop_eq_getElem_cons (show i < bs.length by omega), List.take_succ_cons]
theorem enc_dc {bs : List Nat} (hby : By bs) {i : Nat} (hi : i < bs.length) (hg : badB (dc bs i) = false) : encN (dc bs i).1 = (bs.drop i).take (dc bs i).2 ∧ scN (dc bs i).1 := by
  have hin := dc_in hi
  have q0 := hby i
  have q1 := hby (i + 1)
  have q2 := hby (i + 2)
  have q3 := hby (i + 3)
  have ha1 : i + 1 + 1 = i + 2 := by omega
  have ha2 : i + 2 + 1 = i + 3 := by omega
  have hg' := hg
  rw [badB_false] at hg'
  unfold dc Lib.decodeN at hin hg' ⊢
  by_cases a0 : limb bs i < 128
  · rw [if_pos a0] at hin ⊢
    simp only [] at hin ⊢
    rw [drop_take1 hin]
    exact ⟨by unfold encN; rw [if_pos a0], by unfold scN; omega⟩
  rw [if_neg a0] at hin hg' ⊢
  by_cases a1 : limb bs i / 32 = 6 ∧ (1 < bs.length - i ∧ limb bs (i + 1) / 64 = 2)
  · rw [if_pos a1] at hin hg' ⊢
    by_cases hc : limb bs i % 32 * 64 + limb bs (i + 1) % 64 ≥ 128
    · rw [if_pos hc] at hin ⊢
      simp only [] at hin ⊢
      rw [drop_takeS (n := 1) hin, drop_take1 (by omega)]
      refine ⟨?_, by unfold scN; omega⟩
      unfold encN
      rw [if_neg (by omega), if_pos (by omega)]
      simp only [List.cons.injEq, and_true]
      omega
    · rw [if_neg hc] at hg'; exact absurd ⟨rfl, by decide⟩ hg'
  rw [if_neg a1] at hin hg' ⊢
  by_cases a2 : limb bs i / 16 = 14 ∧ (1 < bs.length - i ∧ limb bs (i + 1) / 64 = 2) ∧ (2 < bs.length - i ∧ limb bs (i + 2) / 64 = 2)
  · rw [if_pos a2] at hin hg' ⊢
    generalize hC : limb bs i % 16 * 4096 + limb bs (i + 1) % 64 * 64 + limb bs (i + 2) % 64 = C at *
    by_cases hc : C ≥ 2048 ∧ (C < 55296 ∨ (57344 ≤ C ∧ C ≤ 1114111))
    · rw [if_pos hc] at hin ⊢
      simp only [] at hin ⊢
      rw [drop_takeS (n := 2) hin, drop_takeS (n := 1) (by omega), drop_take1 (by omega), ha1]
      refine ⟨?_, by unfold scN; omega⟩
      unfold encN
      rw [if_neg (by omega), if_neg (by omega), if_pos (by omega)]
      simp only [List.cons.injEq, and_true]
      omega
    · rw [if_neg hc] at hg'; exact absurd ⟨rfl, by decide⟩ hg'
  rw [if_neg a2] at hin hg' ⊢
  by_cases a3 : limb bs i / 8 = 30 ∧ (1 < bs.length - i ∧ limb bs (i + 1) / 64 = 2) ∧ (2 < bs.length - i ∧ limb bs (i + 2) / 64 = 2) ∧ (3 < bs.length - i ∧ limb bs (i + 3) / 64 = 2)
  · rw [if_pos a3] at hin hg' ⊢
    generalize hC : limb bs i % 8 * 262144 + limb bs (i + 1) % 64 * 4096 + limb bs (i + 2) % 64 * 64 + limb bs (i + 3) % 64 = C at *
    by_cases hc : C ≥ 65536 ∧ (C < 55296 ∨ (57344 ≤ C ∧ C ≤ 1114111))
    · rw [if_pos hc] at hin ⊢
      simp only [] at hin ⊢
      rw [drop_takeS (n := 3) hin, drop_takeS (n := 2) (by omega), drop_takeS (n := 1) (by omega), drop_take1 (by omega), ha1, ha2]
      refine ⟨?_, by unfold scN; omega⟩
      unfold encN
      rw [if_neg (by omega), if_neg (by omega), if_neg (by omega)]
      simp only [List.cons.injEq, and_true]
      omega
    · rw [if_neg hc] at hg'; exact absurd ⟨rfl, by decide⟩ hg'
  · rw [if_neg a3] at hg'; exact absurd ⟨rfl, by decide⟩ hg'
/-- Bytes that are characters are these characters' bytes. -/
theorem enc_chars {bs : List Nat} (hby : By bs) : ∀ (m i : Nat) (cs : List Nat), bs.length - i ≤ m → i ≤ bs.length → chars bs i = (cs, none) → encL cs = bs.drop i ∧ ∀ c ∈ cs, scN c := by
  intro m
  induction m with
  | zero =>
    intro i cs hm hi h
    rw [chars_end (by omega)] at h
    simp only [Prod.mk.injEq, and_true] at h
    subst h
    exact ⟨by rw [List.drop_of_length_le (by omega)]; rfl, fun c hc => by cases hc⟩
  | succ m ih =>
    intro i cs hm hi h
    by_cases hlt : i < bs.length
    · cases hb : badB (dc bs i)
      · have hz := dc_size bs i
        have hin := dc_in hlt
        rw [chars_step hlt hb] at h
        simp only [Prod.mk.injEq] at h
        obtain ⟨h1, h2⟩ := h
        obtain ⟨g1, g2⟩ := ih (i + (dc bs i).2) (chars bs (i + (dc bs i).2)).1 (by omega) hin (by rw [← h2])
        obtain ⟨e1, e2⟩ := enc_dc hby hlt hb
        rw [← h1]
        refine ⟨?_, fun c hc => ?_⟩
        · have : encL ((dc bs i).1 :: (chars bs (i + (dc bs i).2)).1) = encN (dc bs i).1 ++ encL (chars bs (i + (dc bs i).2)).1 := by simp [encL]
          rw [this, g1, e1, ← List.drop_drop]
          exact List.take_append_drop _ _
        · rcases List.mem_cons.1 hc with rfl | hc
          · exact e2
          · exact g2 c hc
      · rw [chars_bad hlt hb] at h
        simp at h
    · rw [chars_end (by omega)] at h
      simp only [Prod.mk.injEq, and_true] at h
      subst h
      exact ⟨by rw [List.drop_of_length_le (by omega)]; rfl, fun c hc => by cases hc⟩
theorem encA_nat {cs : List Nat} (h : ∀ c ∈ cs, scN c) : encA (cs.map fun (x : Nat) => (x : Int)) = (encL cs, 0) := by
  unfold encA
  rw [if_pos]
  · rw [List.map_map]
    congr 2
    conv => rhs; rw [← List.map_id cs]
    apply List.map_congr_left
    intro x _
    simp
  · rw [List.all_eq_true]
    intro z hz
    obtain ⟨x, hx, rfl⟩ := List.mem_map.1 hz
    rw [scB_nat]
    exact decide_eq_true (h x hx)
theorem encA_zero {zs : List Int} (h : (encA zs).2 = 0) : (encA zs).1 = encL (zs.map Int.toNat) ∧ (∀ z ∈ zs, 0 ≤ z) ∧ ∀ c ∈ zs.map Int.toNat, scN c := by
  unfold encA at h ⊢
  by_cases ha : zs.all scB = true
  · rw [if_pos ha]
    rw [List.all_eq_true] at ha
    refine ⟨rfl, fun z hz => (scB_range (ha z hz)).1, fun c hc => ?_⟩
    obtain ⟨z, hz, rfl⟩ := List.mem_map.1 hc
    have h1 := ha z hz
    have h2 := scB_range h1
    have h3 := scB_nat z.toNat
    rw [show ((z.toNat : Nat) : Int) = z by omega, h1] at h3
    exact of_decide_eq_true h3.symm
  · rw [if_neg ha] at h; simp at h
theorem encL_len (l : List Nat) : (encL l).length ≤ 4 * l.length := by
  induction l with
  | nil => simp [encL]
  | cons c l ih =>
    have e : encL (c :: l) = encN c ++ encL l := by simp [encL]
    rw [e, List.length_append, encN_len]
    have := blen_le c
    simp only [List.length_cons]
    omega
theorem encL_by {l : List Nat} (h : ∀ c ∈ l, scN c) : By (encL l) := by
  induction l with
  | nil => exact By.nil
  | cons c l ih =>
    have e : encL (c :: l) = encN c ++ encL l := by simp [encL]
    rw [e]
    have := h c (by simp)
    unfold scN at this
    exact (encN_by (by omega)).app (ih fun x hx => h x (by simp [hx]))
end Go.Proofs.YtkocmjmmflphnaaGreatDoor
