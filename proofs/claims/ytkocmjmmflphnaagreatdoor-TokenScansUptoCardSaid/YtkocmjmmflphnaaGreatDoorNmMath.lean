/- Names of characters: words, hexadecimal digits, and the characters themselves. No walk here. -/
import Derived.Test.YtkocmjmmflphnaaGreatDoorUBackMath
import Derived.Shelf.Strings.Cut
import Derived.Lib.Case
import Derived.Lib.MapU
namespace Go.Proofs.YtkocmjmmflphnaaGreatDoor
open Go.RowKit

/-- A string's bytes. -/
def byt (s : ByteArray) : List Nat := s.data.toList.map UInt8.toNat
theorem byt_len (s : ByteArray) : (byt s).length = s.size := by unfold byt; rw [List.length_map, Array.length_toList]; rfl
theorem byt_by (s : ByteArray) : By (byt s) := fun i => by
  unfold limb byt
  simp only [List.getD_eq_getElem?_getD, List.getElem?_map]
  cases s.data.toList[i]? with
  | none => show (0 : Nat) < 256; omega
  | some b => show b.toNat < 256; exact b.toNat_lt
theorem byt_mkB (s : ByteArray) : mkB (byt s) = s := by
  unfold mkB byt
  cases s with
  | mk d => simp [Function.comp_def]
theorem byt_inj {s t : ByteArray} (h : byt s = byt t) : s = t := by rw [← byt_mkB s, ← byt_mkB t, h]
theorem byt_limb {s : ByteArray} {i : Nat} (h : i < s.size) : limb (byt s) i = (s.data[i]'h).toNat := by
  have h' : i < s.data.size := h
  unfold limb byt
  simp only [List.getD_eq_getElem?_getD, List.getElem?_map, Array.getElem?_toList, Array.getElem?_eq_getElem h']
  rfl
theorem byt_get {s : ByteArray} {i : Nat} (_h : i < s.size) : (s.get! i).toNat = limb (byt s) i := by
  rw [← mkB_get (byt_by s) i, byt_mkB]

def hexS : List UInt8 := [48, 49, 50, 51, 52, 53, 54, 55, 56, 57, 97, 98, 99, 100, 101, 102]
/-- A hexadecimal digit's value. -/
def hexd (b : Nat) : Option Nat := if 48 ≤ b ∧ b ≤ 57 then some (b - 48) else if 97 ≤ b ∧ b ≤ 102 then some (b - 87) else if 65 ≤ b ∧ b ≤ 70 then some (b - 55) else none
def cutLen (l : List UInt8) : Option Nat := if (Go.Lib.cut hexS l).2.2 then some (Go.Lib.cut hexS l).1.length else none
theorem cut_low : ∀ n : Fin 128, cutLen (Go.Lib.toLowerA [UInt8.ofNat n.val]) = hexd n.val := by decide +kernel
theorem cut_high : ∀ n : Fin 256, 128 ≤ n.val → (Go.Lib.cut hexS (Go.Lib.toLowerD [UInt8.ofNat n.val])).2.2 = false := by decide +kernel
theorem hexd_lt {b d : Nat} (h : hexd b = some d) : d < 16 := by
  unfold hexd at h
  (repeat' split at h) <;> first | (injection h with h; omega) | cases h
theorem hexd_high {b : Nat} (h : 128 ≤ b) : hexd b = none := by
  unfold hexd
  rw [if_neg (by omega), if_neg (by omega), if_neg (by omega)]

/-- The number of hexadecimal digits behind c. -/
def hexV : List Nat → Nat → Option Nat
  | [], c => some c
  | b :: t, c => match hexd b with
    | none => none
    | some d => hexV t (c * 16 + d)
/-- The character whose number these digits are. -/
def hexA (ds : List Nat) : Option Nat := if ds.length < 1 ∨ 6 < ds.length then none else match hexV ds 0 with
  | none => none
  | some c => if scB (c : Int) then some c else none
theorem hexV_step {ds : List Nat} {i c d : Nat} (hi : i < ds.length) (h : hexd (limb ds i) = some d) : hexV (ds.drop i) c = hexV (ds.drop (i + 1)) (c * 16 + d) := by
  have e : ds.drop i = limb ds i :: ds.drop (i + 1) := by rw [List.drop_eq_getElem_cons hi, limb_lt hi]
  rw [e]
  show (match hexd (limb ds i) with | none => none | some d => hexV (ds.drop (i + 1)) (c * 16 + d)) = _
  rw [h]
theorem hexV_none {ds : List Nat} {i c : Nat} (hi : i < ds.length) (h : hexd (limb ds i) = none) : hexV (ds.drop i) c = none := by
  have e : ds.drop i = limb ds i :: ds.drop (i + 1) := by rw [List.drop_eq_getElem_cons hi, limb_lt hi]
  rw [e]
  show (match hexd (limb ds i) with | none => none | some d => hexV (ds.drop (i + 1)) (c * 16 + d)) = _
  rw [h]
theorem hexV_end {ds : List Nat} {i c : Nat} (hi : ds.length ≤ i) : hexV (ds.drop i) c = some c := by rw [List.drop_eq_nil_of_le hi]; rfl
theorem hexA_out {ds : List Nat} (h : ds.length < 1 ∨ 6 < ds.length) : hexA ds = none := by unfold hexA; rw [if_pos h]
theorem hexA_none {ds : List Nat} (h : hexV ds 0 = none) : hexA ds = none := by
  unfold hexA
  split
  · rfl
  · rw [h]
theorem hexA_some {ds : List Nat} {c : Nat} (h1 : ¬ (ds.length < 1 ∨ 6 < ds.length)) (h : hexV ds 0 = some c) : hexA ds = if scB (c : Int) then some c else none := by
  unfold hexA
  rw [if_neg h1, h]

/-- The words that are names. -/
def wtab : List (List Nat × Nat) := [([115, 112, 97, 99, 101], 32), ([110, 101, 119, 108, 105, 110, 101], 10), ([116, 97, 98], 9), ([114, 101, 116, 117, 114, 110], 13), ([110, 117, 108, 108], 0), ([100, 101, 108, 101, 116, 101], 127)]
def wName (k : Nat) : List Nat := (wtab.getD k ([], 0)).1
def wChar (k : Nat) : Nat := (wtab.getD k ([], 0)).2
/-- The character that a word is the name of. -/
def wordA (bs : List Nat) : Option Nat := (wtab.find? fun p => p.1 == bs).map (·.2)
theorem wordA_hit {bs : List Nat} {k : Nat} (hk : k < 6) (h : wName k = bs) (hno : ∀ j, j < k → wName j ≠ bs) : wordA bs = some (wChar k) := by
  subst h
  have : k = 0 ∨ k = 1 ∨ k = 2 ∨ k = 3 ∨ k = 4 ∨ k = 5 := by omega
  rcases this with rfl | rfl | rfl | rfl | rfl | rfl <;> decide
theorem wordA_none {bs : List Nat} (h : ∀ j, j < 6 → wName j ≠ bs) : wordA bs = none := by
  have h0 := h 0 (by omega)
  have h1 := h 1 (by omega)
  have h2 := h 2 (by omega)
  have h3 := h 3 (by omega)
  have h4 := h 4 (by omega)
  have h5 := h 5 (by omega)
  simp only [wName, wtab, List.getD_cons_zero, List.getD_cons_succ] at h0 h1 h2 h3 h4 h5
  unfold wordA wtab
  simp only [List.find?_cons, beq_eq_false_iff_ne.2 h0, beq_eq_false_iff_ne.2 h1, beq_eq_false_iff_ne.2 h2, beq_eq_false_iff_ne.2 h3, beq_eq_false_iff_ne.2 h4, beq_eq_false_iff_ne.2 h5, List.find?_nil, Option.map_none]
/-- The character that a text is the name of. -/
def namedA (bs : List Nat) : Option Nat := match wordA bs with
  | some c => some c
  | none => if bs ≠ [] ∧ badB (dc bs 0) = false ∧ (dc bs 0).2 = bs.length then some (dc bs 0).1 else if bs ≠ [] ∧ limb bs 0 = 120 then hexA (bs.drop 1) else none
theorem namedA_word {bs : List Nat} {c : Nat} (h : wordA bs = some c) : namedA bs = some c := by unfold namedA; rw [h]
theorem namedA_one {bs : List Nat} (h : wordA bs = none) (h1 : bs ≠ []) (h2 : badB (dc bs 0) = false) (h3 : (dc bs 0).2 = bs.length) : namedA bs = some (dc bs 0).1 := by
  unfold namedA
  rw [h]
  show (if _ then _ else _) = _
  rw [if_pos ⟨h1, h2, h3⟩]
theorem namedA_hex {bs : List Nat} (h : wordA bs = none) (h1 : ¬ (bs ≠ [] ∧ badB (dc bs 0) = false ∧ (dc bs 0).2 = bs.length)) (h2 : bs ≠ []) (h3 : limb bs 0 = 120) : namedA bs = hexA (bs.drop 1) := by
  unfold namedA
  rw [h]
  show (if _ then _ else if _ then _ else _) = _
  rw [if_neg h1, if_pos ⟨h2, h3⟩]
theorem namedA_not {bs : List Nat} (h : wordA bs = none) (h1 : ¬ (bs ≠ [] ∧ badB (dc bs 0) = false ∧ (dc bs 0).2 = bs.length)) (h2 : ¬ (bs ≠ [] ∧ limb bs 0 = 120)) : namedA bs = none := by
  unfold namedA
  rw [h]
  show (if _ then _ else if _ then _ else _) = _
  rw [if_neg h1, if_neg h2]

def hexc (d : Nat) : Nat := if d < 10 then 48 + d else 87 + d
/-- What a character is called. -/
def nameA (c : Nat) : List Nat := if c = 32 then wName 0 else if c = 10 then wName 1 else if c = 9 then wName 2 else if c = 13 then wName 3 else if c = 0 then wName 4 else if c = 127 then wName 5 else if c < 16 then [120, hexc c] else if c < 32 then [120, hexc (c / 16), hexc (c % 16)] else encN c
theorem named_small : ∀ c : Fin 128, namedA (nameA c.val) = some c.val := by decide +kernel
theorem named_name {c : Nat} (h : scN c) : namedA (nameA c) = some c := by
  rcases Nat.lt_or_ge c 128 with hc | hc
  · exact named_small ⟨c, hc⟩
  · have e : nameA c = encN c := by
      unfold nameA
      rw [if_neg (by omega), if_neg (by omega), if_neg (by omega), if_neg (by omega), if_neg (by omega), if_neg (by omega), if_neg (by omega), if_neg (by omega)]
    have hd := dc_enc h []
    rw [List.append_nil] at hd
    have hl := encN_len c
    have hne : encN c ≠ [] := by
      intro h0
      rw [h0] at hl
      unfold blen at hl
      (repeat' split at hl) <;> simp at hl
    have h0 : 128 ≤ limb (encN c) 0 := by
      unfold encN
      rw [if_neg (by omega)]
      (repeat' split) <;> (show 128 ≤ _ + _; omega)
    rw [e]
    refine (namedA_one (wordA_none fun j hj hw => ?_) hne (by rw [hd]; exact enc_good) (by rw [hd, hl])).trans (by rw [hd])
    rw [← hw] at h0
    have : j = 0 ∨ j = 1 ∨ j = 2 ∨ j = 3 ∨ j = 4 ∨ j = 5 := by omega
    rcases this with rfl | rfl | rfl | rfl | rfl | rfl <;> revert h0 <;> decide
end Go.Proofs.YtkocmjmmflphnaaGreatDoor
