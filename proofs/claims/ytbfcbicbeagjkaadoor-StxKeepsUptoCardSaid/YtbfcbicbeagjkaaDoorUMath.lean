/- Characters of bytes. No walk here. | The reference's way to one character. No walk here. -/
import Derived.Test.YtbfcbicbeagjkaaDoorBase
import Derived.Test.YtbfcbicbeagjkaaDoorShelf
import Derived.Lib.DecodeN
namespace Go.Proofs.YtbfcbicbeagjkaaDoor
open Go.RowKit

/-- Bytes as they may be. -/
def By (bs : List Nat) : Prop := ∀ i, limb bs i < 256
/-- What stands at a place: the character, and how many bytes it has. -/
def dc (bs : List Nat) (i : Nat) : Nat × Nat := Lib.decodeN (bs.length - i) (limb bs i) (limb bs (i + 1)) (limb bs (i + 2)) (limb bs (i + 3))
/-- No character begins there. -/
def badB (p : Nat × Nat) : Bool := decide (p.1 = 65533 ∧ p.2 < 3)
theorem badB_false {p : Nat × Nat} : badB p = false ↔ ¬ (p.1 = 65533 ∧ p.2 < 3) := by unfold badB; simp only [decide_eq_false_iff_not]

theorem decodeN_size (n a b c d : Nat) : 1 ≤ (Lib.decodeN n a b c d).2 ∧ (Lib.decodeN n a b c d).2 ≤ 4 := by
  unfold Lib.decodeN
  repeat' split
  all_goals simp
theorem decodeN_char (n a b c d : Nat) : (Lib.decodeN n a b c d).1 ≤ 1114111 := by
  unfold Lib.decodeN
  repeat' split
  all_goals simp only []
  all_goals omega
theorem decodeN_in (n a b c d : Nat) (h : 0 < n) : (Lib.decodeN n a b c d).2 ≤ n := by
  unfold Lib.decodeN
  repeat' split
  all_goals simp only []
  all_goals omega
theorem dc_size (bs : List Nat) (i : Nat) : 1 ≤ (dc bs i).2 ∧ (dc bs i).2 ≤ 4 := decodeN_size _ _ _ _ _
theorem dc_char (bs : List Nat) (i : Nat) : (dc bs i).1 ≤ 1114111 := decodeN_char _ _ _ _ _
theorem dc_in {bs : List Nat} {i : Nat} (h : i < bs.length) : i + (dc bs i).2 ≤ bs.length := by
  have := decodeN_in (bs.length - i) (limb bs i) (limb bs (i + 1)) (limb bs (i + 2)) (limb bs (i + 3)) (by omega)
  unfold dc
  omega

/-- The characters from a place on; where none begins, if that is so anywhere. -/
def chars (bs : List Nat) (i : Nat) : List Nat × Option Nat :=
  if i < bs.length then
    if badB (dc bs i) then ([], some i)
    else ((dc bs i).1 :: (chars bs (i + (dc bs i).2)).1, (chars bs (i + (dc bs i).2)).2)
  else ([], none)
termination_by bs.length - i
decreasing_by all_goals (have := dc_size bs i; omega)

theorem chars_end {bs : List Nat} {i : Nat} (h : bs.length ≤ i) : chars bs i = ([], none) := by
  rw [chars, if_neg (by omega)]
theorem chars_bad {bs : List Nat} {i : Nat} (h : i < bs.length) (hb : badB (dc bs i) = true) : chars bs i = ([], some i) := by
  rw [chars, if_pos h, if_pos hb]
theorem chars_step {bs : List Nat} {i : Nat} (h : i < bs.length) (hb : badB (dc bs i) = false) : chars bs i = ((dc bs i).1 :: (chars bs (i + (dc bs i).2)).1, (chars bs (i + (dc bs i).2)).2) := by
  rw [chars, if_pos h, if_neg (by simp [hb])]

/-- What a loop over the characters holds at a place. -/
structure Chr (bs cs : List Nat) (i : Nat) : Prop where
  le : i ≤ bs.length
  len : cs.length ≤ i
  small : ∀ j, limb cs j ≤ 1114111
  one : (chars bs 0).1 = cs ++ (chars bs i).1
  two : (chars bs 0).2 = (chars bs i).2
theorem Chr.start (bs : List Nat) : Chr bs [] 0 := ⟨by omega, by simp, fun j => by rw [limb_out (by simp)]; omega, by simp, rfl⟩
theorem limb_snoc' {xs : List Nat} {x i : Nat} : limb (xs ++ [x]) i = if i < xs.length then limb xs i else if i = xs.length then x else 0 := by
  unfold limb
  simp only [List.getD_eq_getElem?_getD, List.getElem?_append]
  split
  · rfl
  · split
    · rename_i h1 h2; subst h2; simp
    · rename_i h1 h2
      rw [List.getElem?_eq_none (by simp; omega)]; rfl
theorem Chr.step {bs cs : List Nat} {i : Nat} (h : Chr bs cs i) (hi : i < bs.length) (hb : badB (dc bs i) = false) : Chr bs (cs ++ [(dc bs i).1]) (i + (dc bs i).2) := by
  have hz := dc_size bs i
  have hs := chars_step hi hb
  refine ⟨dc_in hi, by have := h.len; simp; omega, fun j => ?_, ?_, ?_⟩
  · rw [limb_snoc']; split
    · exact h.small j
    · split
      · exact dc_char bs i
      · omega
  · rw [h.one, hs]; simp
  · rw [h.two, hs]
theorem Chr.bad {bs cs : List Nat} {i : Nat} (h : Chr bs cs i) (hi : i < bs.length) (hb : badB (dc bs i) = true) : (chars bs 0).2 = some i := by
  rw [h.two, chars_bad hi hb]
theorem Chr.done {bs cs : List Nat} {i : Nat} (h : Chr bs cs i) (hi : bs.length ≤ i) : chars bs 0 = (cs, none) := by
  have h1 := h.one
  have h2 := h.two
  rw [chars_end hi] at h1 h2
  simp at h1 h2
  rw [← h1, ← h2]

/-- What Decode answers: the characters, a place, an error. -/
def decA (bs : List Nat) : List Nat × Nat × Nat :=
  if 65536 < bs.length then ([], 0, 6) else match chars bs 0 with
  | (cs, none) => (cs, 0, 0)
  | (_, some k) => ([], k, 4)
theorem decA_large {bs : List Nat} (h : 65536 < bs.length) : decA bs = ([], 0, 6) := by unfold decA; rw [if_pos h]
theorem decA_bad {bs : List Nat} (h : bs.length ≤ 65536) {k : Nat} (hk : (chars bs 0).2 = some k) : decA bs = ([], k, 4) := by
  unfold decA; rw [if_neg (by omega)]
  generalize chars bs 0 = p at *
  obtain ⟨a, b⟩ := p
  simp at hk
  subst hk
  rfl
theorem decA_ok {bs cs : List Nat} (h : bs.length ≤ 65536) (hk : chars bs 0 = (cs, none)) : decA bs = (cs, 0, 0) := by
  unfold decA; rw [if_neg (by omega), hk]

/-- Bytes as the shelf's contracts take them. -/
def mkB (l : List Nat) : ByteArray := ⟨(l.map fun x => x.toUInt8).toArray⟩
theorem mkB_size (l : List Nat) : (mkB l).size = l.length := by simp [mkB, ByteArray.size]
theorem mkB_get {l : List Nat} (h : By l) (j : Nat) : ((mkB l).get! j).toNat = limb l j := by
  have hb := h j
  unfold limb at hb ⊢
  simp only [List.getD_eq_getElem?_getD] at hb ⊢
  unfold mkB ByteArray.get!
  simp only [Array.getElem!_eq_getD, Array.getD_eq_getD_getElem?, List.getElem?_toArray, List.getElem?_map]
  cases e : l[j]? with
  | none => simp; rfl
  | some x =>
    rw [e] at hb
    simp at hb ⊢
    omega
theorem By.drop {l : List Nat} (h : By l) (i : Nat) : By (l.drop i) := fun j => by
  have := h (i + j)
  unfold limb at this ⊢
  simpa using this
theorem limb_drop (l : List Nat) (i j : Nat) : limb (l.drop i) j = limb l (i + j) := by unfold limb; simp
theorem mkB_dec {bs : List Nat} (h : By bs) {i : Nat} (hi : i < bs.length) : Lib.decodeGo (mkB (bs.drop i)) = dc bs i := by
  unfold Lib.decodeGo dc
  rw [if_neg (by rw [mkB_size]; simp; omega), Lib.decode_at, mkB_size]
  rw [mkB_get (h.drop i), mkB_get (h.drop i), mkB_get (h.drop i), mkB_get (h.drop i)]
  simp [limb_drop]
end Go.Proofs.YtbfcbicbeagjkaaDoor
namespace Go.Proofs.YtbfcbicbeagjkaaDoor
open Go.RowKit

/-- How many bytes a character has. -/
def blen (c : Nat) : Nat := if c < 128 then 1 else if c < 2048 then 2 else if c < 65536 then 3 else 4
/-- What the reference answers. -/
def oneA (bs : List Nat) (i : Nat) : Nat × Nat := if badB (dc bs i) then (0, 0) else dc bs i

/-- May it be a character? -/
def scN (c : Nat) : Prop := c < 55296 ∨ (57343 < c ∧ c ≤ 1114111)
instance (c : Nat) : Decidable (scN c) := by unfold scN; infer_instance
theorem dc_two {bs : List Nat} {i : Nat} (h0 : 192 ≤ limb bs i ∧ limb bs i < 224) (hl : i + 2 ≤ bs.length) (h1 : 128 ≤ limb bs (i + 1) ∧ limb bs (i + 1) < 192) :
    dc bs i = if 128 ≤ (limb bs i - 192) * 64 + (limb bs (i + 1) - 128) then ((limb bs i - 192) * 64 + (limb bs (i + 1) - 128), 2) else (65533, 1) := by
  unfold dc Lib.decodeN
  generalize limb bs i = b0 at *
  generalize limb bs (i + 1) = b1 at *
  have e0 : b0 % 32 = b0 - 192 := by omega
  have e1 : b1 % 64 = b1 - 128 := by omega
  rw [if_neg (by omega), if_pos (by omega), e0, e1]
theorem dc_three {bs : List Nat} {i : Nat} (h0 : 224 ≤ limb bs i ∧ limb bs i < 240) (hl : i + 3 ≤ bs.length) (h1 : 128 ≤ limb bs (i + 1) ∧ limb bs (i + 1) < 192) (h2 : 128 ≤ limb bs (i + 2) ∧ limb bs (i + 2) < 192) (c : Nat)
    (hc : c = (limb bs i - 224) * 4096 + (limb bs (i + 1) - 128) * 64 + (limb bs (i + 2) - 128)) :
    dc bs i = if 2048 ≤ c ∧ scN c then (c, 3) else (65533, 1) := by
  unfold dc Lib.decodeN
  generalize limb bs i = b0 at *
  generalize limb bs (i + 1) = b1 at *
  generalize limb bs (i + 2) = b2 at *
  have e : b0 % 16 * 4096 + b1 % 64 * 64 + b2 % 64 = c := by omega
  rw [if_neg (by omega), if_neg (by omega), if_pos (by omega), e]
  unfold scN
  by_cases h : 2048 ≤ c ∧ (c < 55296 ∨ (57343 < c ∧ c ≤ 1114111))
  · rw [if_pos (by omega), if_pos h]
  · rw [if_neg (by omega), if_neg h]
theorem dc_four {bs : List Nat} {i : Nat} (h0 : 240 ≤ limb bs i ∧ limb bs i < 248) (hl : i + 4 ≤ bs.length) (h1 : 128 ≤ limb bs (i + 1) ∧ limb bs (i + 1) < 192) (h2 : 128 ≤ limb bs (i + 2) ∧ limb bs (i + 2) < 192) (h3 : 128 ≤ limb bs (i + 3) ∧ limb bs (i + 3) < 192) (c : Nat)
    (hc : c = (limb bs i - 240) * 262144 + (limb bs (i + 1) - 128) * 4096 + (limb bs (i + 2) - 128) * 64 + (limb bs (i + 3) - 128)) :
    dc bs i = if 65536 ≤ c ∧ scN c then (c, 4) else (65533, 1) := by
  unfold dc Lib.decodeN
  generalize limb bs i = b0 at *
  generalize limb bs (i + 1) = b1 at *
  generalize limb bs (i + 2) = b2 at *
  generalize limb bs (i + 3) = b3 at *
  have e : b0 % 8 * 262144 + b1 % 64 * 4096 + b2 % 64 * 64 + b3 % 64 = c := by omega
  rw [if_neg (by omega), if_neg (by omega), if_neg (by omega), if_pos (by omega), e]
  unfold scN
  by_cases h : 65536 ≤ c ∧ (c < 55296 ∨ (57343 < c ∧ c ≤ 1114111))
  · rw [if_pos (by omega), if_pos h]
  · rw [if_neg (by omega), if_neg h]
theorem dc_one {bs : List Nat} {i : Nat} (h0 : limb bs i < 128) : dc bs i = (limb bs i, 1) := by
  unfold dc Lib.decodeN
  rw [if_pos h0]

end Go.Proofs.YtbfcbicbeagjkaaDoor
