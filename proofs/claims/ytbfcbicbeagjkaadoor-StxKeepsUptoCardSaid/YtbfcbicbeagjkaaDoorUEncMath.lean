/- Bytes of characters, and slices of any ints. No walk here. | There and back. No walk here. | Names of characters: words, hexadecimal digits, and the characters themselves. No walk here. -/
import Derived.Test.YtbfcbicbeagjkaaDoorApp
import Derived.Shelf.Strings.Cut
import Derived.Lib.Case
import Derived.Lib.MapU
namespace Go.Proofs.YtbfcbicbeagjkaaDoor
open Go.RowKit

/-- The slice value v reads as these cells. -/
def SlV (w : World) (v : Value) (us : List Value) : Prop :=
  us.length ≤ maxLen ∧ ∃ ao cap, v = .slice ao us.length cap ∧ us.length ≤ cap ∧ ((us = [] ∧ (ao = none → cap = 0)) ∨ ∃ b off, ao = some ⟨b, off, none⟩ ∧ b < w.heap.size ∧ ∀ j u, us[j]? = some u → w.cell? ⟨b, off + j, none⟩ = some u)
theorem SlV.below {w w' : World} {v : Value} {us : List Value} (h : SlV w v us) (hb : Below w.heap.size w w') : SlV w' v us := by
  obtain ⟨hm, ao, cap, hv, hc, h⟩ := h
  refine ⟨hm, ao, cap, hv, hc, ?_⟩
  rcases h with h | ⟨b, off, ha, hlt, hcell⟩
  · exact .inl h
  · refine .inr ⟨b, off, ha, Nat.lt_of_lt_of_le hlt hb.size, fun j u hu => ?_⟩
    rw [hb.cell (p := ⟨b, off + j, none⟩) hlt]
    exact hcell j u hu
/-- Ints as cells. -/
def intCells (zs : List Int) : List Value := zs.map fun z => Value.int .i64 z
theorem intCells_len (zs : List Int) : (intCells zs).length = zs.length := by simp [intCells]
theorem intCells_at {zs : List Int} {j : Nat} (h : j < zs.length) : (intCells zs)[j]? = some (.int .i64 (zs.getD j 0)) := by
  simp [intCells, h]
/-- Ints that are all numbers from 0 on. -/
theorem slv_nat {w : World} {v : Value} {xs : List Nat} (h : Sl .i64 w v xs) : SlV w v (intCells (xs.map fun (x : Nat) => (x : Int))) := by
  have hl : (intCells (xs.map fun (x : Nat) => (x : Int))).length = xs.length := by simp [intCells]
  obtain ⟨hm, ao, cap, hv, hc, hh⟩ := h
  refine ⟨by omega, ao, cap, by rw [hl]; exact hv, by omega, ?_⟩
  rcases hh with ⟨rfl, h2⟩ | ⟨b, off, h1, h2, h3⟩
  · exact .inl ⟨rfl, h2⟩
  · refine .inr ⟨b, off, h1, h2, fun j u hu => ?_⟩
    have hj : j < xs.length := by rw [← hl]; exact (List.getElem?_eq_some_iff.1 hu).1
    rw [h3 j hj, limb_lt hj]
    simpa [intCells, hj] using hu
/-- The bytes of characters. -/
def encL (l : List Nat) : List Nat := l.flatMap encN
theorem encL_snoc (l : List Nat) (c : Nat) : encL (l ++ [c]) = encL l ++ encN c := by simp [encL]
theorem blen_le (c : Nat) : 1 ≤ blen c ∧ blen c ≤ 4 := by
  unfold blen
  repeat' split
  all_goals omega
theorem encN_by {c : Nat} (h : c ≤ 1114111) : By (encN c) := by
  have key : ∀ l : List Nat, (∀ x ∈ l, x < 256) → By l := by
    intro l hl i
    by_cases hi : i < l.length
    · rw [limb_lt hi]; exact hl _ (List.getElem_mem hi)
    · rw [limb_out (by omega)]; omega
  refine key _ fun x hx => ?_
  unfold encN at hx
  split at hx
  · simp at hx; omega
  · split at hx
    · simp at hx; omega
    · split at hx
      · simp at hx; omega
      · simp at hx; omega
theorem By.nil : By [] := fun i => by rw [limb_out (by simp)]; omega
/-- What Encode answers. -/
def encA (zs : List Int) : List Nat × Nat := if zs.all scB then (encL (zs.map Int.toNat), 0) else ([], 1)
theorem scB_range {z : Int} (h : scB z = true) : 0 ≤ z ∧ z ≤ 1114111 := by
  unfold scB at h
  simp only [decide_eq_true_iff] at h
  omega
/-- What a loop over ints holds. -/
structure EncS (zs : List Int) (bs : List Nat) (k : Nat) : Prop where
  le : k ≤ zs.length
  all : ∀ j, j < k → scB (zs.getD j 0) = true
  eq : bs = encL ((zs.take k).map Int.toNat)
  len : bs.length ≤ 4 * k
  by' : By bs
theorem EncS.start (zs : List Int) : EncS zs [] 0 := ⟨by omega, fun j hj => by omega, by simp [encL], by simp, By.nil⟩
theorem EncS.step {zs : List Int} {bs : List Nat} {k : Nat} (h : EncS zs bs k) (hk : k < zs.length) (hs : scB (zs.getD k 0) = true) : EncS zs (bs ++ encN (zs.getD k 0).toNat) (k + 1) := by
  have hr := scB_range hs
  have hb := blen_le (zs.getD k 0).toNat
  refine ⟨hk, fun j hj => ?_, ?_, ?_, h.by'.app (encN_by (by omega))⟩
  · by_cases e : j = k
    · subst e; exact hs
    · exact h.all j (by omega)
  · have e : zs.take (k + 1) = zs.take k ++ [zs.getD k 0] := by rw [List.take_succ_eq_append_getElem hk]; simp [hk]
    rw [e, List.map_append, List.map_singleton, encL_snoc, h.eq]
  · rw [List.length_append, encN_len]; have := h.len; omega
theorem EncS.bad {zs : List Int} {k : Nat} (hk : k < zs.length) (hs : scB (zs.getD k 0) = false) : encA zs = ([], 1) := by
  unfold encA
  rw [if_neg]
  intro h
  rw [List.all_eq_true] at h
  have := h zs[k] (List.getElem_mem hk)
  have e : zs.getD k 0 = zs[k] := by simp [hk]
  rw [e, this] at hs
  cases hs
theorem EncS.done {zs : List Int} {bs : List Nat} (h : EncS zs bs zs.length) : encA zs = (bs, 0) := by
  unfold encA
  rw [if_pos]
  · rw [h.eq, List.take_length]
  · rw [List.all_eq_true]
    intro z hz
    obtain ⟨i, hi, rfl⟩ := List.getElem_of_mem hz
    have := h.all i hi
    simpa [hi] using this
end Go.Proofs.YtbfcbicbeagjkaaDoor
namespace Go.Proofs.YtbfcbicbeagjkaaDoor
open Go.RowKit

theorem limb_cons0 (a : Nat) (l : List Nat) : limb (a :: l) 0 = a := rfl
theorem limb_cons1 (a b : Nat) (l : List Nat) : limb (a :: b :: l) 1 = b := rfl
theorem limb_cons2 (a b c : Nat) (l : List Nat) : limb (a :: b :: c :: l) 2 = c := rfl
theorem limb_cons3 (a b c d : Nat) (l : List Nat) : limb (a :: b :: c :: d :: l) 3 = d := rfl
/-- A character's bytes are it. -/
theorem dc_enc {c : Nat} (h : scN c) (bs : List Nat) : dc (encN c ++ bs) 0 = (c, blen c) := by
  unfold scN at h
  by_cases h1 : c < 128
  · have e : encN c = [c] := by unfold encN; rw [if_pos h1]
    have e2 : blen c = 1 := by unfold blen; rw [if_pos h1]
    rw [e, e2]
    exact dc_one (bs := c :: bs) (i := 0) h1
  by_cases h2 : c < 2048
  · have e : encN c = [192 + c / 64, 128 + c % 64] := by unfold encN; rw [if_neg h1, if_pos h2]
    have e2 : blen c = 2 := by unfold blen; rw [if_neg h1, if_pos h2]
    rw [e, e2]
    have := dc_two (bs := [192 + c / 64, 128 + c % 64] ++ bs) (i := 0) (by simp only [List.cons_append, limb_cons0]; omega) (by simp) (by simp only [List.cons_append, Nat.zero_add, limb_cons1]; omega)
    rw [this]
    simp only [List.cons_append, limb_cons0, Nat.zero_add, limb_cons1]
    have e3 : (192 + c / 64 - 192) * 64 + (128 + c % 64 - 128) = c := by omega
    rw [e3, if_pos (by omega)]
  by_cases h3 : c < 65536
  · have e : encN c = [224 + c / 4096, 128 + c / 64 % 64, 128 + c % 64] := by unfold encN; rw [if_neg h1, if_neg h2, if_pos h3]
    have e2 : blen c = 3 := by unfold blen; rw [if_neg h1, if_neg h2, if_pos h3]
    rw [e, e2]
    have := dc_three (bs := [224 + c / 4096, 128 + c / 64 % 64, 128 + c % 64] ++ bs) (i := 0) (by simp only [List.cons_append, limb_cons0]; omega) (by simp) (by simp only [List.cons_append, Nat.zero_add, limb_cons1]; omega) (by simp only [List.cons_append, Nat.zero_add, limb_cons2]; omega) c (by simp only [List.cons_append, limb_cons0, Nat.zero_add, limb_cons1, limb_cons2]; omega)
    rw [this, if_pos ⟨by omega, h⟩]
  · have e : encN c = [240 + c / 262144, 128 + c / 4096 % 64, 128 + c / 64 % 64, 128 + c % 64] := by unfold encN; rw [if_neg h1, if_neg h2, if_neg h3]
    have e2 : blen c = 4 := by unfold blen; rw [if_neg h1, if_neg h2, if_neg h3]
    rw [e, e2]
    have := dc_four (bs := [240 + c / 262144, 128 + c / 4096 % 64, 128 + c / 64 % 64, 128 + c % 64] ++ bs) (i := 0) (by simp only [List.cons_append, limb_cons0]; omega) (by simp) (by simp only [List.cons_append, Nat.zero_add, limb_cons1]; omega) (by simp only [List.cons_append, Nat.zero_add, limb_cons2]; omega) (by simp only [List.cons_append, Nat.zero_add, limb_cons3]; omega) c (by simp only [List.cons_append, limb_cons0, Nat.zero_add, limb_cons1, limb_cons2, limb_cons3]; omega)
    rw [this, if_pos ⟨by omega, h⟩]
theorem enc_good {c : Nat} : badB (c, blen c) = false := by
  rw [badB_false]
  unfold blen
  repeat' split
  all_goals (simp only []; omega)
/-- Characters' bytes are these characters. -/
theorem chars_enc : ∀ l : List Nat, (∀ c ∈ l, scN c) → chars (encL l) 0 = (l, none) := by
  intro l
  induction l with
  | nil => intro _; exact chars_end (by simp [encL])
  | cons c l ih =>
    intro h
    have e : encL (c :: l) = encN c ++ encL l := by simp [encL]
    rw [e]
    have hd := dc_enc (h c (by simp)) (encL l)
    have hg : badB (dc (encN c ++ encL l) 0) = false := by rw [hd]; exact enc_good
    have hb := blen_le c
    have hs := chars_shift (encN c) (encL l) _ 0 (Nat.le_refl _)
    rw [ih (fun x hx => h x (by simp [hx])), encN_len] at hs
    rw [chars_step (by rw [List.length_append, encN_len]; omega) hg, hd]
    simp only [Nat.zero_add, Nat.add_zero] at hs ⊢
    rw [hs]
    rfl

end Go.Proofs.YtbfcbicbeagjkaaDoor
namespace Go.Proofs.YtbfcbicbeagjkaaDoor
open Go.RowKit

/-- A string's bytes. -/
def byt (s : ByteArray) : List Nat := s.data.toList.map UInt8.toNat
theorem byt_len (s : ByteArray) : (byt s).length = s.size := by unfold byt; rw [List.length_map, Array.length_toList]; rfl
theorem byt_by (s : ByteArray) : By (byt s) := fun i => by
  unfold limb byt
  simp only [List.getD_eq_getElem?_getD, List.getElem?_map]
  cases s.data.toList[i]? with
  | none => show (0 : Nat) < 256; omega
  | some b => show b.toNat < 256; exact b.toNat_lt
theorem byt_mkB (s : ByteArray) : mkB (byt s) = s := by
  unfold mkB byt
  cases s with
  | mk d => simp [Function.comp_def]
theorem byt_limb {s : ByteArray} {i : Nat} (h : i < s.size) : limb (byt s) i = (s.data[i]'h).toNat := by
  have h' : i < s.data.size := h
  unfold limb byt
  simp only [List.getD_eq_getElem?_getD, List.getElem?_map, Array.getElem?_toList, Array.getElem?_eq_getElem h']
  rfl
theorem byt_get {s : ByteArray} {i : Nat} (_h : i < s.size) : (s.get! i).toNat = limb (byt s) i := by
  rw [← mkB_get (byt_by s) i, byt_mkB]

end Go.Proofs.YtbfcbicbeagjkaaDoor
