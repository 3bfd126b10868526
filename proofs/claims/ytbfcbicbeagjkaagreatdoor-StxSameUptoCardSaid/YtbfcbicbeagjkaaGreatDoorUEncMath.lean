/- x -/
import Derived.Test.YtbfcbicbeagjkaaGreatDoorBase
import Derived.Laws.AppendOwnNone
import Derived.Laws.BytesArg
import Derived.Test.YtbfcbicbeagjkaaGreatDoorUOne
import Derived.Shelf.Strings.Cut
import Derived.Lib.Case
import Derived.Lib.MapU
namespace Go.Proofs.YtbfcbicbeagjkaaGreatDoor
open Go.RowKit
def cellsOf (k : IntKind) (xs : List Nat) : List Value := xs.map fun (x : Nat) => Value.int k (x : Int)
theorem cellsOf_append (k : IntKind) (xs ys : List Nat) : cellsOf k (xs ++ ys) = cellsOf k xs ++ cellsOf k ys := by simp [cellsOf]
end Go.Proofs.YtbfcbicbeagjkaaGreatDoor
namespace Go.Proofs.YtbfcbicbeagjkaaGreatDoor
open Go.RowKit
end Go.Proofs.YtbfcbicbeagjkaaGreatDoor
namespace Go.Proofs.YtbfcbicbeagjkaaGreatDoor
open Go.RowKit
def SlV (w : World) (v : Value) (us : List Value) : Prop :=
 us.length ≤ maxLen ∧ ∃ ao cap, v = .slice ao us.length cap ∧ us.length ≤ cap ∧ ((us = [] ∧ (ao = none → cap = 0)) ∨ ∃ b off, ao = some ⟨b, off, none⟩ ∧ b < w.heap.size ∧ ∀ j u, us[j]? = some u → w.cell? ⟨b, off + j, none⟩ = some u)
def intCells (zs : List Int) : List Value := zs.map fun z => Value.int .i64 z
theorem intCells_len (zs : List Int) : (intCells zs).length = zs.length := by simp [intCells]
theorem intCells_at {zs : List Int} {j : Nat} (h : j < zs.length) : (intCells zs)[j]? = some (.int .i64 (zs.getD j 0)) := by
 simp [intCells, h]
theorem slv_nat {w : World} {v : Value} {xs : List Nat} (h : Sl .i64 w v xs) : SlV w v (intCells (xs.map fun (x : Nat) => (x : Int))) := by
 have hl : (intCells (xs.map fun (x : Nat) => (x : Int))).length = xs.length := by simp [intCells]
 obtain ⟨hm, ao, cap, hv, hc, hh⟩ := h
 refine ⟨by omega, ao, cap, by rw [hl]; exact hv, by omega, ?_⟩
 rcases hh with ⟨rfl, h2⟩ | ⟨b, off, h1, h2, h3⟩
 . exact .inl ⟨rfl, h2⟩
 . refine .inr ⟨b, off, h1, h2, fun j u hu => ?_⟩
   have hj : j < xs.length := by rw [← hl]; exact (List.getElem?_eq_some_iff.1 hu).1
   rw [h3 j hj, limb_lt hj]
   simpa [intCells, hj] using hu
def encL (l : List Nat) : List Nat := l.flatMap encN
theorem encL_snoc (l : List Nat) (c : Nat) : encL (l ++ [c]) = encL l ++ encN c := by simp [encL]
theorem blen_le (c : Nat) : 1 ≤ blen c ∧ blen c ≤ 4 := by
 unfold blen
 repeat' split
 all_goals omega
theorem encN_by {c : Nat} (h : c ≤ 1114111) : By (encN c) := by
 have key : ∀ l : List Nat, (∀ x ∈ l, x < 256) → By l := by
  intro l hl i
  by_cases hi : i < l.length
  . rw [limb_lt hi]; exact hl _ (List.getElem_mem hi)
  . rw [limb_out (by omega)]; omega
 refine key _ fun x hx => ?_
 unfold encN at hx
 split at hx
 . simp at hx; omega
 . split at hx
   . simp at hx; omega
   . split at hx
     . simp at hx; omega
     . simp at hx; omega
theorem By.nil : By [] := fun i => by rw [limb_out (by simp)]; omega
def encA (zs : List Int) : List Nat × Nat := if zs.all scB then (encL (zs.map Int.toNat), 0) else ([], 1)
theorem scB_range {z : Int} (h : scB z = true) : 0 ≤ z ∧ z ≤ 1114111 := by
 unfold scB at h
 simp only [decide_eq_true_iff] at h
 omega
structure EncS (zs : List Int) (bs : List Nat) (k : Nat) : Prop where
 le : k ≤ zs.length
 all : ∀ j, j < k → scB (zs.getD j 0) = true
 eq : bs = encL ((zs.take k).map Int.toNat)
 len : bs.length ≤ 4 * k
 by' : By bs
end Go.Proofs.YtbfcbicbeagjkaaGreatDoor
namespace Go.Proofs.YtbfcbicbeagjkaaGreatDoor
open Go.RowKit
theorem limb_cons0 (a : Nat) (l : List Nat) : limb (a :: l) 0 = a := rfl
theorem limb_cons1 (a b : Nat) (l : List Nat) : limb (a :: b :: l) 1 = b := rfl
theorem limb_cons2 (a b c : Nat) (l : List Nat) : limb (a :: b :: c :: l) 2 = c := rfl
theorem limb_cons3 (a b c d : Nat) (l : List Nat) : limb (a :: b :: c :: d :: l) 3 = d := rfl
theorem dc_enc {c : Nat} (h : scN c) (bs : List Nat) : dc (encN c ++ bs) 0 = (c, blen c) := by
 unfold scN at h
 by_cases h1 : c < 128
 . have e : encN c = [c] := by unfold encN; rw [if_pos h1]
   have e2 : blen c = 1 := by unfold blen; rw [if_pos h1]
   rw [e, e2]
   exact dc_one (bs := c :: bs) (i := 0) h1
 by_cases h2 : c < 2048
 . have e : encN c = [192 + c / 64, 128 + c % 64] := by unfold encN; rw [if_neg h1, if_pos h2]
   have e2 : blen c = 2 := by unfold blen; rw [if_neg h1, if_pos h2]
   rw [e, e2]
   have := dc_two (bs := [192 + c / 64, 128 + c % 64] ++ bs) (i := 0) (by simp only [List.cons_append, limb_cons0]; omega) (by simp) (by simp only [List.cons_append, Nat.zero_add, limb_cons1]; omega)
   rw [this]
   simp only [List.cons_append, limb_cons0, Nat.zero_add, limb_cons1]
   have e3 : (192 + c / 64 - 192) * 64 + (128 + c % 64 - 128) = c := by omega
   rw [e3, if_pos (by omega)]
 by_cases h3 : c < 65536
 . have e : encN c = [224 + c / 4096, 128 + c / 64 % 64, 128 + c % 64] := by unfold encN; rw [if_neg h1, if_neg h2, if_pos h3]
   have e2 : blen c = 3 := by unfold blen; rw [if_neg h1, if_neg h2, if_pos h3]
   rw [e, e2]
   have := dc_three (bs := [224 + c / 4096, 128 + c / 64 % 64, 128 + c % 64] ++ bs) (i := 0) (by simp only [List.cons_append, limb_cons0]; omega) (by simp) (by simp only [List.cons_append, Nat.zero_add, limb_cons1]; omega) (by simp only [List.cons_append, Nat.zero_add, limb_cons2]; omega) c (by simp only [List.cons_append, limb_cons0, Nat.zero_add, limb_cons1, limb_cons2]; omega)
   rw [this, if_pos ⟨by omega, h⟩]
 . have e : encN c = [240 + c / 262144, 128 + c / 4096 % 64, 128 + c / 64 % 64, 128 + c % 64] := by unfold encN; rw [if_neg h1, if_neg h2, if_neg h3]
   have e2 : blen c = 4 := by unfold blen; rw [if_neg h1, if_neg h2, if_neg h3]
   rw [e, e2]
   have := dc_four (bs := [240 + c / 262144, 128 + c / 4096 % 64, 128 + c / 64 % 64, 128 + c % 64] ++ bs) (i := 0) (by simp only [List.cons_append, limb_cons0]; omega) (by simp) (by simp only [List.cons_append, Nat.zero_add, limb_cons1]; omega) (by simp only [List.cons_append, Nat.zero_add, limb_cons2]; omega) (by simp only [List.cons_append, Nat.zero_add, limb_cons3]; omega) c (by simp only [List.cons_append, limb_cons0, Nat.zero_add, limb_cons1, limb_cons2, limb_cons3]; omega)
   rw [this, if_pos ⟨by omega, h⟩]
theorem enc_good {c : Nat} : badB (c, blen c) = false := by
 rw [badB_false]
 unfold blen
 repeat' split
 all_goals (simp only []; omega)
theorem chars_enc : ∀ l : List Nat, (∀ c ∈ l, scN c) → chars (encL l) 0 = (l, none) := by
 intro l
 induction l with
 | nil => intro _; exact chars_end (by simp [encL])
 | cons c l ih =>
  intro h
  have e : encL (c :: l) = encN c ++ encL l := by simp [encL]
  rw [e]
  have hd := dc_enc (h c (by simp)) (encL l)
  have hg : badB (dc (encN c ++ encL l) 0) = false := by rw [hd]; exact enc_good
  have hb := blen_le c
  have hs := chars_shift (encN c) (encL l) _ 0 (Nat.le_refl _)
  rw [ih (fun x hx => h x (by simp [hx])), encN_len] at hs
  rw [chars_step (by rw [List.length_append, encN_len]; omega) hg, hd]
  simp only [Nat.zero_add, Nat.add_zero] at hs ⊢
  rw [hs]
  rfl
theorem drop_take1 {bs : List Nat} {i : Nat} (h : i + 1 ≤ bs.length) : (bs.drop i).take 1 = [limb bs i] := by
 rw [limb_lt (by omega), List.drop_eq_getElem_cons (show i < bs.length by omega), List.take_succ_cons, List.take_zero]
theorem drop_takeS {bs : List Nat} {i n : Nat} (h : i + (n + 1) ≤ bs.length) : (bs.drop i).take (n + 1) = limb bs i :: (bs.drop (i + 1)).take n := by
 rw [limb_lt (by omega), List.drop_eq_getElem_cons (show i < bs.length by omega), List.take_succ_cons]
theorem enc_dc {bs : List Nat} (hby : By bs) {i : Nat} (hi : i < bs.length) (hg : badB (dc bs i) = false) : encN (dc bs i).1 = (bs.drop i).take (dc bs i).2 ∧ scN (dc bs i).1 := by
 have hin := dc_in hi
 have q0 := hby i
 have q1 := hby (i + 1)
 have q2 := hby (i + 2)
 have q3 := hby (i + 3)
 have ha1 : i + 1 + 1 = i + 2 := by omega
 have ha2 : i + 2 + 1 = i + 3 := by omega
 have hg' := hg
 rw [badB_false] at hg'
 unfold dc Lib.decodeN at hin hg' ⊢
 by_cases a0 : limb bs i < 128
 . rw [if_pos a0] at hin ⊢
   simp only [] at hin ⊢
   rw [drop_take1 hin]
   exact ⟨by unfold encN; rw [if_pos a0], by unfold scN; omega⟩
 rw [if_neg a0] at hin hg' ⊢
 by_cases a1 : limb bs i / 32 = 6 ∧ (1 < bs.length - i ∧ limb bs (i + 1) / 64 = 2)
 . rw [if_pos a1] at hin hg' ⊢
   by_cases hc : limb bs i % 32 * 64 + limb bs (i + 1) % 64 ≥ 128
   . rw [if_pos hc] at hin ⊢
     simp only [] at hin ⊢
     rw [drop_takeS (n := 1) hin, drop_take1 (by omega)]
     refine ⟨?_, by unfold scN; omega⟩
     unfold encN
     rw [if_neg (by omega), if_pos (by omega)]
     simp only [List.cons.injEq, and_true]
     omega
   . rw [if_neg hc] at hg'; exact absurd ⟨rfl, by decide⟩ hg'
 rw [if_neg a1] at hin hg' ⊢
 by_cases a2 : limb bs i / 16 = 14 ∧ (1 < bs.length - i ∧ limb bs (i + 1) / 64 = 2) ∧ (2 < bs.length - i ∧ limb bs (i + 2) / 64 = 2)
 . rw [if_pos a2] at hin hg' ⊢
   generalize hC : limb bs i % 16 * 4096 + limb bs (i + 1) % 64 * 64 + limb bs (i + 2) % 64 = C at *
   by_cases hc : C ≥ 2048 ∧ (C < 55296 ∨ (57344 ≤ C ∧ C ≤ 1114111))
   . rw [if_pos hc] at hin ⊢
     simp only [] at hin ⊢
     rw [drop_takeS (n := 2) hin, drop_takeS (n := 1) (by omega), drop_take1 (by omega), ha1]
     refine ⟨?_, by unfold scN; omega⟩
     unfold encN
     rw [if_neg (by omega), if_neg (by omega), if_pos (by omega)]
     simp only [List.cons.injEq, and_true]
     omega
   . rw [if_neg hc] at hg'; exact absurd ⟨rfl, by decide⟩ hg'
 rw [if_neg a2] at hin hg' ⊢
 by_cases a3 : limb bs i / 8 = 30 ∧ (1 < bs.length - i ∧ limb bs (i + 1) / 64 = 2) ∧ (2 < bs.length - i ∧ limb bs (i + 2) / 64 = 2) ∧ (3 < bs.length - i ∧ limb bs (i + 3) / 64 = 2)
 . rw [if_pos a3] at hin hg' ⊢
   generalize hC : limb bs i % 8 * 262144 + limb bs (i + 1) % 64 * 4096 + limb bs (i + 2) % 64 * 64 + limb bs (i + 3) % 64 = C at *
   by_cases hc : C ≥ 65536 ∧ (C < 55296 ∨ (57344 ≤ C ∧ C ≤ 1114111))
   . rw [if_pos hc] at hin ⊢
     simp only [] at hin ⊢
     rw [drop_takeS (n := 3) hin, drop_takeS (n := 2) (by omega), drop_takeS (n := 1) (by omega), drop_take1 (by omega), ha1, ha2]
     refine ⟨?_, by unfold scN; omega⟩
     unfold encN
     rw [if_neg (by omega), if_neg (by omega), if_neg (by omega)]
     simp only [List.cons.injEq, and_true]
     omega
   . rw [if_neg hc] at hg'; exact absurd ⟨rfl, by decide⟩ hg'
 . rw [if_neg a3] at hg'; exact absurd ⟨rfl, by decide⟩ hg'
theorem enc_chars {bs : List Nat} (hby : By bs) : ∀ (m i : Nat) (cs : List Nat), bs.length - i ≤ m → i ≤ bs.length → chars bs i = (cs, none) → encL cs = bs.drop i ∧ ∀ c ∈ cs, scN c := by
 intro m
 induction m with
 | zero =>
  intro i cs hm hi h
  rw [chars_end (by omega)] at h
  simp only [Prod.mk.injEq, and_true] at h
  subst h
  exact ⟨by rw [List.drop_of_length_le (by omega)]; rfl, fun c hc => by cases hc⟩
 | succ m ih =>
  intro i cs hm hi h
  by_cases hlt : i < bs.length
  . cases hb : badB (dc bs i)
    . have hz := dc_size bs i
      have hin := dc_in hlt
      rw [chars_step hlt hb] at h
      simp only [Prod.mk.injEq] at h
      obtain ⟨h1, h2⟩ := h
      obtain ⟨g1, g2⟩ := ih (i + (dc bs i).2) (chars bs (i + (dc bs i).2)).1 (by omega) hin (by rw [← h2])
      obtain ⟨e1, e2⟩ := enc_dc hby hlt hb
      rw [← h1]
      refine ⟨?_, fun c hc => ?_⟩
      . have : encL ((dc bs i).1 :: (chars bs (i + (dc bs i).2)).1) = encN (dc bs i).1 ++ encL (chars bs (i + (dc bs i).2)).1 := by simp [encL]
        rw [this, g1, e1, ← List.drop_drop]
        exact List.take_append_drop _ _
      . rcases List.mem_cons.1 hc with rfl | hc
        . exact e2
        . exact g2 c hc
    . rw [chars_bad hlt hb] at h
      simp at h
  . rw [chars_end (by omega)] at h
    simp only [Prod.mk.injEq, and_true] at h
    subst h
    exact ⟨by rw [List.drop_of_length_le (by omega)]; rfl, fun c hc => by cases hc⟩
theorem encL_len (l : List Nat) : (encL l).length ≤ 4 * l.length := by
 induction l with
 | nil => simp [encL]
 | cons c l ih =>
  have e : encL (c :: l) = encN c ++ encL l := by simp [encL]
  rw [e, List.length_append, encN_len]
  have := blen_le c
  simp only [List.length_cons]
  omega
end Go.Proofs.YtbfcbicbeagjkaaGreatDoor
namespace Go.Proofs.YtbfcbicbeagjkaaGreatDoor
open Go.RowKit
def byt (s : ByteArray) : List Nat := s.data.toList.map UInt8.toNat
theorem byt_len (s : ByteArray) : (byt s).length = s.size := by unfold byt; rw [List.length_map, Array.length_toList]; rfl
theorem byt_by (s : ByteArray) : By (byt s) := fun i => by
 unfold limb byt
 simp only [List.getD_eq_getElem?_getD, List.getElem?_map]
 cases s.data.toList[i]? with
 | none => show (0 : Nat) < 256; omega
 | some b => show b.toNat < 256; exact b.toNat_lt
theorem byt_mkB (s : ByteArray) : mkB (byt s) = s := by
 unfold mkB byt
 cases s with
 | mk d => simp [Function.comp_def]
theorem byt_inj {s t : ByteArray} (h : byt s = byt t) : s = t := by rw [← byt_mkB s, ← byt_mkB t, h]
theorem byt_limb {s : ByteArray} {i : Nat} (h : i < s.size) : limb (byt s) i = (s.data[i]'h).toNat := by
 have h' : i < s.data.size := h
 unfold limb byt
 simp only [List.getD_eq_getElem?_getD, List.getElem?_map, Array.getElem?_toList, Array.getElem?_eq_getElem h']
 rfl
theorem byt_get {s : ByteArray} {i : Nat} (_h : i < s.size) : (s.get! i).toNat = limb (byt s) i := by
 rw [← mkB_get (byt_by s) i, byt_mkB]
end Go.Proofs.YtbfcbicbeagjkaaGreatDoor
