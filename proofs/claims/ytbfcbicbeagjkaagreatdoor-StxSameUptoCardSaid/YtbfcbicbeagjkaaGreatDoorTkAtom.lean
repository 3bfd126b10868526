/- x -/
import Derived.Test.YtbfcbicbeagjkaaGreatDoorUDec
import Derived.Test.YtbfcbicbeagjkaaGreatDoorUOne
import Derived.Test.YtbfcbicbeagjkaaGreatDoorUEncMath
import Derived.Test.YtbfcbicbeagjkaaGreatDoorShelf
import Derived.Test.YtbfcbicbeagjkaaGreatDoorDm
import Derived.Laws.IdiomStrings
import Derived.Test.YtbfcbicbeagjkaaGreatDoorParse
import Derived.LoopTactic
import Derived.Test.YtbfcbicbeagjkaaGreatDoorTkSc
namespace Go.Proofs.YtbfcbicbeagjkaaGreatDoor
open Go.RowKit
end Go.Proofs.YtbfcbicbeagjkaaGreatDoor
namespace Go.Proofs.YtbfcbicbeagjkaaGreatDoor
open Go.RowKit
def EncPost (zs : List Int) (w : World) (e : Ending) (w' : World) : Prop :=
 ∃ v, e = .returned (.tuple #[v, .int .i64 ((encA zs).2 : Nat)]) ∧ Sl .u8 w' v (encA zs).1 ∧ Below w.heap.size w w'
end Go.Proofs.YtbfcbicbeagjkaaGreatDoor
namespace Go.Proofs.YtbfcbicbeagjkaaGreatDoor
open Go.RowKit Go.Lib
theorem toList_ne {s : ByteArray} (h : 1 ≤ s.size) : ¬ s.toList = [] ∧ s.toList.isEmpty = false := by
 have e : s.toList = s.data.toList := toList_data s
 rw [e]
 cases s with
 | mk d =>
  have h' : 1 ≤ d.toList.length := by rw [Array.length_toList]; exact h
  show ¬ d.toList = [] ∧ d.toList.isEmpty = false
  generalize d.toList = l at *
  cases l with
  | nil => exact absurd h' (by simp)
  | cons a l => exact ⟨by simp, rfl⟩
end Go.Proofs.YtbfcbicbeagjkaaGreatDoor
namespace Go.Proofs.YtbfcbicbeagjkaaGreatDoor
open Go.RowKit Go.Lib
theorem byt_mk {l : List Nat} (h : By l) : byt (mkB l) = l := by
 apply List.ext_getElem (by rw [byt_len, mkB_size])
 intro i h1 h2
 have e := mkB_get h i
 have h3 : i < (mkB l).size := by rw [mkB_size]; exact h2
 rw [byt_get h3, limb_lt h1, limb_lt h2] at e
 exact e
end Go.Proofs.YtbfcbicbeagjkaaGreatDoor
namespace Go.Proofs.YtbfcbicbeagjkaaGreatDoor
open Go.RowKit
theorem bt_byt (s : ByteArray) (j : Nat) : limb (byt s) j = bt s j := by
 unfold limb byt bt
 simp only [List.getD_eq_getElem?_getD, List.getElem?_map]
 cases s.data.toList[j]? <;> rfl
theorem ext_tl {s : ByteArray} : byt (s.extract 1 s.size) = (byt s).drop 1 := by
 unfold byt
 cases s with
 | mk d =>
  rw [ByteArray.extract_mk]
  simp only []
  rw [← List.map_drop]
  congr 1
  apply List.take_of_length_le
  simp [ByteArray.size]
theorem row_slS {w : World} {s : ByteArray} {cap : Nat} {e : TypeId} {fr : Nat × Nat} {W : World} (hW : W.heap[w.heap.size]? = some (.cells (bytesRow s cap) e fr)) (hc : s.size ≤ cap) (hs : s.size ≤ 1000000000000) :
 Sl .u8 W (.slice (some ⟨w.heap.size, 0, none⟩) s.size cap) (byt s) := by
 refine ⟨by rw [byt_len]; unfold maxLen; omega, some ⟨w.heap.size, 0, none⟩, cap, by rw [byt_len], by rw [byt_len]; exact hc, .inr ⟨w.heap.size, 0, rfl, (Array.getElem?_eq_some_iff.1 hW).1, fun j hj => ?_⟩⟩
 rw [byt_len] at hj
 rw [cell_of_row W w.heap.size (0 + j) _ e fr hW, Nat.zero_add, bytesRow_at s cap j hj, byt_limb hj]
theorem lit_iff {s : ByteArray} {l : List UInt8} : (s.toList == l) = decide (byt s = l.map UInt8.toNat) := by
 have ha : s.toList = s.data.toList := Lib.toList_data s
 rw [Bool.eq_iff_iff]
 simp only [beq_iff_eq, decide_eq_true_iff]
 unfold byt
 rw [ha]
 constructor
 . intro h; rw [h]
 . intro h; exact List.map_inj_right (fun a b h => UInt8.toNat_inj.1 h) |>.1 h
end Go.Proofs.YtbfcbicbeagjkaaGreatDoor
namespace Go.Proofs.YtbfcbicbeagjkaaGreatDoor
open Go.RowKit
def idxZ (p : Int → Bool) (zs : List Int) : Int := if zs.findIdx p < zs.length then (zs.findIdx p : Int) else -1
theorem idxZ_hit {p : Int → Bool} {zs : List Int} {k : Nat} (hk : k < zs.length) (hno : ∀ j, j < k → p (zs.getD j 0) = false) (hp : p (zs.getD k 0) = true) : idxZ p zs = (k : Int) := by
 have e : zs.findIdx p = k := by
  rw [List.findIdx_eq hk]
  refine ⟨by simpa [hk] using hp, fun j hj => ?_⟩
  have := hno j hj
  have hj' : j < zs.length := by omega
  simpa [hj'] using this
 unfold idxZ
 rw [e, if_pos hk]
theorem idxZ_none {p : Int → Bool} {zs : List Int} (hno : ∀ j, j < zs.length → p (zs.getD j 0) = false) : idxZ p zs = -1 := by
 have e : zs.findIdx p = zs.length := by
  rw [List.findIdx_eq_length]
  intro x hx
  obtain ⟨i, hi, rfl⟩ := List.getElem_of_mem hx
  have := hno i hi
  simpa [hi] using this
 unfold idxZ
 rw [e, if_neg (by omega)]
set_option maxRecDepth 100000 in
set_option maxHeartbeats 1000000 in
theorem index_ends (p : Int → Bool) (hp : ∀ (c : Int) (w : World), Calls Tryz.prog 233 #[.int .i64 c] w fun e w' => e = .returned (.bool (p c)) ∧ w' = w) (v : Value) (zs : List Int) (w : World) (hs : SlV w v (intCells zs)) :
 Calls Tryz.prog 242 #[v, .func (.func 233) #[] #[]] w fun e w' => e = .returned (.int .i64 (idxZ p zs)) ∧ w' = w := by
 have HP := Lib.hid hp; clear hp
 have hlen := intCells_len zs
 obtain ⟨hm, ao, cap, rfl, hcap, h⟩ := hs
 unfold maxLen at hm
 have HC : Hid (∀ j, j < zs.length → ∃ b off, ao = some ⟨b, off, none⟩ ∧ b < w.heap.size ∧ w.cell? ⟨b, off + j, none⟩ = some (.int .i64 (zs.getD j 0))) := Lib.hid fun j hj => by
  rcases h with ⟨h, _⟩ | ⟨b, off, h1, h2, h3⟩
  . rw [h] at hlen; simp at hlen; omega
  . exact ⟨b, off, h1, h2, h3 j _ (intCells_at hj)⟩
 rw [hlen] at hm hcap ⊢
 clear h hlen
 go_enter Tryz.func242, Tryz.ntmps242
 go_wp2_with fail
 go_loopw [8] (fun i wr => ∃ k : Nat, i = .int .i64 (k : Nat) ∧ k ≤ zs.length ∧ (∀ j, j < k → p (zs.getD j 0) = false) ∧ wr = w) (fun i _ => zs.length - (intOf i).toNat)
 case atStart => exact ⟨0, rfl, by omega, fun j hj => by omega, rfl⟩
 case round =>
  obtain ⟨k, rfl, hk, hno, rfl⟩ := hrel
  have HN := Lib.hid hno; clear hno
  rcases Nat.lt_or_eq_of_le hk with hkt | rfl
  . obtain ⟨b, off, hao, _, hc⟩ := HC.out k hkt
    subst hao
    have hkc : k < cap := by omega
    have hcall := HP.out (zs.getD k 0) wr
    generalize hz : zs.getD k 0 = z at *
    have HZ := Lib.hid hz; clear hz
    cases hpz : p z with
    | true =>
     have HI := Lib.hid (idxZ_hit hkt HN.out (by rw [HZ.out]; exact hpz))
     rw [hpz] at hcall
     have HCALL := Lib.hid hcall; clear hcall
     go_wp2_with fail
     refine HCALL.out.mono ?_
     rintro e w' ⟨rfl, rfl⟩
     go_wp2_with fail
     go_ret
     exact ⟨ret_int HI.out.symm, rfl⟩
    | false =>
     rw [hpz] at hcall
     have HCALL := Lib.hid hcall; clear hcall
     have HPZ := Lib.hid hpz; clear hpz
     go_wp2_with fail
     refine HCALL.out.mono ?_
     rintro e w' ⟨rfl, rfl⟩
     go_wp2_with fail
     go_roundw
     case rel =>
      refine ⟨k + 1, by go_num, by omega, fun j hj => ?_, by trivial⟩
      by_cases e : j = k
      . subst e; rw [HZ.out]; exact HPZ.out
      . exact HN.out j (by omega)
     case measure => simp only [intOf]; omega
  . have HI := Lib.hid (idxZ_none HN.out)
    go_wp2_with fail
    go_ret
    exact ⟨ret_int HI.out.symm, rfl⟩
set_option maxRecDepth 100000 in
theorem ends_nat (c : Int) (w : World) : Calls Tryz.prog 233 #[.int .i64 c] w fun e w' => e = .returned (.bool (enB c)) ∧ w' = w :=
 (ends_any c w).mono fun _ _ h => ⟨h.1, h.2.symm⟩
set_option maxRecDepth 100000 in
theorem contains_ends (v : Value) (zs : List Int) (w : World) (hs : SlV w v (intCells zs)) :
 Calls Tryz.prog 232 #[v, .func (.func 233) #[] #[]] w fun e w' => e = .returned (.bool (zs.any enB)) ∧ w' = w := by
 have hv : decide (0 ≤ idxZ enB zs) = zs.any enB := by
  unfold idxZ
  cases h : zs.any enB with
  | true =>
   have : zs.findIdx enB < zs.length := by
    rw [List.findIdx_lt_length]
    simpa using h
   rw [if_pos this]; simp
  | false =>
   have : zs.findIdx enB = zs.length := by
    rw [List.findIdx_eq_length]
    simpa using h
   rw [this, if_neg (by omega)]; rfl
 have HV := Lib.hid hv; clear hv
 obtain ⟨hm, ao, cap, rfl, hcap, h⟩ := hs
 have hs : SlV w (.slice ao (intCells zs).length cap) (intCells zs) := ⟨hm, ao, cap, rfl, hcap, h⟩
 have HS := Lib.hid hs
 clear hm hcap h hs
 go_enter Tryz.func232, Tryz.ntmps232
 go_wp2_with fail
 refine (index_ends enB (fun c w => ends_nat c w) _ zs _ HS.out).mono ?_
 rintro e w' ⟨rfl, rfl⟩
 generalize idxZ enB zs = z at *
 go_wp2_with fail
 go_ret
 exact ⟨ret_bl HV.out, rfl⟩
set_option maxRecDepth 100000 in
set_option maxHeartbeats 1000000 in
theorem numeral_any (s : ByteArray) (w : World) (h0 : 0 < s.size) :
 Calls Tryz.prog 231 #[.string s] w fun e w' => e = .returned (.bool (numeA (byt s))) ∧ w' = w := by
 have hx0 : (s[0]'h0).toNat = limb (byt s) 0 := by rw [bt_byt, bt_at h0]
 have hsg : sgnN (limb (byt s) 0) = true → digN (limb (byt s) 0) = false := by
  unfold sgnN digN
  simp only [decide_eq_true_iff, decide_eq_false_iff_not]
  omega
 unfold numeA
 generalize limb (byt s) 0 = x at *
 have HX := Lib.hid hx0
 have hne := toList_ne h0
 obtain ⟨hne1, hne2⟩ := hne
 cases hs : sgnN x with
 | true =>
  have hd := hsg hs
  clear hsg
  have h43 : x = 43 ∨ x = 45 := by unfold sgnN at hs; simpa using hs
  rcases Nat.lt_or_ge 1 s.size with h2 | h2
  . have hT : 0 < (s.extract 1 s.size).size := by simp; omega
    have hT0 : ((s.extract 1 s.size)[0]'hT).toNat = limb (byt s) 1 := by
     have e : ((s.extract 1 s.size)[0]'hT).toNat = bt (s.extract 1 s.size) 0 := (bt_at hT).symm
     rw [e, ← bt_byt, ext_tl, limb_drop]
    have hTe := toList_ne hT
    obtain ⟨hTe1, hTe2⟩ := hTe
    generalize limb (byt s) 1 = y at *
    have HY := Lib.hid hT0
    clear hT0
    rcases h43 with rfl | rfl
    . have hb : (((s[0]'h0).toNat : Nat) : Int) = 43 := by rw [hx0]; rfl
      clear hx0
      go_enter Tryz.func231, Tryz.ntmps231
      go_wp2_with fail
      all_goals
       go_ret
       refine ⟨ret_bl ?_, rfl⟩
       have e := HY.out
       rw [Bool.eq_iff_iff]
       simp [digN] <;> omega
    . have hb : (((s[0]'h0).toNat : Nat) : Int) = 45 := by rw [hx0]; rfl
      clear hx0
      go_enter Tryz.func231, Tryz.ntmps231
      go_wp2_with fail
      all_goals
       go_ret
       refine ⟨ret_bl ?_, rfl⟩
       have e := HY.out
       rw [Bool.eq_iff_iff]
       simp [digN] <;> omega
  . have hl1 : limb (byt s) 1 = 0 := limb_out (by rw [byt_len]; exact h2)
    have hTs : (s.extract 1 s.size).size = 0 := by simp; omega
    have hTe := list_nil hTs
    obtain ⟨hTe1, hTe2⟩ := hTe
    rw [hl1]
    rcases h43 with rfl | rfl
    . have hb : (((s[0]'h0).toNat : Nat) : Int) = 43 := by rw [hx0]; rfl
      clear hx0
      go_enter Tryz.func231, Tryz.ntmps231
      go_wp2_with fail
      all_goals
       go_ret
       exact ⟨ret_bl (by decide), rfl⟩
    . have hb : (((s[0]'h0).toNat : Nat) : Int) = 45 := by rw [hx0]; rfl
      clear hx0
      go_enter Tryz.func231, Tryz.ntmps231
      go_wp2_with fail
      all_goals
       go_ret
       exact ⟨ret_bl (by decide), rfl⟩
 | false =>
  have h43 : x ≠ 43 ∧ x ≠ 45 := by unfold sgnN at hs; simpa using hs
  obtain ⟨h43, h45⟩ := h43
  have hb1 : ((((s[0]'h0).toNat : Nat) : Int) == 43) = false := by rw [hx0, beq_eq_false_iff_ne]; omega
  have hb2 : ((((s[0]'h0).toNat : Nat) : Int) == 45) = false := by rw [hx0, beq_eq_false_iff_ne]; omega
  clear hx0 hsg hs
  go_enter Tryz.func231, Tryz.ntmps231
  go_wp2_with fail
  all_goals
   go_ret
   refine ⟨ret_bl ?_, rfl⟩
   have e := HX.out
   rw [Bool.eq_iff_iff]
   simp [digN] <;> omega
theorem symA_not {bs : List Nat} (h : bs = [] ∨ bs = [46] ∨ 64 < bs.length ∨ limb bs 0 = 35 ∨ numeA bs = true ∨ (chars bs 0).2 ≠ none ∨ ((chars bs 0).1.any enN) = true) : symA bs = false := by
 unfold symA
 rw [Bool.eq_false_iff]
 intro hs
 simp only [Bool.and_eq_true, decide_eq_true_iff, Bool.not_eq_true', List.all_eq_true] at hs
 obtain ⟨⟨⟨⟨h1, h2, h3, h4⟩, h5⟩, h6⟩, h7⟩ := hs
 rcases h with h | h | h | h | h | h | h
 . exact h1 h
 . exact h2 h
 . omega
 . exact h4 h
 . rw [h] at h5; cases h5
 . exact h h6
 . rw [List.any_eq_true] at h
   obtain ⟨x, hx, hy⟩ := h
   have := h7 x hx
   rw [hy] at this
   cases this
theorem symA_yes {bs : List Nat} (h1 : bs ≠ []) (h2 : bs ≠ [46]) (h3 : bs.length ≤ 64) (h4 : limb bs 0 ≠ 35) (h5 : numeA bs = false) (h6 : (chars bs 0).2 = none) (h7 : ((chars bs 0).1.any enN) = false) : symA bs = true := by
 unfold symA
 simp only [Bool.and_eq_true, decide_eq_true_iff, Bool.not_eq_true', List.all_eq_true]
 refine ⟨⟨⟨⟨h1, h2, h3, h4⟩, h5⟩, h6⟩, fun x hx => ?_⟩
 rw [List.any_eq_false] at h7
 simpa using h7 x hx
theorem any_enN (cs : List Nat) : ((cs.map fun (x : Nat) => (x : Int)).any enB) = cs.any enN := by
 rw [List.any_map]; rfl
set_option maxRecDepth 100000 in
set_option maxHeartbeats 2000000 in
theorem symbol_any (s : ByteArray) (w : World) (ht : Tabs w) :
 Calls Tryz.prog 220 #[.string s] w fun e w' => e = .returned (.bool (symA (byt s))) ∧ Below w.heap.size w w' := by
 have HT := Lib.hid ht; clear ht
 have hlen := byt_len s
 rcases Nat.eq_zero_or_pos s.size with h0 | h0
 . have HS := Lib.hid (symA_not (bs := byt s) (.inl (List.eq_nil_of_length_eq_zero (by omega))))
   have hTe := list_nil h0
   obtain ⟨hTe1, hTe2⟩ := hTe
   clear hlen
   go_enter Tryz.func220, Tryz.ntmps220
   go_wp2_with fail
   go_ret
   exact ⟨ret_bl HS.out.symm, Below.refl _ _⟩
 have hne := toList_ne h0
 obtain ⟨hne1, hne2⟩ := hne
 cases hd : (s.toList == [46]) with
 | true =>
  have HS := Lib.hid (symA_not (bs := byt s) (.inr (.inl (by rw [lit_iff] at hd; simpa using hd))))
  clear hlen
  go_enter Tryz.func220, Tryz.ntmps220
  go_wp2_with fail
  go_ret
  exact ⟨ret_bl HS.out.symm, Below.refl _ _⟩
 | false =>
 have HD : Hid (byt s ≠ [46]) := Lib.hid (by rw [lit_iff] at hd; simpa using hd)
 rcases Nat.lt_or_ge 64 s.size with h64 | h64
 . have HS := Lib.hid (symA_not (bs := byt s) (.inr (.inr (.inl (by omega)))))
   clear hlen
   go_enter Tryz.func220, Tryz.ntmps220
   go_wp2_with fail
   go_ret
   exact ⟨ret_bl HS.out.symm, Below.refl _ _⟩
 have h64' : ¬ (64 : Int) < ((s.size : Nat) : Int) := by omega
 have hx0 : (s[0]'h0).toNat = limb (byt s) 0 := by rw [bt_byt, bt_at h0]
 by_cases h35 : limb (byt s) 0 = 35
 . have HS := Lib.hid (symA_not (bs := byt s) (.inr (.inr (.inr (.inl h35)))))
   have hb : (((s[0]'h0).toNat : Nat) : Int) = 35 := by rw [hx0, h35]; rfl
   clear hlen hx0 h35
   go_enter Tryz.func220, Tryz.ntmps220
   go_wp2_with fail
   go_ret
   exact ⟨ret_bl HS.out.symm, Below.refl _ _⟩
 have H35 := Lib.hid h35
 have hb : ((((s[0]'h0).toNat : Nat) : Int) == 35) = false := by rw [hx0, beq_eq_false_iff_ne]; omega
 have HLEN := Lib.hid hlen
 clear hlen hx0 h35
 have H0 := Lib.hid h0
 have H64 := Lib.hid h64
 have HC := Lib.hid (fun w => run_bytes_of_string (P := Tryz.prog) w 9 80 5 s Tryz.underlying9 Tryz.underlying80 Tryz.underlying5)
 go_enter Tryz.func220, Tryz.ntmps220
 go_wp2_with fail
 refine (numeral_any s _ H0.out).mono ?_
 rintro e w1 ⟨rfl, rfl⟩
 cases hnum : numeA (byt s) with
 | true =>
  have HS := Lib.hid (symA_not (bs := byt s) (.inr (.inr (.inr (.inr (.inl hnum))))))
  go_wp2_with fail
  go_ret
  exact ⟨ret_bl HS.out.symm, Below.refl _ _⟩
 | false =>
  have HNUM := Lib.hid hnum; clear hnum
  have hconv := HC.out w1
  have hcap := grownCap_ge w1 s.size 0 5
  go_wp2_with fail
  generalize hG : grownCap w1 s.size 0 5 = cap at *
  have hsl := row_slS (w := w1) (e := 5) (W := (w1.alloc (Obj.cells (bytesRow s cap) 5 ((bytesRow s cap).size, (bytesRow s cap).size + 1))).drew) (heap_alloc_new w1 _) hcap (by omega)
  have hb1 : Below w1.heap.size w1 ((w1.alloc (Obj.cells (bytesRow s cap) 5 ((bytesRow s cap).size, (bytesRow s cap).size + 1))).drew) := (below1 w1 _).drew
  refine (decode_any _ (byt s) _ hsl (byt_by s) (HT.out.below hb1 (Nat.le_refl _))).mono ?_
  rintro e w2 ⟨v, rfl, hv, hb⟩
  have hbel : Below w1.heap.size w1 w2 := hb1.trans (hb.mono (by simp))
  clear hsl hb1 hb hconv hG hcap
  cases hch : (chars (byt s) 0).2 with
  | some k =>
   have hdec := decA_bad (bs := byt s) (by have := HLEN.out; omega) hch
   have HS := Lib.hid (symA_not (bs := byt s) (.inr (.inr (.inr (.inr (.inr (.inl (by rw [hch]; simp))))))))
   rw [hdec] at hv ⊢
   obtain ⟨_, av, cv, rfl, _, _⟩ := hv
   clear hdec hch
   go_wp2_with fail
   go_ret
   exact ⟨ret_bl HS.out.symm, hbel⟩
  | none =>
   obtain ⟨cs, hcs⟩ : ∃ cs, cs = (chars (byt s) 0).1 := ⟨_, rfl⟩
   have hdec := decA_ok (bs := byt s) (cs := cs) (by have := HLEN.out; omega) (by rw [hcs, ← hch])
   rw [hdec] at hv ⊢
   have hslv := slv_nat hv
   have HV := Lib.hid hslv
   obtain ⟨_, av, cv, rfl, _, _⟩ := hv
   have HCS := Lib.hid hcs
   have HCH := Lib.hid hch
   clear hdec hch hcs hslv
   go_wp2_with fail
   refine (contains_ends _ (cs.map fun (x : Nat) => (x : Int)) _ HV.out).mono ?_
   rintro e w3 ⟨rfl, rfl⟩
   rw [any_enN]
   cases hany : cs.any enN with
   | true =>
    have HS := Lib.hid (symA_not (bs := byt s) (.inr (.inr (.inr (.inr (.inr (.inr (by rw [← HCS.out]; exact hany))))))))
    go_wp2_with fail
    go_ret
    exact ⟨ret_bl HS.out.symm, hbel⟩
   | false =>
    have HS := Lib.hid (symA_yes (bs := byt s) (by intro h; have := HLEN.out; rw [h] at this; have := H0.out; simp at *; omega) HD.out (by have := HLEN.out; have := H64.out; omega) H35.out HNUM.out HCH.out (by rw [← HCS.out]; exact hany))
    go_wp2_with fail
    go_ret
    exact ⟨ret_bl HS.out.symm, hbel⟩
end Go.Proofs.YtbfcbicbeagjkaaGreatDoor
namespace Go.Proofs.YtbfcbicbeagjkaaGreatDoor
open Go.RowKit
def dtV (d : Dt) (lv : Value) (p : Nat) : Value := .agg #[.int .i64 (d.k : Nat), .string (mkB d.t), .bool d.n, lv, .slice none 0 0, .int .i64 (p : Nat)]
def AtomPost (bs : List Nat) (w : World) (e : Ending) (w' : World) : Prop :=
 ∃ lv, e = .returned (.tuple #[dtV ((atmA bs).getD zD) lv 0, .bool (atmA bs).isSome]) ∧ Sl .u32 w' lv ((atmA bs).getD zD).r ∧ Below w.heap.size w w'
theorem AtomPost.mk {bs : List Nat} {w w' : World} {d : Dt} {lv : Value} {v : Value} (h : atmA bs = some d) (hv : v = dtV d lv 0) (hs : Sl .u32 w' lv d.r) (hb : Below w.heap.size w w') : AtomPost bs w (.returned (.tuple #[v, .bool true])) w' := by
 refine ⟨lv, by rw [h, hv]; rfl, by rw [h]; exact hs, hb⟩
theorem AtomPost.no {bs : List Nat} {w w' : World} {v : Value} (h : atmA bs = none) (hv : v = dtV zD (.slice none 0 0) 0) (hb : Below w.heap.size w w') : AtomPost bs w (.returned (.tuple #[v, .bool false])) w' := by
 refine ⟨.slice none 0 0, by rw [h, hv]; rfl, by rw [h]; exact Sl.nil _ _, hb⟩
theorem atmA_true {bs : List Nat} (h : bs = tTrue ∨ bs = tTrue') : atmA bs = some ⟨8, [], false, []⟩ := by unfold atmA; rw [if_pos h]
theorem atmA_false {bs : List Nat} (h : ¬ (bs = tTrue ∨ bs = tTrue')) (h1 : bs = tFalse ∨ bs = tFalse') : atmA bs = some ⟨9, [], false, []⟩ := by unfold atmA; rw [if_neg h, if_pos h1]
theorem atmA_num {bs : List Nat} {n : Bool} {r : List Nat} (h : ¬ (bs = tTrue ∨ bs = tTrue')) (h1 : ¬ (bs = tFalse ∨ bs = tFalse')) (h2 : parA (mkB bs) = (n, r, true)) : atmA bs = some ⟨7, [], n, r⟩ := by
 unfold atmA; rw [if_neg h, if_neg h1, h2]; rfl
theorem atmA_sym {bs : List Nat} {n : Bool} {r : List Nat} (h : ¬ (bs = tTrue ∨ bs = tTrue')) (h1 : ¬ (bs = tFalse ∨ bs = tFalse')) (h2 : parA (mkB bs) = (n, r, false)) (h3 : symA bs = true) : atmA bs = some ⟨4, bs, false, []⟩ := by
 unfold atmA; rw [if_neg h, if_neg h1, h2, if_neg (by simp), if_pos h3]
theorem atmA_none {bs : List Nat} {n : Bool} {r : List Nat} (h : ¬ (bs = tTrue ∨ bs = tTrue')) (h1 : ¬ (bs = tFalse ∨ bs = tFalse')) (h2 : parA (mkB bs) = (n, r, false)) (h3 : symA bs = false) : atmA bs = none := by
 unfold atmA; rw [if_neg h, if_neg h1, h2, if_neg (by simp), if_neg (by simp [h3])]
set_option maxRecDepth 100000 in
theorem sclone_any (s : ByteArray) (w : World) (hs : s.size ≤ 100000000) :
 Calls Tryz.prog 96 #[.string s] w fun e w' => e = .returned (.string s) ∧ Below w.heap.size w w' := by
 go_enter Tryz.func96, Tryz.ntmps96
 go_wp2_with fail
 refine (Tryz.stringslite_Clone s _ (by omega)).mono ?_
 rintro e w' ⟨rfl, hb⟩
 go_wp2_with fail
 go_ret
 exact ⟨rfl, hb⟩
set_option maxRecDepth 100000 in
set_option maxHeartbeats 4000000 in
theorem tatom_any (s : ByteArray) (w : World) (ht : Tabs w) (hs : s.size ≤ 100000000) :
 Calls Tryz.prog 196 #[.string s] w (AtomPost (byt s) w) := by
 have HT := Lib.hid ht; clear ht
 have HSZ := Lib.hid hs; clear hs
 have hb0 := below1 w (.cells #[.int .i64 0, .string ⟨#[]⟩, .bool false, .slice none 0 0, .slice none 0 0, .int .i64 0] 27)
 cases e1 : (s.toList == [35, 116]) with
 | true =>
  have HA := Lib.hid (atmA_true (bs := byt s) (.inl (by rw [lit_iff] at e1; simp at e1; exact e1)))
  go_enter Tryz.func196, Tryz.ntmps196
  go_wp2_with fail
  refine bodyPost_ret (v := .tuple #[.agg #[.int .i64 8, .string ⟨#[]⟩, .bool false, .slice none 0 0, .slice none 0 0, .int .i64 0], .bool true]) (by simp [results, Tryz.results196, go_sem]) rfl ?_
  refine AtomPost.mk (lv := .slice none 0 0) HA.out rfl (Sl.nil _ _) ?_
  repeat (first | exact Below.refl _ _ | refine Below.setCell ?_ (by simp) _ | refine Below.alloc ?_ (by simp) _ | refine Below.drew ?_ | refine below_drewN ?_ _)
 | false =>
 cases e2 : (s.toList == [35, 116, 114, 117, 101]) with
 | true =>
  have HA := Lib.hid (atmA_true (bs := byt s) (.inr (by rw [lit_iff] at e2; simp at e2; exact e2)))
  go_enter Tryz.func196, Tryz.ntmps196
  go_wp2_with fail
  refine bodyPost_ret (v := .tuple #[.agg #[.int .i64 8, .string ⟨#[]⟩, .bool false, .slice none 0 0, .slice none 0 0, .int .i64 0], .bool true]) (by simp [results, Tryz.results196, go_sem]) rfl ?_
  refine AtomPost.mk (lv := .slice none 0 0) HA.out rfl (Sl.nil _ _) ?_
  repeat (first | exact Below.refl _ _ | refine Below.setCell ?_ (by simp) _ | refine Below.alloc ?_ (by simp) _ | refine Below.drew ?_ | refine below_drewN ?_ _)
 | false =>
 have hnt : ¬ (byt s = tTrue ∨ byt s = tTrue') := by
  rw [lit_iff] at e1 e2
  simp at e1 e2
  rintro (h | h)
  . exact e1 h
  . exact e2 h
 have HNT := Lib.hid hnt; clear hnt
 cases e3 : (s.toList == [35, 102]) with
 | true =>
  have HA := Lib.hid (atmA_false (bs := byt s) HNT.out (.inl (by rw [lit_iff] at e3; simp at e3; exact e3)))
  go_enter Tryz.func196, Tryz.ntmps196
  go_wp2_with fail
  refine bodyPost_ret (v := .tuple #[.agg #[.int .i64 9, .string ⟨#[]⟩, .bool false, .slice none 0 0, .slice none 0 0, .int .i64 0], .bool true]) (by simp [results, Tryz.results196, go_sem]) rfl ?_
  refine AtomPost.mk (lv := .slice none 0 0) HA.out rfl (Sl.nil _ _) ?_
  repeat (first | exact Below.refl _ _ | refine Below.setCell ?_ (by simp) _ | refine Below.alloc ?_ (by simp) _ | refine Below.drew ?_ | refine below_drewN ?_ _)
 | false =>
 cases e4 : (s.toList == [35, 102, 97, 108, 115, 101]) with
 | true =>
  have HA := Lib.hid (atmA_false (bs := byt s) HNT.out (.inr (by rw [lit_iff] at e4; simp at e4; exact e4)))
  go_enter Tryz.func196, Tryz.ntmps196
  go_wp2_with fail
  refine bodyPost_ret (v := .tuple #[.agg #[.int .i64 9, .string ⟨#[]⟩, .bool false, .slice none 0 0, .slice none 0 0, .int .i64 0], .bool true]) (by simp [results, Tryz.results196, go_sem]) rfl ?_
  refine AtomPost.mk (lv := .slice none 0 0) HA.out rfl (Sl.nil _ _) ?_
  repeat (first | exact Below.refl _ _ | refine Below.setCell ?_ (by simp) _ | refine Below.alloc ?_ (by simp) _ | refine Below.drew ?_ | refine below_drewN ?_ _)
 | false =>
 have hnf : ¬ (byt s = tFalse ∨ byt s = tFalse') := by
  rw [lit_iff] at e3 e4
  simp at e3 e4
  rintro (h | h)
  . exact e3 h
  . exact e4 h
 have HNF := Lib.hid hnf; clear hnf
 have hd0 := DB.new w
 go_enter Tryz.func196, Tryz.ntmps196
 go_wp2_with fail
 refine (parse_any s _ HSZ.out).mono ?_
 rintro e w2 ⟨v, n, r, ok, rfl, ⟨lv, rfl, hlv⟩, hb2, hres⟩
 have hpar : parA (mkB (byt s)) = (n, r, ok) := parA_eq (by rw [byt_mkB]; exact hres)
 have HD := Lib.hid (hd0.step hb2)
 have HB := Lib.hid (hb0.trans (hb2.mono (by simp)))
 clear hres hd0 hb0 hb2
 have HLV := Lib.hid hlv
 obtain ⟨_, av, cv, rfl, _, _⟩ := hlv
 cases ok with
 | true =>
  have HA := Lib.hid (atmA_num HNT.out HNF.out hpar)
  clear hpar
  obtain ⟨c0, c1, c2, c3, c4, c5, f0, f1, f2, f3, f4, f5⟩ := HD.out.facts
  have hlt := HD.out.lt
  go_wp2_with fail
  obtain ⟨hrow, hk⟩ := HD.out.fill (.int .i64 7) (.string ⟨#[]⟩) (.bool n) (.slice av r.length cv) (.slice none 0 0) (.int .i64 0)
  have hrow2 := (Below.heap_alloc _ (.cells #[.bool n, .slice av r.length cv] 24) w.heap.size (Array.getElem?_eq_some_iff.1 hrow).1).trans hrow
  have hk2 := hk.alloc hlt (.cells #[.bool n, .slice av r.length cv] 24)
  clear hrow hk c0 c1 c2 c3 c4 c5 f0 f1 f2 f3 f4 f5
  generalize World.alloc _ (.cells #[.bool n, .slice av r.length cv] 24) = W' at *
  obtain ⟨c0, c1, c2, c3, c4, c5⟩ := row6 hrow2
  refine bodyPost_ret (v := .tuple #[.agg #[.int .i64 7, .string ⟨#[]⟩, .bool n, .slice av r.length cv, .slice none 0 0, .int .i64 0], .bool true]) (by simp [results, Tryz.results196, go_sem, c0, c1, c2, c3, c4, c5]) rfl ?_
  exact AtomPost.mk (lv := .slice av r.length cv) HA.out rfl (HLV.out.u32s (U32S.ks hk2 HD.out.noU)) (HB.out.trans hk2.bel)
 | false =>
  have hb3 : Below w.heap.size w (w2.alloc (.cells #[.bool n, .slice av r.length cv] 24)) := HB.out.alloc (by have := HB.out.size; omega) _
  have HD3 := Lib.hid (HD.out.step (below1 w2 (.cells #[.bool n, .slice av r.length cv] 24)))
  have HT3 := Lib.hid (HT.out.below hb3 (Nat.le_refl _))
  have HB3 := Lib.hid hb3
  have HPAR := Lib.hid hpar
  clear hb3 hpar
  go_wp2_with fail
  refine (symbol_any s _ HT3.out).mono ?_
  rintro e w3 ⟨rfl, hb4⟩
  have HD4 := Lib.hid (HD3.out.step hb4)
  have HB4 := Lib.hid (HB3.out.trans (hb4.mono (by have := HB3.out.size; exact this)))
  clear hb4
  cases hsym : symA (byt s) with
  | false =>
   have HA := Lib.hid (atmA_none HNT.out HNF.out HPAR.out hsym)
   obtain ⟨c0, c1, c2, c3, c4, c5, f0, f1, f2, f3, f4, f5⟩ := HD4.out.facts
   go_wp2_with fail
   obtain ⟨hrow, hk⟩ := HD4.out.fill (.int .i64 0) (.string ⟨#[]⟩) (.bool false) (.slice none 0 0) (.slice none 0 0) (.int .i64 0)
   clear c0 c1 c2 c3 c4 c5 f0 f1 f2 f3 f4 f5
   generalize World.setCell _ ⟨w.heap.size, 5, none⟩ (.int .i64 0) = W' at *
   obtain ⟨c0, c1, c2, c3, c4, c5⟩ := row6 hrow
   refine bodyPost_ret (v := .tuple #[.agg #[.int .i64 0, .string ⟨#[]⟩, .bool false, .slice none 0 0, .slice none 0 0, .int .i64 0], .bool false]) (by simp [results, Tryz.results196, go_sem, c0, c1, c2, c3, c4, c5]) rfl ?_
   exact AtomPost.no HA.out rfl (HB4.out.trans hk.bel)
  | true =>
   have HA := Lib.hid (atmA_sym HNT.out HNF.out HPAR.out hsym)
   go_wp2_with fail
   refine (sclone_any s _ HSZ.out).mono ?_
   rintro e w4 ⟨rfl, hb5⟩
   have HD5 := Lib.hid (HD4.out.step hb5)
   have HB5 := Lib.hid (HB4.out.trans (hb5.mono (by have := HB4.out.size; exact this)))
   obtain ⟨c0, c1, c2, c3, c4, c5, f0, f1, f2, f3, f4, f5⟩ := HD5.out.facts
   clear hb5
   go_wp2_with fail
   obtain ⟨hrow, hk⟩ := HD5.out.fill (.int .i64 4) (.string s) (.bool false) (.slice none 0 0) (.slice none 0 0) (.int .i64 0)
   clear c0 c1 c2 c3 c4 c5 f0 f1 f2 f3 f4 f5
   generalize World.setCell _ ⟨w.heap.size, 5, none⟩ (.int .i64 0) = W' at *
   obtain ⟨c0, c1, c2, c3, c4, c5⟩ := row6 hrow
   refine bodyPost_ret (v := .tuple #[.agg #[.int .i64 4, .string s, .bool false, .slice none 0 0, .slice none 0 0, .int .i64 0], .bool true]) (by simp [results, Tryz.results196, go_sem, c0, c1, c2, c3, c4, c5]) rfl ?_
   refine AtomPost.mk (lv := .slice none 0 0) HA.out (by unfold dtV; rw [byt_mkB]; rfl) (Sl.nil _ _) (HB5.out.trans hk.bel)
end Go.Proofs.YtbfcbicbeagjkaaGreatDoor
