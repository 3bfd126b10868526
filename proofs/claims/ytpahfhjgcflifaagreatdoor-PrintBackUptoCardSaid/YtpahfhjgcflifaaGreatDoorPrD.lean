/- A printer and a datum. | A printer and a list; a datum; print.Print. -/
import Derived.Test.YtpahfhjgcflifaaGreatDoorPr
import Derived.Test.YtpahfhjgcflifaaGreatDoorName
import Derived.Deep.RegionHeldLaw
import Derived.Test.YtpahfhjgcflifaaGreatDoorRTx
import Derived.Test.YtpahfhjgcflifaaGreatDoorRdSize
namespace Go.Proofs.YtpahfhjgcflifaaGreatDoor
open Go.RowKit

theorem numT_len {n : Bool} {r : List Nat} (h : Snd n r) : (numT n r).length ≤ 6000000 := by
  have := (txt_short h).2
  unfold numT
  rw [List.length_map]
  omega
theorem numT_by {n : Bool} {r : List Nat} (h : Snd n r) : By (numT n r) := fun i => by
  rcases Nat.lt_or_ge i (numT n r).length with hi | hi
  · have := numT_low h (limb (numT n r) i) (by rw [limb_lt hi]; exact List.getElem_mem _)
    omega
  · rw [limb_out hi]; omega
theorem nameA_by' {c : Nat} (hs : scN c) : By (nameA c) := by
  have hc : c ≤ 1114111 := by unfold scN at hs; omega
  rcases Nat.lt_or_ge c 128 with h | h
  · refine by_of ?_
    exact (nm_low ⟨c, h⟩).1
  · have e : nameA c = encN c := by
      unfold nameA
      rw [if_neg (by omega), if_neg (by omega), if_neg (by omega), if_neg (by omega), if_neg (by omega), if_neg (by omega), if_neg (by omega), if_neg (by omega)]
    rw [e]
    exact encN_by hc
set_option maxRecDepth 100000 in
set_option maxHeartbeats 4000000 in
/-- A character by its name. -/
theorem pchar_any (b : Nat) (bs t : List Nat) (c : Nat) (hc : chars t 0 = ([c], none)) (w : World) (ht : By t) (h : Pn bs b w) (hl : bs.length ≤ 100000000000000) (w0 : World) (hb : PrE w0 b w) :
    Calls Tryz.prog 68 #[.pointer (some ⟨b, 0, none⟩), .string (mkB t)] w (PnP (bs ++ 35 :: 92 :: nameA c) b w) := by
  have HP := Lib.hid h
  have HL := Lib.hid hl
  have HT := Lib.hid ht
  have HE := Lib.hid hb
  have hlen := oneT_short ht hc rfl
  have HSZ : Hid ((mkB t).size ≤ 65536) := Lib.hid (by rw [mkB_size]; exact hlen)
  have HBT : Hid (byt (mkB t) = t) := Lib.hid (byt_mk ht)
  have HD := Lib.hid (decA_ok hlen hc)
  have hscn := (enc_chars ht _ 0 [c] (Nat.le_refl _) (Nat.zero_le _) hc).2 c (by simp)
  have HSC : Hid (scB ((c : Nat) : Int) = true) := Lib.hid (by rw [scB_nat]; exact decide_eq_true hscn)
  have HNB : Hid (By (nameA c)) := Lib.hid (nameA_by' hscn)
  have HNL := Lib.hid (nameA_len c)
  have HM := Lib.hid (mkB_chr (nameA c))
  have HNZ : Hid ((mkB (nameA c)).size ≤ 10) := Lib.hid (by rw [mkB_size]; exact nameA_len c)
  clear h hl ht hb hc hlen hscn
  go_enter Tryz.func68, Tryz.ntmps68
  have hconv := run_bytes_of_string (P := Tryz.prog) w 9 34 5 (mkB t) Tryz.underlying9 Tryz.underlying34 Tryz.underlying5
  have hcap := grownCap_ge w (mkB t).size 0 5
  go_wp2_with fail
  generalize hG : grownCap w (mkB t).size 0 5 = cap at *
  have hsl := row_slS (w := w) (e := 5) (W := (w.alloc (Obj.cells (bytesRow (mkB t) cap) 5 ((bytesRow (mkB t) cap).size, (bytesRow (mkB t) cap).size + 1))).drew) (heap_alloc_new w _) hcap (by have := HSZ.out; omega)
  have hbq : Below w.heap.size w ((w.alloc (Obj.cells (bytesRow (mkB t) cap) 5 ((bytesRow (mkB t) cap).size, (bytesRow (mkB t) cap).size + 1))).drew) := (below1 w _).drew
  refine (decode_any _ (byt (mkB t)) _ hsl (byt_by _) (HE.out.below hbq).t.tabs).mono ?_
  unfold DecPost
  rw [HBT.out, HD.out]
  rintro e w4 ⟨v, rfl, hv, hb⟩
  have H4 := Lib.hid (((PnS.refl HP.out).step hbq).step hb)
  obtain ⟨_, ao, cv, rfl, hcv, hh⟩ := hv
  rcases hh with ⟨h, _⟩ | ⟨g, off, rfl, _, hcell⟩
  · cases h
  have hc0 : w4.cell? ⟨g, off, none⟩ = some (.int .i64 ((c : Nat) : Int)) := hcell 0 (by simp)
  simp only [List.length_singleton] at hcv ⊢
  clear hsl hbq hb hconv hG hcap hcell
  go_wp2_with fail
  refine (name_any ((c : Nat) : Int) _ (HE.out.step H4.out).t.words).mono ?_
  rintro e w5 ⟨h | h, hb5⟩
  · obtain ⟨_, rfl⟩ := h
    have H5 := Lib.hid (H4.out.step hb5)
    clear hb5 hc0
    simp only [Int.toNat_natCast]
    have g1 : ¬ 9223372036854775807 < 2 + (mkB (nameA c)).size := by have := HNZ.out; omega
    have HX : Hid (By (35 :: 92 :: nameA c)) := Lib.hid (By.consN' (by omega) (By.consN' (by omega) HNB.out))
    go_wp2_with fail
    refine (w_str (t := 35 :: 92 :: nameA c) HM.out HX.out H5.out.pn (by have := HL.out; have := HNL.out; simp; omega)).mono ?_
    rintro e w6 ⟨rfl, h6⟩
    have H6 := Lib.hid (H5.out.trans h6)
    clear h6
    go_wp2_with fail
    go_end0
    exact ⟨rfl, H6.out⟩
  · rw [HSC.out] at h
    exact absurd h.1 (by simp)
set_option maxRecDepth 100000 in
set_option maxHeartbeats 4000000 in
theorem pd_4 (t : List Nat) (n : Bool) (r : List Nat) (a : Int) (l0 : Nat) (lv : Value) (ao : Option Addr) (cv0 : Nat) (b : Nat) (bs : List Nat) (w w0 : World) (hby : By t) (hlt : t.length ≤ 1100000) (h : Pn bs b w) (hl : bs.length ≤ 100000000000000) (hb : PrE w0 b w) :
    Calls Tryz.prog 39 #[.pointer (some ⟨b, 0, none⟩), .agg #[.int .i64 4, .string (mkB t), .bool n, lv, .slice ao l0 cv0, .int .i64 a]] w (PnP (bs ++ (Dm.mk 4 t n r [] a).tb) b w) := by
  have HLTB := Lib.hid h.lt
  have HP0 := Lib.hid ((PnS.refl h).step (below1 w (.cells #[.int .i64 4, .string (mkB t), .bool n, lv, .slice ao l0 cv0, .int .i64 a] 27)))
  have HE := Lib.hid (hb.below (below1 w (.cells #[.int .i64 4, .string (mkB t), .bool n, lv, .slice ao l0 cv0, .int .i64 a] 27)))
  have HL := Lib.hid hl
  have HT := Lib.hid hby
  have HLT := Lib.hid hlt
  have HZ : Hid ((mkB t).size ≤ 1100000) := Lib.hid (by rw [mkB_size]; exact hlt)
  have HV : Hid ((Dm.mk 4 t n r [] a).tb = t) := Lib.hid (by unfold Dm.tb; rw [tg_leaf (by omega)]; rfl)
  obtain ⟨a0, a1, a2, a3, a4, a5⟩ := row6 (box1 w #[.int .i64 4, .string (mkB t), .bool n, lv, .slice ao l0 cv0, .int .i64 a] 27)
  clear h hl hb hby hlt
  go_enter Tryz.func39, Tryz.ntmps39
  go_wp2_with fail
  have hgx : (w.alloc (.cells #[.int .i64 4, .string (mkB t), .bool n, lv, .slice ao l0 cv0, .int .i64 a] 27)).heap[w.heap.size]? = some (.cells #[.int .i64 4, .string (mkB t), .bool n, lv, .slice ao l0 cv0, .int .i64 a] 27 (0, 0)) := box1 w _ _
  have hne : w.heap.size ≠ b := by have := HLTB.out; omega
  go_region_held_law (fun W => W.cell? ⟨w.heap.size, 1, none⟩ = some (.string (mkB t))) (first | exact a1 | exact cell_heap hg1 1)
    (first
      | (go_simp; go_at_call 66; refine (w_str (t := t) rfl HT.out HP0.out.pn.drew (by have := HL.out; have := HLT.out; omega)).mono ?_; rintro e w1 ⟨rfl, h1⟩; have hg1 := h1.box (g := w.heap.size) hgx hne))
  all_goals
    go_wp2_with fail
    replace h1 := ((PnS.refl HP0.out.pn).step ((Below.refl _ _).drew)).trans h1
  go_end0
  exact ⟨rfl, by rw [HV.out]; exact HP0.out.trans h1⟩
set_option maxRecDepth 100000 in
set_option maxHeartbeats 4000000 in
theorem pd_5 (t : List Nat) (n : Bool) (r : List Nat) (a : Int) (l0 : Nat) (lv : Value) (ao : Option Addr) (cv0 : Nat) (b : Nat) (bs : List Nat) (w w0 : World) (hby : By t) (hlt : t.length ≤ 1100000) (h : Pn bs b w) (hl : bs.length ≤ 100000000000000) (hb : PrE w0 b w) :
    Calls Tryz.prog 39 #[.pointer (some ⟨b, 0, none⟩), .agg #[.int .i64 5, .string (mkB t), .bool n, lv, .slice ao l0 cv0, .int .i64 a]] w (PnP (bs ++ (Dm.mk 5 t n r [] a).tb) b w) := by
  have HP0 := Lib.hid ((PnS.refl h).step (below1 w (.cells #[.int .i64 5, .string (mkB t), .bool n, lv, .slice ao l0 cv0, .int .i64 a] 27)))
  have HE := Lib.hid (hb.below (below1 w (.cells #[.int .i64 5, .string (mkB t), .bool n, lv, .slice ao l0 cv0, .int .i64 a] 27)))
  have HL := Lib.hid hl
  have HT := Lib.hid hby
  have HLT := Lib.hid hlt
  have HZ : Hid ((mkB t).size ≤ 1100000) := Lib.hid (by rw [mkB_size]; exact hlt)
  have HV : Hid ((Dm.mk 5 t n r [] a).tb = quoT t) := Lib.hid (by unfold Dm.tb; rw [tg_leaf (by omega)]; rfl)
  obtain ⟨a0, a1, a2, a3, a4, a5⟩ := row6 (box1 w #[.int .i64 5, .string (mkB t), .bool n, lv, .slice ao l0 cv0, .int .i64 a] 27)
  clear h hl hb hby hlt
  go_enter Tryz.func39, Tryz.ntmps39
  go_wp2_with fail
  clear a0 a1 a2 a3 a4 a5
  refine (pquoted_any b bs (mkB t) _ (by have := HZ.out; omega) HP0.out.pn HL.out w0 HE.out).mono ?_
  rintro e w1 ⟨rfl, h1⟩
  go_wp2_with fail
  rw [byt_mk HT.out] at h1
  go_end0
  exact ⟨rfl, by rw [HV.out]; exact HP0.out.trans h1⟩
set_option maxRecDepth 100000 in
set_option maxHeartbeats 4000000 in
theorem pd_6 (t : List Nat) (n : Bool) (r : List Nat) (a : Int) (l0 : Nat) (lv : Value) (ao : Option Addr) (cv0 : Nat) (b : Nat) (bs : List Nat) (w w0 : World) (c : Nat) (hc : chars t 0 = ([c], none)) (hby : By t) (hlt : t.length ≤ 1100000) (h : Pn bs b w) (hl : bs.length ≤ 100000000000000) (hb : PrE w0 b w) :
    Calls Tryz.prog 39 #[.pointer (some ⟨b, 0, none⟩), .agg #[.int .i64 6, .string (mkB t), .bool n, lv, .slice ao l0 cv0, .int .i64 a]] w (PnP (bs ++ (Dm.mk 6 t n r [] a).tb) b w) := by
  have HC0 := Lib.hid (chA_ok hc)
  have HP0 := Lib.hid ((PnS.refl h).step (below1 w (.cells #[.int .i64 6, .string (mkB t), .bool n, lv, .slice ao l0 cv0, .int .i64 a] 27)))
  have HE := Lib.hid (hb.below (below1 w (.cells #[.int .i64 6, .string (mkB t), .bool n, lv, .slice ao l0 cv0, .int .i64 a] 27)))
  have HL := Lib.hid hl
  have HT := Lib.hid hby
  have HLT := Lib.hid hlt
  have HZ : Hid ((mkB t).size ≤ 1100000) := Lib.hid (by rw [mkB_size]; exact hlt)
  have HV : Hid ((Dm.mk 6 t n r [] a).tb = 35 :: 92 :: nameA c) := Lib.hid (by unfold Dm.tb; rw [tg_leaf (by omega)]; show 35 :: 92 :: nameA (limb (chA t).1 0) = _; rw [HC0.out]; rfl)
  obtain ⟨a0, a1, a2, a3, a4, a5⟩ := row6 (box1 w #[.int .i64 6, .string (mkB t), .bool n, lv, .slice ao l0 cv0, .int .i64 a] 27)
  clear h hl hb hby hlt
  go_enter Tryz.func39, Tryz.ntmps39
  go_wp2_with fail
  clear a0 a1 a2 a3 a4 a5
  refine (pchar_any b bs t c hc _ HT.out HP0.out.pn HL.out w0 HE.out).mono ?_
  rintro e w1 ⟨rfl, h1⟩
  go_wp2_with fail
  go_end0
  exact ⟨rfl, by rw [HV.out]; exact HP0.out.trans h1⟩
set_option maxRecDepth 100000 in
set_option maxHeartbeats 4000000 in
theorem pd_7 (t : List Nat) (n : Bool) (r : List Nat) (a : Int) (l0 : Nat) (lv : Value) (ao : Option Addr) (cv0 : Nat) (b : Nat) (bs : List Nat) (w w0 : World) (hs : Snd n r) (hsl : Sl .u32 w0 lv r) (hby : By t) (hlt : t.length ≤ 1100000) (h : Pn bs b w) (hl : bs.length ≤ 100000000000000) (hb : PrE w0 b w) :
    Calls Tryz.prog 39 #[.pointer (some ⟨b, 0, none⟩), .agg #[.int .i64 7, .string (mkB t), .bool n, lv, .slice ao l0 cv0, .int .i64 a]] w (PnP (bs ++ (Dm.mk 7 t n r [] a).tb) b w) := by
  have HN := Lib.hid (numT_mk n r)
  have HNS := Lib.hid hs
  have HNL := Lib.hid (numT_len hs)
  have HNB := Lib.hid (numT_by hs)
  have HSL := Lib.hid hsl
  have HLTB := Lib.hid h.lt
  obtain ⟨_, lo, lc, rfl, _⟩ := hsl
  have HP0 := Lib.hid ((PnS.refl h).step (below1 w (.cells #[.int .i64 7, .string (mkB t), .bool n, .slice lo r.length lc, .slice ao l0 cv0, .int .i64 a] 27)))
  have HE := Lib.hid (hb.below (below1 w (.cells #[.int .i64 7, .string (mkB t), .bool n, .slice lo r.length lc, .slice ao l0 cv0, .int .i64 a] 27)))
  have HL := Lib.hid hl
  have HT := Lib.hid hby
  have HLT := Lib.hid hlt
  have HZ : Hid ((mkB t).size ≤ 1100000) := Lib.hid (by rw [mkB_size]; exact hlt)
  have HV : Hid ((Dm.mk 7 t n r [] a).tb = numT n r) := Lib.hid (by unfold Dm.tb; rw [tg_leaf (by omega)]; rfl)
  obtain ⟨a0, a1, a2, a3, a4, a5⟩ := row6 (box1 w #[.int .i64 7, .string (mkB t), .bool n, .slice lo r.length lc, .slice ao l0 cv0, .int .i64 a] 27)
  clear h hl hb hby hlt
  go_enter Tryz.func39, Tryz.ntmps39
  go_wp2_with fail
  have hgx : (w.alloc (.cells #[.int .i64 7, .string (mkB t), .bool n, .slice lo r.length lc, .slice ao l0 cv0, .int .i64 a] 27)).heap[w.heap.size]? = some (.cells #[.int .i64 7, .string (mkB t), .bool n, .slice lo r.length lc, .slice ao l0 cv0, .int .i64 a] 27 (0, 0)) := box1 w _ _
  have hne : w.heap.size ≠ b := by have := HLTB.out; omega
  have HCC : Hid (∀ W : World, W.heap[w.heap.size]? = some (.cells #[.int .i64 7, .string (mkB t), .bool n, .slice lo r.length lc, .slice ao l0 cv0, .int .i64 a] 27 (0, 0)) → W.cell? ⟨w.heap.size, 2, none⟩ = some (.bool n) ∧ W.cell? ⟨w.heap.size, 3, none⟩ = some (.slice lo r.length lc)) := Lib.hid fun W h => ⟨cell_heap h 2, cell_heap h 3⟩
  go_region_held_law (fun W => W.cell? ⟨w.heap.size, 2, none⟩ = some (.bool n) ∧ W.cell? ⟨w.heap.size, 3, none⟩ = some (.slice lo r.length lc)) (first | exact ⟨a2, a3⟩ | exact HCC.out _ hg1 | exact HCC.out _ hg3)
    (first
      | (go_simp; go_at_call 69; refine (text_any n _ r _ (HSL.out.below HE.out.bel.drew) HNS.out (HE.out.t.pow)).mono ?_; rintro e w3 ⟨rfl, hb1⟩; have hg3 := (hb1.block w.heap.size (by simp)).trans hgx)
      | (go_simp; go_at_call 66; refine (w_str (t := numT n r) HN.out.symm HNB.out (HP0.out.pn.drew.below hb1) (by have := HL.out; have := HNL.out; omega)).mono ?_; rintro e w1 ⟨rfl, h1⟩; have hg1 := h1.box hg3 hne))
  all_goals
    go_wp2_with fail
    replace h1 := (((PnS.refl HP0.out.pn).step ((Below.refl _ _).drew)).step hb1).trans h1
  go_end0
  exact ⟨rfl, by rw [HV.out]; exact HP0.out.trans h1⟩
set_option maxRecDepth 100000 in
set_option maxHeartbeats 4000000 in
theorem pd_8 (t : List Nat) (n : Bool) (r : List Nat) (a : Int) (l0 : Nat) (lv : Value) (ao : Option Addr) (cv0 : Nat) (b : Nat) (bs : List Nat) (w w0 : World) (hby : By t) (hlt : t.length ≤ 1100000) (h : Pn bs b w) (hl : bs.length ≤ 100000000000000) (hb : PrE w0 b w) :
    Calls Tryz.prog 39 #[.pointer (some ⟨b, 0, none⟩), .agg #[.int .i64 8, .string (mkB t), .bool n, lv, .slice ao l0 cv0, .int .i64 a]] w (PnP (bs ++ (Dm.mk 8 t n r [] a).tb) b w) := by
  have HP0 := Lib.hid ((PnS.refl h).step (below1 w (.cells #[.int .i64 8, .string (mkB t), .bool n, lv, .slice ao l0 cv0, .int .i64 a] 27)))
  have HE := Lib.hid (hb.below (below1 w (.cells #[.int .i64 8, .string (mkB t), .bool n, lv, .slice ao l0 cv0, .int .i64 a] 27)))
  have HL := Lib.hid hl
  have HT := Lib.hid hby
  have HLT := Lib.hid hlt
  have HZ : Hid ((mkB t).size ≤ 1100000) := Lib.hid (by rw [mkB_size]; exact hlt)
  have HV : Hid ((Dm.mk 8 t n r [] a).tb = [35, 116]) := Lib.hid (by unfold Dm.tb; rw [tg_leaf (by omega)]; rfl)
  obtain ⟨a0, a1, a2, a3, a4, a5⟩ := row6 (box1 w #[.int .i64 8, .string (mkB t), .bool n, lv, .slice ao l0 cv0, .int .i64 a] 27)
  clear h hl hb hby hlt
  go_enter Tryz.func39, Tryz.ntmps39
  go_wp2_with fail
  clear a0 a1 a2 a3 a4 a5
  refine (w_str (t := [35, 116]) rfl (by_of (by decide)) HP0.out.pn (by have := HL.out; simp; omega)).mono ?_
  rintro e w1 ⟨rfl, h1⟩
  go_wp2_with fail
  go_end0
  exact ⟨rfl, by rw [HV.out]; exact HP0.out.trans h1⟩
set_option maxRecDepth 100000 in
set_option maxHeartbeats 4000000 in
theorem pd_9 (t : List Nat) (n : Bool) (r : List Nat) (a : Int) (l0 : Nat) (lv : Value) (ao : Option Addr) (cv0 : Nat) (b : Nat) (bs : List Nat) (w w0 : World) (hby : By t) (hlt : t.length ≤ 1100000) (h : Pn bs b w) (hl : bs.length ≤ 100000000000000) (hb : PrE w0 b w) :
    Calls Tryz.prog 39 #[.pointer (some ⟨b, 0, none⟩), .agg #[.int .i64 9, .string (mkB t), .bool n, lv, .slice ao l0 cv0, .int .i64 a]] w (PnP (bs ++ (Dm.mk 9 t n r [] a).tb) b w) := by
  have HP0 := Lib.hid ((PnS.refl h).step (below1 w (.cells #[.int .i64 9, .string (mkB t), .bool n, lv, .slice ao l0 cv0, .int .i64 a] 27)))
  have HE := Lib.hid (hb.below (below1 w (.cells #[.int .i64 9, .string (mkB t), .bool n, lv, .slice ao l0 cv0, .int .i64 a] 27)))
  have HL := Lib.hid hl
  have HT := Lib.hid hby
  have HLT := Lib.hid hlt
  have HZ : Hid ((mkB t).size ≤ 1100000) := Lib.hid (by rw [mkB_size]; exact hlt)
  have HV : Hid ((Dm.mk 9 t n r [] a).tb = [35, 102]) := Lib.hid (by unfold Dm.tb; rw [tg_leaf (by omega)]; rfl)
  obtain ⟨a0, a1, a2, a3, a4, a5⟩ := row6 (box1 w #[.int .i64 9, .string (mkB t), .bool n, lv, .slice ao l0 cv0, .int .i64 a] 27)
  clear h hl hb hby hlt
  go_enter Tryz.func39, Tryz.ntmps39
  go_wp2_with fail
  clear a0 a1 a2 a3 a4 a5
  refine (w_str (t := [35, 102]) rfl (by_of (by decide)) HP0.out.pn (by have := HL.out; simp; omega)).mono ?_
  rintro e w1 ⟨rfl, h1⟩
  go_wp2_with fail
  go_end0
  exact ⟨rfl, by rw [HV.out]; exact HP0.out.trans h1⟩
set_option maxRecDepth 100000 in
set_option maxHeartbeats 4000000 in
theorem pd_10 (t : List Nat) (n : Bool) (r : List Nat) (a : Int) (l0 : Nat) (lv : Value) (ao : Option Addr) (cv0 : Nat) (b : Nat) (bs : List Nat) (w w0 : World) (hby : By t) (hlt : t.length ≤ 1100000) (h : Pn bs b w) (hl : bs.length ≤ 100000000000000) (hb : PrE w0 b w) :
    Calls Tryz.prog 39 #[.pointer (some ⟨b, 0, none⟩), .agg #[.int .i64 10, .string (mkB t), .bool n, lv, .slice ao l0 cv0, .int .i64 a]] w (PnP (bs ++ (Dm.mk 10 t n r [] a).tb) b w) := by
  have HP0 := Lib.hid ((PnS.refl h).step (below1 w (.cells #[.int .i64 10, .string (mkB t), .bool n, lv, .slice ao l0 cv0, .int .i64 a] 27)))
  have HE := Lib.hid (hb.below (below1 w (.cells #[.int .i64 10, .string (mkB t), .bool n, lv, .slice ao l0 cv0, .int .i64 a] 27)))
  have HL := Lib.hid hl
  have HT := Lib.hid hby
  have HLT := Lib.hid hlt
  have HZ : Hid ((mkB t).size ≤ 1100000) := Lib.hid (by rw [mkB_size]; exact hlt)
  have HV : Hid ((Dm.mk 10 t n r [] a).tb = 35 :: 60 :: ([118, 111, 105, 100] ++ [62])) := Lib.hid (by unfold Dm.tb; rw [tg_leaf (by omega)]; rfl)
  obtain ⟨a0, a1, a2, a3, a4, a5⟩ := row6 (box1 w #[.int .i64 10, .string (mkB t), .bool n, lv, .slice ao l0 cv0, .int .i64 a] 27)
  clear h hl hb hby hlt
  go_enter Tryz.func39, Tryz.ntmps39
  go_wp2_with fail
  clear a0 a1 a2 a3 a4 a5
  refine (strange_any b bs [118, 111, 105, 100] _ (by_of (by decide)) (by simp) HP0.out.pn HL.out).mono ?_
  rintro e w1 ⟨rfl, h1⟩
  go_wp2_with fail
  go_end0
  exact ⟨rfl, by rw [HV.out]; exact HP0.out.trans h1⟩
set_option maxRecDepth 100000 in
set_option maxHeartbeats 4000000 in
theorem pd_11 (t : List Nat) (n : Bool) (r : List Nat) (a : Int) (l0 : Nat) (lv : Value) (ao : Option Addr) (cv0 : Nat) (b : Nat) (bs : List Nat) (w w0 : World) (hby : By t) (hlt : t.length ≤ 1100000) (h : Pn bs b w) (hl : bs.length ≤ 100000000000000) (hb : PrE w0 b w) :
    Calls Tryz.prog 39 #[.pointer (some ⟨b, 0, none⟩), .agg #[.int .i64 11, .string (mkB t), .bool n, lv, .slice ao l0 cv0, .int .i64 a]] w (PnP (bs ++ (Dm.mk 11 t n r [] a).tb) b w) := by
  have HP0 := Lib.hid ((PnS.refl h).step (below1 w (.cells #[.int .i64 11, .string (mkB t), .bool n, lv, .slice ao l0 cv0, .int .i64 a] 27)))
  have HE := Lib.hid (hb.below (below1 w (.cells #[.int .i64 11, .string (mkB t), .bool n, lv, .slice ao l0 cv0, .int .i64 a] 27)))
  have HL := Lib.hid hl
  have HT := Lib.hid hby
  have HLT := Lib.hid hlt
  have HZ : Hid ((mkB t).size ≤ 1100000) := Lib.hid (by rw [mkB_size]; exact hlt)
  have HV : Hid ((Dm.mk 11 t n r [] a).tb = 35 :: 60 :: (t ++ [62])) := Lib.hid (by unfold Dm.tb; rw [tg_leaf (by omega)]; rfl)
  obtain ⟨a0, a1, a2, a3, a4, a5⟩ := row6 (box1 w #[.int .i64 11, .string (mkB t), .bool n, lv, .slice ao l0 cv0, .int .i64 a] 27)
  clear h hl hb hby hlt
  go_enter Tryz.func39, Tryz.ntmps39
  go_wp2_with fail
  clear a0 a1 a2 a3 a4 a5
  refine (strange_any b bs t _ HT.out (by have := HLT.out; omega) HP0.out.pn HL.out).mono ?_
  rintro e w1 ⟨rfl, h1⟩
  go_wp2_with fail
  go_end0
  exact ⟨rfl, by rw [HV.out]; exact HP0.out.trans h1⟩
end Go.Proofs.YtpahfhjgcflifaaGreatDoor
namespace Go.Proofs.YtpahfhjgcflifaaGreatDoor
open Go.RowKit

theorem Lay.slots {w : World} {d : Dm} {us : List Value} (h : Lay w d us) : ∃ (k : Int) (t : ByteArray) (n : Bool) (o1 : Option Addr) (n1 c1 : Nat) (o2 : Option Addr) (n2 c2 : Nat) (a : Int), us = [.int .i64 k, .string t, .bool n, .slice o1 n1 c1, .slice o2 n2 c2, .int .i64 a] := by
  obtain ⟨lv, av, vs, rfl, _, _, _, hs, hr, _⟩ := h.open'
  obtain ⟨_, o1, c1, rfl, _⟩ := hs
  obtain ⟨_, _, o2, c2, rfl, _⟩ := hr
  exact ⟨_, _, _, _, _, _, _, _, _, _, rfl⟩
set_option maxRecDepth 100000 in
set_option maxHeartbeats 8000000 in
/-- A list, between parentheses. -/
theorem plist_any (k : Int) (dt : Bool) (hk2 : (k == 2) = dt) (t : List Nat) (n : Bool) (r : List Nat) (l : List Dm) (a : Int) (lv : Value) (ao : Option Addr) (cv0 : Nat) (b : Nat) (bs : List Nat) (w w0 : World) (xs : List Value) (hrow : RowV w0 (.slice ao l.length cv0) l.length 6 xs) (hin : ∀ (i : Nat) (h : i < l.length), Lay w0 (l[i]'h) ((xs.drop (i * 6)).take 6))
    (hlen : ∀ (j : Nat) (hj : j < l.length), ((l[j]'hj).tb).length + 10 ≤ (l[j]'hj).sz * 6000000) (h : Pn bs b w) (hl : bs.length + 100 + szs l l.length * 6000000 ≤ 100000000000000) (hb : PrE w0 b w)
    (ih : ∀ (j : Nat) (hj : j < l.length) (bs : List Nat) (us : List Value) (w : World), Lay w0 (l[j]'hj) us → Pn bs b w → bs.length + (l[j]'hj).sz * 6000000 ≤ 100000000000000 → PrE w0 b w → Calls Tryz.prog 39 #[.pointer (some ⟨b, 0, none⟩), .agg us.toArray] w (PnP (bs ++ (l[j]'hj).tb) b w)) :
    Calls Tryz.prog 64 #[.pointer (some ⟨b, 0, none⟩), .agg #[.int .i64 k, .string (mkB t), .bool n, lv, .slice ao l.length cv0, .int .i64 a]] w (PnP (bs ++ 40 :: (preT dt l.length (l.map (Dm.tg leafB)) l.length ++ [41])) b w) := by
  have HIH := Lib.hid ih
  have HIN := Lib.hid hin
  have HRW := Lib.hid hrow
  have HLN := Lib.hid hlen
  have HL := Lib.hid hl
  have HLL : Hid (l.length ≤ 9223372036854775807) := Lib.hid (by have := hrow.2.1; unfold maxLen at this; omega)
  have HPL := Lib.hid (fun i (hi : i ≤ l.length) => preT_len (dot := dt) (n := l.length) (g := leafB) (l := l) hlen i hi)
  have HP0 := Lib.hid ((PnS.refl h).step (below1 w (.cells #[.int .i64 k, .string (mkB t), .bool n, lv, .slice ao l.length cv0, .int .i64 a] 27)))
  have HE0 := Lib.hid (hb.below (below1 w (.cells #[.int .i64 k, .string (mkB t), .bool n, lv, .slice ao l.length cv0, .int .i64 a] 27)))
  generalize hX : l.map (Dm.tg leafB) = X at *
  have HX : Hid (∀ (i : Nat) (h : i < l.length), X.getD i [] = (l[i]'h).tb) := Lib.hid fun i h => by rw [← hX]; exact getD_map h
  have HGX := Lib.hid (box1 w #[.int .i64 k, .string (mkB t), .bool n, lv, .slice ao l.length cv0, .int .i64 a] 27)
  have HNE : Hid (w.heap.size ≠ b) := Lib.hid (by have := h.lt; omega)
  have HK2 := Lib.hid hk2
  clear ih hin hrow hlen h hl hb hX hk2
  obtain ⟨a0, a1, a2, a3, a4, a5⟩ := row6 HGX.out
  go_enter Tryz.func64, Tryz.ntmps64
  go_wp2_with fail
  clear a0 a1 a2 a3 a4 a5
  refine (w_byte (c := 40) HP0.out.pn (by have := HL.out; omega)).mono ?_
  rintro e w1 ⟨rfl, h1⟩
  have HG1 := Lib.hid (h1.box HGX.out HNE.out)
  have H1 := Lib.hid (HP0.out.trans h1)
  have HE1 := Lib.hid (HE0.out.step h1)
  clear h1
  obtain ⟨a0, a1, a2, a3, a4, a5⟩ := row6 HG1.out
  have hmx := HLL.out
  go_wp2_with fail
  clear a0 a1 a2 a3 a4 a5
  go_loopw [18] (fun i wr => ∃ q : Nat, q ≤ l.length ∧ i = .int .i64 (q : Nat) ∧ PnS (bs ++ 40 :: preT dt l.length X q) b w1 wr ∧ wr.heap[w.heap.size]? = some (.cells #[.int .i64 k, .string (mkB t), .bool n, lv, .slice ao l.length cv0, .int .i64 a] 27 (0, 0))) (fun i _ => l.length - (intOf i).toNat)
  case atStart => exact ⟨0, Nat.zero_le _, rfl, PnS.refl H1.out.pn, HG1.out⟩
  case round =>
    obtain ⟨q, hq, rfl, hpn, hgr⟩ := hrel
    have HR := Lib.hid hpn
    have HER := Lib.hid (HE1.out.step hpn)
    have HGR := Lib.hid hgr
    clear hpn hgr
    by_cases hqn : q < l.length
    · have hii : ((q : Nat) : Int) < ((l.length : Nat) : Int) := by omega
      obtain ⟨b2, off, cap, v0, v1, v2, v3, v4, v5, hav, _, hlt2, hly, p0, p1, p2, p3, p4, p5⟩ := row_datum HRW.out HIN.out hqn
      rw [← HER.out.bel.cell (p := ⟨b2, off + q * 6, none⟩) hlt2] at p0
      rw [← HER.out.bel.cell (p := ⟨b2, off + q * 6 + 1, none⟩) hlt2] at p1
      rw [← HER.out.bel.cell (p := ⟨b2, off + q * 6 + 2, none⟩) hlt2] at p2
      rw [← HER.out.bel.cell (p := ⟨b2, off + q * 6 + 3, none⟩) hlt2] at p3
      rw [← HER.out.bel.cell (p := ⟨b2, off + q * 6 + 4, none⟩) hlt2] at p4
      rw [← HER.out.bel.cell (p := ⟨b2, off + q * 6 + 5, none⟩) hlt2] at p5
      simp only [Value.slice.injEq, true_and] at hav
      obtain ⟨rfl, rfl⟩ := hav
      obtain ⟨k2, t2, n2, o3, m3, c3, o4, m4, c4, a2, e1⟩ := hly.slots
      simp only [List.cons.injEq, and_true] at e1
      obtain ⟨rfl, rfl, rfl, rfl, rfl, rfl⟩ := e1
      have HY := Lib.hid hly
      clear hly
      have HSZ : Hid ((l[q]'hqn).sz + szs l q ≤ szs l l.length) := Lib.hid (by
        have e := szs_succ (l := l) hqn
        have := szs_mono (l := l) (i := q + 1) (j := l.length) (by omega) (Nat.le_refl _)
        omega)
      have HPS := Lib.hid (preT_succ dt l.length X q)
      obtain ⟨A, hA⟩ : ∃ A, A = bs ++ 40 :: preT dt l.length X q := ⟨_, rfl⟩
      have HAL : Hid (A.length ≤ bs.length + 1 + szs l q * 6000000) := Lib.hid (by
        have := HPL.out q hq
        rw [hA, List.length_append]
        simp only [List.length_cons]
        omega)
      rw [← hA] at HR
      have HA := Lib.hid hA
      clear hA
      obtain ⟨g0, _, _, _, g4, _⟩ := row6 HGR.out
      have HGB := Lib.hid (below1 wr (.cells #[.int .i64 k2, .string t2, .bool n2, .slice o3 m3 c3, .slice o4 m4 c4, .int .i64 a2] 27))
      have HBX := Lib.hid (box1 wr #[.int .i64 k2, .string t2, .bool n2, .slice o3 m3 c3, .slice o4 m4 c4, .int .i64 a2] 27)
      have HNB : Hid (wr.heap.size ≠ b) := Lib.hid (by have := HR.out.pn.lt; omega)
      have HSA := Lib.hid (HR.out.step HGB.out)
      have HEA := Lib.hid (HER.out.below HGB.out)
      have HGA := Lib.hid ((HGB.out.block w.heap.size (by have := HGR.out; exact (Array.getElem?_eq_some_iff.1 this).1)).trans HGR.out)
      by_cases hlq : q + 1 = l.length
      · by_cases hd : dt = true
        · by_cases hq0 : 0 < q
          · skip
            have HSP : Hid (sepT dt l.length q = [32, 46, 32]) := Lib.hid (by unfold sepT; rw [if_pos hq0, if_pos ⟨hd, hlq⟩]; rfl)
            have HST : Hid (A ++ [32, 46, 32] ++ (l[q]'hqn).tb = bs ++ 40 :: preT dt l.length X (q + 1)) := Lib.hid (by rw [HPS.out, HSP.out, HX.out q hqn, HA.out]; simp)
            have hqi : (0 : Int) < ((q : Nat) : Int) := by omega
            have he : (((q : Nat) : Int) == ((l.length : Nat) : Int) - 1) = true := by simp; omega
            have hkk : (k == 2) = true := by rw [HK2.out]; exact hd
            clear hq0 hlq hd
            go_wp2_with fail
            clear p0 p1 p2 p3 p4 p5 g0 g4
            refine (w_byte (c := 32) HSA.out.pn (by have := HL.out; have := HAL.out; have := HSZ.out; simp; omega)).mono ?_
            rintro e w3 ⟨rfl, h3⟩
            have HG3 := Lib.hid (h3.box HGA.out HNE.out)
            have HB3 := Lib.hid (h3.box HBX.out HNB.out)
            have HS3 := Lib.hid (HSA.out.trans h3)
            have HE3 := Lib.hid (HEA.out.step h3)
            clear h3
            obtain ⟨x0, x1, x2, x3, x4, x5⟩ := row6 HB3.out
            obtain ⟨g0, _, _, _, _, _⟩ := row6 HG3.out
            go_wp2_with fail
            clear g0
            clear x0 x1 x2 x3 x4 x5
            refine (w_str (t := [46, 32]) rfl (by_of (by decide)) HS3.out.pn (by have := HL.out; have := HAL.out; have := HSZ.out; simp; omega)).mono ?_
            rintro e w4 ⟨rfl, h4⟩
            have HG4 := Lib.hid (h4.box HG3.out HNE.out)
            have HB4 := Lib.hid (h4.box HB3.out HNB.out)
            have HS4 := Lib.hid (HS3.out.trans h4)
            have HE4 := Lib.hid (HE3.out.step h4)
            clear h4
            obtain ⟨x0, x1, x2, x3, x4, x5⟩ := row6 HB4.out
            go_wp2_with fail
            clear x0 x1 x2 x3 x4 x5
            refine (HIH.out q hqn ((A ++ [32]) ++ [46, 32]) [.int .i64 k2, .string t2, .bool n2, .slice o3 m3 c3, .slice o4 m4 c4, .int .i64 a2] _ HY.out HS4.out.pn (by have := HL.out; have := HAL.out; have := HSZ.out; simp; omega) HE4.out).mono ?_
            rintro e w5 ⟨rfl, h5⟩
            have HG5 := Lib.hid (h5.box HG4.out HNE.out)
            have HS5 := Lib.hid (HS4.out.trans h5)
            have HFE : ((A ++ [32]) ++ [46, 32]) ++ (l[q]'hqn).tb = bs ++ 40 :: preT dt l.length X (q + 1) := by have := HST.out; simpa using this
            rw [HFE] at HS5
            clear h5 HFE
            go_wp2_with fail
            go_roundw
            case measure => simp only [intOf]; omega
            case rel => exact ⟨q + 1, by omega, by go_num, HS5.out, HG5.out⟩
          · skip
            have HSP : Hid (sepT dt l.length q = [46, 32]) := Lib.hid (by unfold sepT; rw [if_neg hq0, if_pos ⟨hd, hlq⟩]; rfl)
            have HST : Hid (A ++ [46, 32] ++ (l[q]'hqn).tb = bs ++ 40 :: preT dt l.length X (q + 1)) := Lib.hid (by rw [HPS.out, HSP.out, HX.out q hqn, HA.out]; simp)
            have hqi : ¬ (0 : Int) < ((q : Nat) : Int) := by omega
            have he : (((q : Nat) : Int) == ((l.length : Nat) : Int) - 1) = true := by simp; omega
            have hkk : (k == 2) = true := by rw [HK2.out]; exact hd
            clear hq0 hlq hd
            obtain ⟨x0, x1, x2, x3, x4, x5⟩ := row6 HBX.out
            obtain ⟨g0, _, _, _, g4, _⟩ := row6 HGA.out
            go_wp2_with fail
            clear p0 p1 p2 p3 p4 p5 g0 g4
            clear x0 x1 x2 x3 x4 x5
            refine (w_str (t := [46, 32]) rfl (by_of (by decide)) HSA.out.pn (by have := HL.out; have := HAL.out; have := HSZ.out; simp; omega)).mono ?_
            rintro e w4 ⟨rfl, h4⟩
            have HG4 := Lib.hid (h4.box HGA.out HNE.out)
            have HB4 := Lib.hid (h4.box HBX.out HNB.out)
            have HS4 := Lib.hid (HSA.out.trans h4)
            have HE4 := Lib.hid (HEA.out.step h4)
            clear h4
            obtain ⟨x0, x1, x2, x3, x4, x5⟩ := row6 HB4.out
            go_wp2_with fail
            clear x0 x1 x2 x3 x4 x5
            refine (HIH.out q hqn (A ++ [46, 32]) [.int .i64 k2, .string t2, .bool n2, .slice o3 m3 c3, .slice o4 m4 c4, .int .i64 a2] _ HY.out HS4.out.pn (by have := HL.out; have := HAL.out; have := HSZ.out; simp; omega) HE4.out).mono ?_
            rintro e w5 ⟨rfl, h5⟩
            have HG5 := Lib.hid (h5.box HG4.out HNE.out)
            have HS5 := Lib.hid (HS4.out.trans h5)
            have HFE : (A ++ [46, 32]) ++ (l[q]'hqn).tb = bs ++ 40 :: preT dt l.length X (q + 1) := by have := HST.out; simpa using this
            rw [HFE] at HS5
            clear h5 HFE
            go_wp2_with fail
            go_roundw
            case measure => simp only [intOf]; omega
            case rel => exact ⟨q + 1, by omega, by go_num, HS5.out, HG5.out⟩
        · by_cases hq0 : 0 < q
          · skip
            have HSP : Hid (sepT dt l.length q = [32]) := Lib.hid (by unfold sepT; rw [if_pos hq0, if_neg (by rintro ⟨h, _⟩; exact hd h)]; rfl)
            have HST : Hid (A ++ [32] ++ (l[q]'hqn).tb = bs ++ 40 :: preT dt l.length X (q + 1)) := Lib.hid (by rw [HPS.out, HSP.out, HX.out q hqn, HA.out]; simp)
            have hqi : (0 : Int) < ((q : Nat) : Int) := by omega
            have he : (((q : Nat) : Int) == ((l.length : Nat) : Int) - 1) = true := by simp; omega
            have hkk : (k == 2) = false := by rw [HK2.out]; simpa using hd
            clear hq0 hlq hd
            go_wp2_with fail
            clear p0 p1 p2 p3 p4 p5 g0 g4
            refine (w_byte (c := 32) HSA.out.pn (by have := HL.out; have := HAL.out; have := HSZ.out; simp; omega)).mono ?_
            rintro e w3 ⟨rfl, h3⟩
            have HG3 := Lib.hid (h3.box HGA.out HNE.out)
            have HB3 := Lib.hid (h3.box HBX.out HNB.out)
            have HS3 := Lib.hid (HSA.out.trans h3)
            have HE3 := Lib.hid (HEA.out.step h3)
            clear h3
            obtain ⟨x0, x1, x2, x3, x4, x5⟩ := row6 HB3.out
            obtain ⟨g0, _, _, _, _, _⟩ := row6 HG3.out
            go_wp2_with fail
            clear g0
            clear x0 x1 x2 x3 x4 x5
            refine (HIH.out q hqn (A ++ [32]) [.int .i64 k2, .string t2, .bool n2, .slice o3 m3 c3, .slice o4 m4 c4, .int .i64 a2] _ HY.out HS3.out.pn (by have := HL.out; have := HAL.out; have := HSZ.out; simp; omega) HE3.out).mono ?_
            rintro e w5 ⟨rfl, h5⟩
            have HG5 := Lib.hid (h5.box HG3.out HNE.out)
            have HS5 := Lib.hid (HS3.out.trans h5)
            have HFE : (A ++ [32]) ++ (l[q]'hqn).tb = bs ++ 40 :: preT dt l.length X (q + 1) := by have := HST.out; simpa using this
            rw [HFE] at HS5
            clear h5 HFE
            go_wp2_with fail
            go_roundw
            case measure => simp only [intOf]; omega
            case rel => exact ⟨q + 1, by omega, by go_num, HS5.out, HG5.out⟩
          · skip
            have HSP : Hid (sepT dt l.length q = []) := Lib.hid (by unfold sepT; rw [if_neg hq0, if_neg (by rintro ⟨h, _⟩; exact hd h)]; rfl)
            have HST : Hid (A ++ [] ++ (l[q]'hqn).tb = bs ++ 40 :: preT dt l.length X (q + 1)) := Lib.hid (by rw [HPS.out, HSP.out, HX.out q hqn, HA.out]; simp)
            have hqi : ¬ (0 : Int) < ((q : Nat) : Int) := by omega
            have he : (((q : Nat) : Int) == ((l.length : Nat) : Int) - 1) = true := by simp; omega
            have hkk : (k == 2) = false := by rw [HK2.out]; simpa using hd
            clear hq0 hlq hd
            obtain ⟨x0, x1, x2, x3, x4, x5⟩ := row6 HBX.out
            obtain ⟨g0, _, _, _, g4, _⟩ := row6 HGA.out
            go_wp2_with fail
            clear p0 p1 p2 p3 p4 p5 g0 g4
            clear x0 x1 x2 x3 x4 x5
            refine (HIH.out q hqn A [.int .i64 k2, .string t2, .bool n2, .slice o3 m3 c3, .slice o4 m4 c4, .int .i64 a2] _ HY.out HSA.out.pn (by have := HL.out; have := HAL.out; have := HSZ.out; simp; omega) HEA.out).mono ?_
            rintro e w5 ⟨rfl, h5⟩
            have HG5 := Lib.hid (h5.box HGA.out HNE.out)
            have HS5 := Lib.hid (HSA.out.trans h5)
            have HFE : A ++ (l[q]'hqn).tb = bs ++ 40 :: preT dt l.length X (q + 1) := by have := HST.out; simpa using this
            rw [HFE] at HS5
            clear h5 HFE
            go_wp2_with fail
            go_roundw
            case measure => simp only [intOf]; omega
            case rel => exact ⟨q + 1, by omega, by go_num, HS5.out, HG5.out⟩
      · by_cases hq0 : 0 < q
        · skip
          have HSP : Hid (sepT dt l.length q = [32]) := Lib.hid (by unfold sepT; rw [if_pos hq0, if_neg (by rintro ⟨_, h⟩; exact hlq h)]; rfl)
          have HST : Hid (A ++ [32] ++ (l[q]'hqn).tb = bs ++ 40 :: preT dt l.length X (q + 1)) := Lib.hid (by rw [HPS.out, HSP.out, HX.out q hqn, HA.out]; simp)
          have hqi : (0 : Int) < ((q : Nat) : Int) := by omega
          have he : (((q : Nat) : Int) == ((l.length : Nat) : Int) - 1) = false := by simp; omega
          clear hq0 hlq
          go_wp2_with fail
          clear p0 p1 p2 p3 p4 p5 g0 g4
          refine (w_byte (c := 32) HSA.out.pn (by have := HL.out; have := HAL.out; have := HSZ.out; simp; omega)).mono ?_
          rintro e w3 ⟨rfl, h3⟩
          have HG3 := Lib.hid (h3.box HGA.out HNE.out)
          have HB3 := Lib.hid (h3.box HBX.out HNB.out)
          have HS3 := Lib.hid (HSA.out.trans h3)
          have HE3 := Lib.hid (HEA.out.step h3)
          clear h3
          obtain ⟨x0, x1, x2, x3, x4, x5⟩ := row6 HB3.out
          obtain ⟨g0, _, _, _, _, _⟩ := row6 HG3.out
          go_wp2_with fail
          clear g0
          clear x0 x1 x2 x3 x4 x5
          refine (HIH.out q hqn (A ++ [32]) [.int .i64 k2, .string t2, .bool n2, .slice o3 m3 c3, .slice o4 m4 c4, .int .i64 a2] _ HY.out HS3.out.pn (by have := HL.out; have := HAL.out; have := HSZ.out; simp; omega) HE3.out).mono ?_
          rintro e w5 ⟨rfl, h5⟩
          have HG5 := Lib.hid (h5.box HG3.out HNE.out)
          have HS5 := Lib.hid (HS3.out.trans h5)
          have HFE : (A ++ [32]) ++ (l[q]'hqn).tb = bs ++ 40 :: preT dt l.length X (q + 1) := by have := HST.out; simpa using this
          rw [HFE] at HS5
          clear h5 HFE
          go_wp2_with fail
          go_roundw
          case measure => simp only [intOf]; omega
          case rel => exact ⟨q + 1, by omega, by go_num, HS5.out, HG5.out⟩
        · skip
          have HSP : Hid (sepT dt l.length q = []) := Lib.hid (by unfold sepT; rw [if_neg hq0, if_neg (by rintro ⟨_, h⟩; exact hlq h)]; rfl)
          have HST : Hid (A ++ [] ++ (l[q]'hqn).tb = bs ++ 40 :: preT dt l.length X (q + 1)) := Lib.hid (by rw [HPS.out, HSP.out, HX.out q hqn, HA.out]; simp)
          have hqi : ¬ (0 : Int) < ((q : Nat) : Int) := by omega
          have he : (((q : Nat) : Int) == ((l.length : Nat) : Int) - 1) = false := by simp; omega
          clear hq0 hlq
          obtain ⟨x0, x1, x2, x3, x4, x5⟩ := row6 HBX.out
          obtain ⟨g0, _, _, _, g4, _⟩ := row6 HGA.out
          go_wp2_with fail
          clear p0 p1 p2 p3 p4 p5 g0 g4
          clear x0 x1 x2 x3 x4 x5
          refine (HIH.out q hqn A [.int .i64 k2, .string t2, .bool n2, .slice o3 m3 c3, .slice o4 m4 c4, .int .i64 a2] _ HY.out HSA.out.pn (by have := HL.out; have := HAL.out; have := HSZ.out; simp; omega) HEA.out).mono ?_
          rintro e w5 ⟨rfl, h5⟩
          have HG5 := Lib.hid (h5.box HGA.out HNE.out)
          have HS5 := Lib.hid (HSA.out.trans h5)
          have HFE : A ++ (l[q]'hqn).tb = bs ++ 40 :: preT dt l.length X (q + 1) := by have := HST.out; simpa using this
          rw [HFE] at HS5
          clear h5 HFE
          go_wp2_with fail
          go_roundw
          case measure => simp only [intOf]; omega
          case rel => exact ⟨q + 1, by omega, by go_num, HS5.out, HG5.out⟩
    · obtain rfl : q = l.length := by omega
      go_wp2_with fail
      refine (w_byte (c := 41) HR.out.pn (by have := HL.out; have := HPL.out l.length (Nat.le_refl _); rw [List.length_append]; simp only [List.length_cons]; omega)).mono ?_
      rintro e w3 ⟨rfl, h3⟩
      have H3 := Lib.hid (H1.out.trans (HR.out.trans h3))
      clear h3
      go_wp2_with fail
      go_end0
      exact ⟨rfl, by rw [← List.cons_append, ← List.append_assoc]; exact H3.out⟩
set_option maxRecDepth 100000 in
set_option maxHeartbeats 4000000 in
theorem pdn_1 (t : List Nat) (n : Bool) (r : List Nat) (l : List Dm) (a : Int) (lv : Value) (ao : Option Addr) (cv0 : Nat) (b : Nat) (bs : List Nat) (w w0 : World) (xs : List Value) (hrow : RowV w0 (.slice ao l.length cv0) l.length 6 xs) (hin : ∀ (i : Nat) (h : i < l.length), Lay w0 (l[i]'h) ((xs.drop (i * 6)).take 6))
    (hlen : ∀ (j : Nat) (hj : j < l.length), ((l[j]'hj).tb).length + 10 ≤ (l[j]'hj).sz * 6000000) (h : Pn bs b w) (hl : bs.length + 1000 + szs l l.length * 6000000 ≤ 100000000000000) (hb : PrE w0 b w)
    (ih : ∀ (j : Nat) (hj : j < l.length) (bs : List Nat) (us : List Value) (w : World), Lay w0 (l[j]'hj) us → Pn bs b w → bs.length + (l[j]'hj).sz * 6000000 ≤ 100000000000000 → PrE w0 b w → Calls Tryz.prog 39 #[.pointer (some ⟨b, 0, none⟩), .agg us.toArray] w (PnP (bs ++ (l[j]'hj).tb) b w)) :
    Calls Tryz.prog 39 #[.pointer (some ⟨b, 0, none⟩), .agg #[.int .i64 1, .string (mkB t), .bool n, lv, .slice ao l.length cv0, .int .i64 a]] w (PnP (bs ++ (Dm.mk 1 t n r l a).tb) b w) := by
  have HP0 := Lib.hid ((PnS.refl h).step (below1 w (.cells #[.int .i64 1, .string (mkB t), .bool n, lv, .slice ao l.length cv0, .int .i64 a] 27)))
  have HE := Lib.hid (hb.below (below1 w (.cells #[.int .i64 1, .string (mkB t), .bool n, lv, .slice ao l.length cv0, .int .i64 a] 27)))
  have HV : Hid ((Dm.mk 1 t n r l a).tb = 40 :: (preT false l.length (l.map (Dm.tg leafB)) l.length ++ [41])) := Lib.hid (by
    unfold Dm.tb
    rw [tg_node (by omega)]
    unfold lisT
    rw [List.length_map]
    rfl)
  have HLT := Lib.hid h.lt
  have hgx := box1 w #[.int .i64 1, .string (mkB t), .bool n, lv, .slice ao l.length cv0, .int .i64 a] 27
  obtain ⟨a0, a1, a2, a3, a4, a5⟩ := row6 hgx
  have HC : Hid (∀ (bs : List Nat) (w : World), Pn bs b w → bs.length + 100 + szs l l.length * 6000000 ≤ 100000000000000 → PrE w0 b w → Calls Tryz.prog 64 #[.pointer (some ⟨b, 0, none⟩), .agg #[.int .i64 1, .string (mkB t), .bool n, lv, .slice ao l.length cv0, .int .i64 a]] w (PnP (bs ++ 40 :: (preT false l.length (l.map (Dm.tg leafB)) l.length ++ [41])) b w)) :=
    Lib.hid fun bs w h1 h2 h3 => plist_any 1 false (by decide) t n r l a lv ao cv0 b bs w w0 xs hrow hin hlen h1 h2 h3 ih
  have HL := Lib.hid hl
  clear hrow hin hlen h hl hb ih
  go_enter Tryz.func39, Tryz.ntmps39
  go_wp2_with fail
  clear a0 a1 a2 a3 a4 a5 hgx
  refine (HC.out bs _ HP0.out.pn (by have := HL.out; omega) HE.out).mono ?_
  rintro e w2 ⟨rfl, h2⟩
  rw [← HV.out] at h2
  have H2 := Lib.hid (HP0.out.trans h2)
  clear h2
  go_wp2_with fail
  go_end0
  exact ⟨rfl, H2.out⟩
set_option maxRecDepth 100000 in
set_option maxHeartbeats 4000000 in
theorem pdn_2 (t : List Nat) (n : Bool) (r : List Nat) (l : List Dm) (a : Int) (lv : Value) (ao : Option Addr) (cv0 : Nat) (b : Nat) (bs : List Nat) (w w0 : World) (xs : List Value) (hrow : RowV w0 (.slice ao l.length cv0) l.length 6 xs) (hin : ∀ (i : Nat) (h : i < l.length), Lay w0 (l[i]'h) ((xs.drop (i * 6)).take 6))
    (hlen : ∀ (j : Nat) (hj : j < l.length), ((l[j]'hj).tb).length + 10 ≤ (l[j]'hj).sz * 6000000) (h : Pn bs b w) (hl : bs.length + 1000 + szs l l.length * 6000000 ≤ 100000000000000) (hb : PrE w0 b w)
    (ih : ∀ (j : Nat) (hj : j < l.length) (bs : List Nat) (us : List Value) (w : World), Lay w0 (l[j]'hj) us → Pn bs b w → bs.length + (l[j]'hj).sz * 6000000 ≤ 100000000000000 → PrE w0 b w → Calls Tryz.prog 39 #[.pointer (some ⟨b, 0, none⟩), .agg us.toArray] w (PnP (bs ++ (l[j]'hj).tb) b w)) :
    Calls Tryz.prog 39 #[.pointer (some ⟨b, 0, none⟩), .agg #[.int .i64 2, .string (mkB t), .bool n, lv, .slice ao l.length cv0, .int .i64 a]] w (PnP (bs ++ (Dm.mk 2 t n r l a).tb) b w) := by
  have HP0 := Lib.hid ((PnS.refl h).step (below1 w (.cells #[.int .i64 2, .string (mkB t), .bool n, lv, .slice ao l.length cv0, .int .i64 a] 27)))
  have HE := Lib.hid (hb.below (below1 w (.cells #[.int .i64 2, .string (mkB t), .bool n, lv, .slice ao l.length cv0, .int .i64 a] 27)))
  have HV : Hid ((Dm.mk 2 t n r l a).tb = 40 :: (preT true l.length (l.map (Dm.tg leafB)) l.length ++ [41])) := Lib.hid (by
    unfold Dm.tb
    rw [tg_node (by omega)]
    unfold lisT
    rw [List.length_map]
    rfl)
  have HLT := Lib.hid h.lt
  have hgx := box1 w #[.int .i64 2, .string (mkB t), .bool n, lv, .slice ao l.length cv0, .int .i64 a] 27
  obtain ⟨a0, a1, a2, a3, a4, a5⟩ := row6 hgx
  have HC : Hid (∀ (bs : List Nat) (w : World), Pn bs b w → bs.length + 100 + szs l l.length * 6000000 ≤ 100000000000000 → PrE w0 b w → Calls Tryz.prog 64 #[.pointer (some ⟨b, 0, none⟩), .agg #[.int .i64 2, .string (mkB t), .bool n, lv, .slice ao l.length cv0, .int .i64 a]] w (PnP (bs ++ 40 :: (preT true l.length (l.map (Dm.tg leafB)) l.length ++ [41])) b w)) :=
    Lib.hid fun bs w h1 h2 h3 => plist_any 2 true (by decide) t n r l a lv ao cv0 b bs w w0 xs hrow hin hlen h1 h2 h3 ih
  have HL := Lib.hid hl
  clear hrow hin hlen h hl hb ih
  go_enter Tryz.func39, Tryz.ntmps39
  go_wp2_with fail
  clear a0 a1 a2 a3 a4 a5 hgx
  refine (HC.out bs _ HP0.out.pn (by have := HL.out; omega) HE.out).mono ?_
  rintro e w2 ⟨rfl, h2⟩
  rw [← HV.out] at h2
  have H2 := Lib.hid (HP0.out.trans h2)
  clear h2
  go_wp2_with fail
  go_end0
  exact ⟨rfl, H2.out⟩
set_option maxRecDepth 100000 in
set_option maxHeartbeats 4000000 in
theorem pdn_3 (t : List Nat) (n : Bool) (r : List Nat) (l : List Dm) (a : Int) (lv : Value) (ao : Option Addr) (cv0 : Nat) (b : Nat) (bs : List Nat) (w w0 : World) (xs : List Value) (hrow : RowV w0 (.slice ao l.length cv0) l.length 6 xs) (hin : ∀ (i : Nat) (h : i < l.length), Lay w0 (l[i]'h) ((xs.drop (i * 6)).take 6))
    (hlen : ∀ (j : Nat) (hj : j < l.length), ((l[j]'hj).tb).length + 10 ≤ (l[j]'hj).sz * 6000000) (h : Pn bs b w) (hl : bs.length + 1000 + szs l l.length * 6000000 ≤ 100000000000000) (hb : PrE w0 b w)
    (ih : ∀ (j : Nat) (hj : j < l.length) (bs : List Nat) (us : List Value) (w : World), Lay w0 (l[j]'hj) us → Pn bs b w → bs.length + (l[j]'hj).sz * 6000000 ≤ 100000000000000 → PrE w0 b w → Calls Tryz.prog 39 #[.pointer (some ⟨b, 0, none⟩), .agg us.toArray] w (PnP (bs ++ (l[j]'hj).tb) b w)) :
    Calls Tryz.prog 39 #[.pointer (some ⟨b, 0, none⟩), .agg #[.int .i64 3, .string (mkB t), .bool n, lv, .slice ao l.length cv0, .int .i64 a]] w (PnP (bs ++ (Dm.mk 3 t n r l a).tb) b w) := by
  have HP0 := Lib.hid ((PnS.refl h).step (below1 w (.cells #[.int .i64 3, .string (mkB t), .bool n, lv, .slice ao l.length cv0, .int .i64 a] 27)))
  have HE := Lib.hid (hb.below (below1 w (.cells #[.int .i64 3, .string (mkB t), .bool n, lv, .slice ao l.length cv0, .int .i64 a] 27)))
  have HV : Hid ((Dm.mk 3 t n r l a).tb = 35 :: 40 :: (preT false l.length (l.map (Dm.tg leafB)) l.length ++ [41])) := Lib.hid (by
    unfold Dm.tb
    rw [tg_node (by omega)]
    unfold lisT
    rw [List.length_map]
    rfl)
  have HLT := Lib.hid h.lt
  have hgx := box1 w #[.int .i64 3, .string (mkB t), .bool n, lv, .slice ao l.length cv0, .int .i64 a] 27
  obtain ⟨a0, a1, a2, a3, a4, a5⟩ := row6 hgx
  have HC : Hid (∀ (bs : List Nat) (w : World), Pn bs b w → bs.length + 100 + szs l l.length * 6000000 ≤ 100000000000000 → PrE w0 b w → Calls Tryz.prog 64 #[.pointer (some ⟨b, 0, none⟩), .agg #[.int .i64 3, .string (mkB t), .bool n, lv, .slice ao l.length cv0, .int .i64 a]] w (PnP (bs ++ 40 :: (preT false l.length (l.map (Dm.tg leafB)) l.length ++ [41])) b w)) :=
    Lib.hid fun bs w h1 h2 h3 => plist_any 3 false (by decide) t n r l a lv ao cv0 b bs w w0 xs hrow hin hlen h1 h2 h3 ih
  have HL := Lib.hid hl
  clear hrow hin hlen h hl hb ih
  go_enter Tryz.func39, Tryz.ntmps39
  go_wp2_with fail
  clear a0 a1 a2 a3 a4 a5
  refine (w_byte (c := 35) HP0.out.pn (by have := HL.out; omega)).mono ?_
  rintro e w1 ⟨rfl, h1⟩
  have hg1 := h1.box hgx (by have := HLT.out; omega)
  obtain ⟨a0, a1, a2, a3, a4, a5⟩ := row6 hg1
  have H1 := Lib.hid h1
  clear h1 hg1 hgx
  go_wp2_with fail
  clear a0 a1 a2 a3 a4 a5
  refine (HC.out (bs ++ [35]) w1 H1.out.pn (by have := HL.out; rw [List.length_append]; simp only [List.length_cons, List.length_nil]; omega) (HE.out.step H1.out)).mono ?_
  rintro e w2 ⟨rfl, h2⟩
  have HF : Hid (bs ++ [35] ++ 40 :: (preT false l.length (l.map (Dm.tg leafB)) l.length ++ [41]) = bs ++ (Dm.mk 3 t n r l a).tb) := Lib.hid (by rw [HV.out]; simp)
  rw [HF.out] at h2
  have H2 := Lib.hid (HP0.out.trans (H1.out.trans h2))
  clear h2
  go_wp2_with fail
  go_end0
  exact ⟨rfl, H2.out⟩
/-- A datum that may be. -/
theorem pdatum_any (w0 : World) (b : Nat) : ∀ (m : Nat) (D : Dm), D.sz ≤ m → ∀ f, okD f D = true → Sm 1100000 D → D.sz ≤ 8192 → ∀ (bs : List Nat) (us : List Value) (w : World), Lay w0 D us → Pn bs b w → bs.length + D.sz * 6000000 ≤ 100000000000000 → PrE w0 b w →
    Calls Tryz.prog 39 #[.pointer (some ⟨b, 0, none⟩), .agg us.toArray] w (PnP (bs ++ D.tb) b w) := by
  intro m
  induction m with
  | zero => intro D h; have := sz_pos D; omega
  | succ m ih =>
    intro D hm f hok hsm hs bs us w h1 hp hl hb
    have hp0 := sz_pos D
    obtain ⟨k, t, n, r, l, a⟩ := D
    obtain ⟨ht, hr, hll, hin⟩ := hsm.open'
    obtain ⟨lv, av, xs, rfl, hby, hlt, hlim, hsl, hrow, hla⟩ := h1.open'
    simp only [Dm.k, Dm.t, Dm.n, Dm.a, Dm.l, Dm.r] at *
    obtain ⟨ao, cv0, rfl⟩ : ∃ o c, av = .slice o l.length c := by obtain ⟨_, _, o, c, h, _⟩ := hrow; exact ⟨o, c, h⟩
    by_cases hk : k = 1 ∨ k = 2 ∨ k = 3
    · obtain ⟨f', _, _, _, _, he, hall⟩ := okD_parts hok hk
      have hszl : ∀ (j : Nat) (hj : j < l.length), (l[j]'hj).sz < (Dm.mk k t n r l a).sz := fun j hj => Dm.sz_mem (d := .mk k t n r l a) (x := l[j]'hj) (List.getElem_mem hj)
      have hz : bs.length + 1000 + szs l l.length * 6000000 ≤ 100000000000000 := by have e := @sz_node k t n r l a; omega
      have hln : ∀ (j : Nat) (hj : j < l.length), ((l[j]'hj).tb).length + 10 ≤ (l[j]'hj).sz * 6000000 := fun j hj => tb_len (Nat.le_refl _) _ _ (Nat.le_refl _) f' (hall j hj) (hin j hj)
      have hih : ∀ (j : Nat) (hj : j < l.length) (bs : List Nat) (us : List Value) (w : World), Lay w0 (l[j]'hj) us → Pn bs b w → bs.length + (l[j]'hj).sz * 6000000 ≤ 100000000000000 → PrE w0 b w → Calls Tryz.prog 39 #[.pointer (some ⟨b, 0, none⟩), .agg us.toArray] w (PnP (bs ++ (l[j]'hj).tb) b w) :=
        fun j hj bs us w h h2 h3 h4 => ih _ (by have := hszl j hj; omega) f' (hall j hj) (hin j hj) (by have := hszl j hj; omega) bs us w h h2 h3 h4
      rcases hk with rfl | rfl | rfl
      · exact pdn_1 t n r l a lv ao cv0 b bs w w0 xs hrow hla hln hp hz hb hih
      · exact pdn_2 t n r l a lv ao cv0 b bs w w0 xs hrow hla hln hp hz hb hih
      · exact pdn_3 t n r l a lv ao cv0 b bs w w0 xs hrow hla hln hp hz hb hih
    · obtain ⟨rfl, h⟩ := leafAny hok hk
      have hbl : bs.length ≤ 100000000000000 := by omega
      rcases h with rfl | rfl | ⟨rfl, c, hc⟩ | ⟨rfl, hsn⟩ | rfl | rfl | rfl | rfl
      · exact pd_4 t n r a _ lv ao cv0 b bs w w0 hby ht hp hbl hb
      · exact pd_5 t n r a _ lv ao cv0 b bs w w0 hby ht hp hbl hb
      · exact pd_6 t n r a _ lv ao cv0 b bs w w0 c hc hby ht hp hbl hb
      · exact pd_7 t n r a _ lv ao cv0 b bs w w0 hsn hsl hby ht hp hbl hb
      · exact pd_8 t n r a _ lv ao cv0 b bs w w0 hby ht hp hbl hb
      · exact pd_9 t n r a _ lv ao cv0 b bs w w0 hby ht hp hbl hb
      · exact pd_10 t n r a _ lv ao cv0 b bs w w0 hby ht hp hbl hb
      · exact pd_11 t n r a _ lv ao cv0 b bs w w0 hby ht hp hbl hb
end Go.Proofs.YtpahfhjgcflifaaGreatDoor
