/- The law PrintBack, at any world. -/
import Derived.Test.YtpahfhjgcflifaaGreatDoorPrP
import Derived.Test.YtpahfhjgcflifaaGreatDoorTxInv
import Derived.Deep.RegionHeldLaw
namespace Go.Proofs.YtpahfhjgcflifaaGreatDoor
open Go.RowKit

/-- Datums that are the same have one text. -/
theorem strip_tg (g : Int → List Nat → Bool → List Nat → List Nat) : ∀ (m : Nat) (D E : Dm), D.sz ≤ m → D.strip = E.strip → D.tg g = E.tg g := by
  intro m
  induction m with
  | zero => intro D E h; have := sz_pos D; omega
  | succ m ih =>
    intro D E hm h
    obtain ⟨k, t, n, r, l, a⟩ := D
    obtain ⟨k', t', n', r', l', a'⟩ := E
    rw [strip_mk, strip_mk] at h
    simp only [Dm.mk.injEq, and_true] at h
    obtain ⟨rfl, rfl, rfl, rfl, hl⟩ := h
    rw [tg_mk, tg_mk]
    have hll : l.map (Dm.tg g) = l'.map (Dm.tg g) := by
      have hlen : l.length = l'.length := by simpa using congrArg List.length hl
      refine List.ext_getElem (by simpa using hlen) fun i h1 h2 => ?_
      rw [List.length_map] at h1 h2
      rw [List.getElem_map, List.getElem_map]
      refine ih _ _ (by have := Dm.sz_mem (d := .mk k t n r l a) (x := l[i]'h1) (List.getElem_mem h1); omega) ?_
      have := congrArg (·[i]?) hl
      simpa [h1, h2] using this
    rw [hll]
set_option maxRecDepth 100000 in
set_option maxHeartbeats 8000000 in
theorem pback_any (D : Dm) (us : List Value) (w : World) (h1 : Lay w D us) (hsA : Sm 1048576 D) (ht : PrT w) (ht2 : Tabs2 w) (hmk : Marks w) :
    Calls Tryz.prog 9 #[.agg us.toArray] w fun e w' => e = .returned (.bool true) ∧ Below w.heap.size w w' := by
  have hlen : us.length = 6 := by cases h1; rfl
  obtain ⟨u0, u1, u2, u3, u4, u5, rfl⟩ : ∃ u0 u1 u2 u3 u4 u5, us = [u0, u1, u2, u3, u4, u5] := by
    match us, hlen with
    | [a, b, c, d, e, f], _ => exact ⟨a, b, c, d, e, f, rfl⟩
  have HLA := Lib.hid h1
  have HSA := Lib.hid (hsA.mono (show 1048576 ≤ 1100000 by omega))
  have HSAO := Lib.hid hsA
  have HT := Lib.hid ht
  have HT2 := Lib.hid ht2
  have HM := Lib.hid hmk
  have hx : (w.alloc (.cells #[u0, u1, u2, u3, u4, u5] 27)).heap[w.heap.size]? = some (.cells #[u0, u1, u2, u3, u4, u5] 27 (0, 0)) := heap_alloc_new w _
  have hb := below1 w (.cells #[u0, u1, u2, u3, u4, u5] 27)
  have hsz : w.heap.size < (w.alloc (.cells #[u0, u1, u2, u3, u4, u5] 27)).heap.size := by simp
  clear h1 hsA ht ht2 hmk hlen
  show Calls Tryz.prog 9 #[.agg #[u0, u1, u2, u3, u4, u5]] w _
  go_enter Tryz.func9, Tryz.ntmps9
  go_wp2_with fail
  generalize w.alloc (.cells #[u0, u1, u2, u3, u4, u5] 27) = W0 at *
  have HX := Lib.hid hx
  have HB := Lib.hid hb
  clear hx hb
  refine (panswers_any _ (HT.out.below HB.out)).mono ?_
  rintro e w1 ⟨rfl, hb1⟩
  have HC := Lib.hid hb1
  clear hb1
  obtain ⟨c0, c1, c2, c3, c4, c5⟩ := row6 ((HC.out.block _ (by omega)).trans HX.out)
  have HLW := Lib.hid (HLA.out.keep (HB.out.trans (HC.out.mono HB.out.size)))
  go_wp2_with fail
  refine (light5_dm 100 D [u0, u1, u2, u3, u4, u5] _ 1 (by omega) (by omega) HLW.out).mono ?_
  rintro e wn ⟨rfl, hbn⟩
  replace HC := Lib.hid (HC.out.trans (hbn.mono HC.out.size))
  clear hbn HLW c0 c1 c2 c3 c4 c5
  cases hq1 : lightA 100 D
  case false =>
    go_wp2_with fail
    have hbf := HB.out.trans (HC.out.mono HB.out.size)
    refine (panswers_any _ (HT.out.below hbf)).mono ?_
    rintro e wf ⟨rfl, hbg⟩
    have HF := Lib.hid (hbf.trans (hbg.mono hbf.size))
    clear hbf hbg
    go_wp2_with fail
    go_ret
    exact ⟨rfl, HF.out⟩
  have HQ1 := Lib.hid hq1
  clear hq1
  obtain ⟨c0, c1, c2, c3, c4, c5⟩ := row6 ((HC.out.block _ (by omega)).trans HX.out)
  have HLW := Lib.hid (HLA.out.keep (HB.out.trans (HC.out.mono HB.out.size)))
  go_wp2_with fail
  refine (rdsound_any D [u0, u1, u2, u3, u4, u5] _ HLW.out HSA.out).mono ?_
  rintro e wn ⟨rfl, hbn⟩
  replace HC := Lib.hid (HC.out.trans (hbn.mono HC.out.size))
  clear hbn HLW c0 c1 c2 c3 c4 c5
  cases hq3 : sndD D
  case false =>
    go_wp2_with fail
    have hbf := HB.out.trans (HC.out.mono HB.out.size)
    refine (panswers_any _ (HT.out.below hbf)).mono ?_
    rintro e wf ⟨rfl, hbg⟩
    have HF := Lib.hid (hbf.trans (hbg.mono hbf.size))
    clear hbf hbg
    go_wp2_with fail
    go_ret
    exact ⟨rfl, HF.out⟩
  have HQ3 := Lib.hid hq3
  clear hq3
  obtain ⟨c0, c1, c2, c3, c4, c5⟩ := row6 ((HC.out.block _ (by omega)).trans HX.out)
  have HLW := Lib.hid (HLA.out.keep (HB.out.trans (HC.out.mono HB.out.size)))
  go_wp2_with fail
  refine (rothers_any _ D (Nat.le_refl _) [u0, u1, u2, u3, u4, u5] _ HLW.out).mono ?_
  rintro e wn ⟨rfl, hbn⟩
  replace HC := Lib.hid (HC.out.trans (hbn.mono HC.out.size))
  clear hbn HLW c0 c1 c2 c3 c4 c5
  cases hq5 : hasK 11 D
  case true =>
    go_wp2_with fail
    have hbf := HB.out.trans (HC.out.mono HB.out.size)
    refine (panswers_any _ (HT.out.below hbf)).mono ?_
    rintro e wf ⟨rfl, hbg⟩
    have HF := Lib.hid (hbf.trans (hbg.mono hbf.size))
    clear hbf hbg
    go_wp2_with fail
    go_ret
    exact ⟨rfl, HF.out⟩
  have HQ5 := Lib.hid hq5
  clear hq5
  obtain ⟨c0, c1, c2, c3, c4, c5⟩ := row6 ((HC.out.block _ (by omega)).trans HX.out)
  have HLW := Lib.hid (HLA.out.keep (HB.out.trans (HC.out.mono HB.out.size)))
  go_wp2_with fail
  refine (rvoids_any _ D (Nat.le_refl _) [u0, u1, u2, u3, u4, u5] _ HLW.out).mono ?_
  rintro e wn ⟨rfl, hbn⟩
  replace HC := Lib.hid (HC.out.trans (hbn.mono HC.out.size))
  clear hbn HLW c0 c1 c2 c3 c4 c5
  cases hq6 : hasK 10 D
  case true =>
    go_wp2_with fail
    have hbf := HB.out.trans (HC.out.mono HB.out.size)
    refine (panswers_any _ (HT.out.below hbf)).mono ?_
    rintro e wf ⟨rfl, hbg⟩
    have HF := Lib.hid (hbf.trans (hbg.mono hbf.size))
    clear hbf hbg
    go_wp2_with fail
    go_ret
    exact ⟨rfl, HF.out⟩
  have HQ6 := Lib.hid hq6
  clear hq6
  have HWD : Hid (okD 64 D = true ∧ D.sz ≤ 8192 ∧ plainA D = true ∧ DBy D) := Lib.hid (by
    have h := HQ3.out
    unfold sndD at h
    rw [Bool.and_eq_true, decide_eq_true_iff] at h
    exact ⟨h.1, h.2, by unfold plainA; rw [HQ5.out, HQ6.out]; rfl, HLA.out.dby⟩)
  clear HQ1 HQ5 HQ6
  have HBN := Lib.hid (HB.out.trans (HC.out.mono HB.out.size))
  obtain ⟨c0, c1, c2, c3, c4, c5⟩ := row6 ((HC.out.block _ (by omega)).trans HX.out)
  go_wp2_with fail
  clear c0 c1 c2 c3 c4 c5
  refine (own5_dm 1048576 (by omega) _ D (Nat.le_refl _) HSAO.out [u0, u1, u2, u3, u4, u5] _ (HLA.out.keep HBN.out)).mono ?_
  rintro e w2 ⟨us2, rfl, hl2, hb⟩
  have HC2 := Lib.hid (HC.out.trans (hb.mono HC.out.size))
  clear hb
  obtain ⟨k3, t3, n3, p3, q3, r3, p4, q4, r4, a3, rfl⟩ := hl2.lay.slots
  have HL2 := Lib.hid hl2.lay
  clear hl2
  go_wp2_with fail
  refine (print_any D [.int .i64 k3, .string t3, .bool n3, .slice p3 q3 r3, .slice p4 q4 r4, .int .i64 a3] w2 HL2.out HSA.out (HT.out.below (HB.out.trans (HC2.out.mono HB.out.size)))).mono ?_
  rintro e w3 ⟨⟨_, rfl⟩ | ⟨hq, _⟩, hb⟩
  case inr => rw [HQ3.out] at hq; cases hq
  have HC3 := Lib.hid (HC2.out.trans (hb.mono HC2.out.size))
  clear hb HL2 HC2
  obtain ⟨S, hS⟩ : ∃ S, S = mkB D.tb := ⟨_, rfl⟩
  rw [← hS]
  have HS := Lib.hid hS
  clear hS
  have HB3 := Lib.hid (HB.out.trans (HC3.out.mono HB.out.size))
  by_cases c1 : 65536 < S.size
  · have i1 : (65536 : Int) < ((S.size : Nat) : Int) := by omega
    go_wp2_with fail
    go_ret
    exact ⟨rfl, HB3.out⟩
  have i1 : ¬ (65536 : Int) < ((S.size : Nat) : Int) := by omega
  have HTY : Hid (By D.tb) := Lib.hid (tb_by _ D (Nat.le_refl _) 64 HWD.out.1 HWD.out.2.2.2).1
  have HSB : Hid (byt S = D.tb) := Lib.hid (by rw [HS.out]; exact byt_mk HTY.out)
  have HSZ : Hid (S.size ≤ 65536) := Lib.hid (by omega)
  obtain ⟨x, hxs, hxr⟩ : ∃ x : Dm, x.strip = D.strip ∧ readA D.tb 64 = ([x], 0, 0) := by
    obtain ⟨a1, a2, _⟩ := tx_enc _ D (Nat.le_refl _) 64 HWD.out.1 HWD.out.2.2.1 HWD.out.2.2.2
    have hr := read_writes (writes_dm HWD.out.1 HWD.out.2.2.1 HWD.out.2.2.2) a1 (by rw [a2]; have := HSZ.out; have e := HS.out; rw [e, mkB_size] at this; exact this) (depth := 64) (by omega) (by omega)
    rw [a2] at hr
    exact hr.1 ⟨HWD.out.1, HWD.out.2.1⟩
  have HXS := Lib.hid hxs
  have HXR := Lib.hid hxr
  have HXP : Hid (sndD x = true ∧ plainA x = true) := Lib.hid (read_snd HTY.out (depth := 64) (by rw [hxr]) x (by rw [hxr]; simp))
  have HXT : Hid (x.tb = D.tb) := Lib.hid (strip_tg leafB _ x D (Nat.le_refl _) hxs)
  clear hxs hxr
  have hconv := run_bytes_of_string (P := Tryz.prog) w3 9 34 5 S Tryz.underlying9 Tryz.underlying34 Tryz.underlying5
  have hcap := grownCap_ge w3 S.size 0 5
  go_wp2_with fail
  generalize hG : grownCap w3 S.size 0 5 = cap1 at *
  have hsl := row_slS (w := w3) (e := 5) (W := ((w3.alloc (Obj.cells (bytesRow S cap1) 5 ((bytesRow S cap1).size, (bytesRow S cap1).size + 1))).drew)) (heap_alloc_new w3 _) hcap (by have := HSZ.out; omega)
  rw [HSB.out] at hsl
  have hbq : Below w3.heap.size w3 ((w3.alloc (Obj.cells (bytesRow S cap1) 5 ((bytesRow S cap1).size, (bytesRow S cap1).size + 1))).drew) := (below1 w3 _).drew
  have HBW := Lib.hid (HB3.out.trans (hbq.mono HB3.out.size))
  have hcall := read_all _ _ 64 _ hsl HTY.out (HT2.out.below HBW.out) (HT.out.below HBW.out).words (HM.out.below HBW.out)
  rw [HXR.out] at hcall
  have HCQ := Lib.hid (HC3.out.trans (hbq.mono HC3.out.size))
  clear hconv hcap hG hsl hbq
  refine hcall.mono ?_
  clear hcall
  rintro e w4 ⟨vv1, us1, rfl, hrow1, hin1, hbb⟩
  have HC4 := Lib.hid (HCQ.out.trans (hbb.mono HCQ.out.size))
  have HB4 := Lib.hid (HB.out.trans (HC4.out.mono HB.out.size))
  have HROW := Lib.hid hrow1
  have HIN := Lib.hid hin1
  obtain ⟨_, _, vo1, vc1, rfl, _⟩ := hrow1
  simp only
  clear hin1 hbb HBW HCQ
  obtain ⟨b1, o1, cp1, x0, x1, x2, x3, x4, x5, hav, hcp1, _, hly1, p0, p1, p2, p3', p4', p5⟩ := row_datum HROW.out (fun j h => (HIN.out.each j h).lay) (i := 0) (by simp)
  simp only [Value.slice.injEq, true_and] at hav
  obtain ⟨rfl, rfl⟩ := hav
  simp only [List.length_singleton, Nat.zero_mul, Nat.add_zero, List.getElem_cons_zero] at hcp1 hly1 p0 p1 p2 p3' p4' p5 ⊢
  have HLX := Lib.hid hly1
  have HALL : Hid (∀ W, Below w4.heap.size w4 W → ((W.cell? ⟨b1, o1, none⟩ = some x0 ∧ W.cell? ⟨b1, o1 + 1, none⟩ = some x1 ∧ W.cell? ⟨b1, o1 + 2, none⟩ = some x2 ∧ W.cell? ⟨b1, o1 + 3, none⟩ = some x3 ∧ W.cell? ⟨b1, o1 + 4, none⟩ = some x4 ∧ W.cell? ⟨b1, o1 + 5, none⟩ = some x5) ∧ W.cell? ⟨w.heap.size, 0, none⟩ = some u0 ∧ W.cell? ⟨w.heap.size, 1, none⟩ = some u1 ∧ W.cell? ⟨w.heap.size, 2, none⟩ = some u2 ∧ W.cell? ⟨w.heap.size, 3, none⟩ = some u3 ∧ W.cell? ⟨w.heap.size, 4, none⟩ = some u4 ∧ W.cell? ⟨w.heap.size, 5, none⟩ = some u5)) := Lib.hid fun W h => by
    have hr := row6 ((h.block w.heap.size (by have := HC4.out.size; omega)).trans ((HC4.out.block _ (by omega)).trans HX.out))
    exact ⟨⟨cell_keep p0 h, cell_keep p1 h, cell_keep p2 h, cell_keep p3' h, cell_keep p4' h, cell_keep p5 h⟩, hr⟩
  clear hly1 p0 p1 p2 p3' p4' p5
  go_wp2_with fail
  have hd1 := (Below.refl w4.heap.size w4).drew
  have hall := HALL.out _ hd1
  go_region_held_law (fun W => (W.cell? ⟨b1, o1, none⟩ = some x0 ∧ W.cell? ⟨b1, o1 + 1, none⟩ = some x1 ∧ W.cell? ⟨b1, o1 + 2, none⟩ = some x2 ∧ W.cell? ⟨b1, o1 + 3, none⟩ = some x3 ∧ W.cell? ⟨b1, o1 + 4, none⟩ = some x4 ∧ W.cell? ⟨b1, o1 + 5, none⟩ = some x5) ∧ W.cell? ⟨w.heap.size, 0, none⟩ = some u0 ∧ W.cell? ⟨w.heap.size, 1, none⟩ = some u1 ∧ W.cell? ⟨w.heap.size, 2, none⟩ = some u2 ∧ W.cell? ⟨w.heap.size, 3, none⟩ = some u3 ∧ W.cell? ⟨w.heap.size, 4, none⟩ = some u4 ∧ W.cell? ⟨w.heap.size, 5, none⟩ = some u5)
    (first | exact hall | exact HALL.out _ ha11)
    (first
      | (go_simp; go_at_call 15; refine (dsame_any _ x D (Nat.le_refl _) [x0, x1, x2, x3, x4, x5] [u0, u1, u2, u3, u4, u5] _ (HLX.out.keep hd1) (HLA.out.keep (HB4.out.trans (hd1.mono HB4.out.size)))).mono ?_; rw [sameA_true HXS.out]; rintro e w11 ⟨rfl, hb11⟩; have ha11 := hd1.trans (hb11.mono hd1.size)))
  all_goals
    have HA11 := Lib.hid ha11
    obtain ⟨⟨c0, c1', c2, c3, c4, c5⟩, _⟩ := HALL.out _ ha11
    clear hall hd1 hb11 ha11
    go_wp2_with fail
    clear c0 c1' c2 c3 c4 c5
    have hsq := HXP.out.1
    unfold sndD at hsq
    rw [Bool.and_eq_true, decide_eq_true_iff] at hsq
    refine (print_any x [x0, x1, x2, x3, x4, x5] _ (HLX.out.keep HA11.out) ((snd_small _ x (Nat.le_refl _) 64 hsq.1 HXP.out.2 HLX.out.dby hsq.2).mono (by omega)) (HT.out.below (HB4.out.trans (HA11.out.mono HB4.out.size)))).mono ?_
    rintro e w12 ⟨⟨_, rfl⟩ | ⟨hq, _⟩, hb⟩
    case inr => rw [HXP.out.1] at hq; cases hq
    rw [HXT.out, ← HS.out]
    have H12 := Lib.hid ((HB4.out.trans (HA11.out.mono HB4.out.size)).trans (hb.mono (HB4.out.trans (HA11.out.mono HB4.out.size)).size))
    clear hb
    go_wp2_with fail
    go_ret
    exact ⟨rfl, H12.out⟩
end Go.Proofs.YtpahfhjgcflifaaGreatDoor
