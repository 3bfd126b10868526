/- The law ReadGives, at any world. -/
import Derived.Test.YtpahfhjgcflifaaGreatDoorTxInv
import Derived.Test.YtpahfhjgcflifaaGreatDoorRTx
import Derived.Test.YtpahfhjgcflifaaGreatDoorRdSize
import Derived.Test.YtpahfhjgcflifaaGreatDoorUDecH
import Derived.Deep.RegionHeldLaw
namespace Go.Proofs.YtpahfhjgcflifaaGreatDoor
open Go.RowKit

theorem mkB_round (t : List Nat) : ByteArray.mk #[32] ++ mkB t ++ ByteArray.mk #[32, 59] = mkB (32 :: (t ++ [32, 59])) := by
  unfold mkB
  apply ByteArray.ext
  simp

theorem tb_round_by {D : Dm} {g : Nat} (hok : okD g D = true) (hdb : DBy D) (hpl : plainA D = true) : By (32 :: (D.tb ++ [32, 59])) := by
  obtain ⟨hsc, henc, _⟩ := tx_enc _ D (Nat.le_refl _) g hok hpl hdb
  have h := encL_byQ (l := 32 :: (D.tx ++ [32, 59])) (fun c hc => by
    rcases List.mem_cons.1 hc with rfl | hc
    · exact .inl (by omega)
    rcases List.mem_append.1 hc with hc | hc
    · exact hsc c hc
    · have h6 : c = 32 ∨ c = 59 := by simpa using hc
      exact .inl (by omega))
  have hcs : encL (32 :: (D.tx ++ [32, 59])) = 32 :: (D.tb ++ [32, 59]) := by
    show encN 32 ++ encL (D.tx ++ [32, 59]) = _
    rw [encL_app, henc]
    rfl
  rwa [hcs] at h

set_option maxRecDepth 100000 in
set_option maxHeartbeats 8000000 in
theorem readgives_any (sv : Value) (bs : List Nat) (dp : Int) (w : World) (hs : Sl .u8 w sv bs) (hby : By bs) (ht : Tabs2 w) (hwd : Words w) (hmk : Marks w) (hr : bs.length ≤ 140737488351232) :
    Calls Tryz.prog 5 #[sv, .int .i64 dp] w fun e w' => e = .returned (.bool true) ∧ Below w.heap.size w w' := by
  obtain ⟨i0, hi, hz0, hz1, hz2⟩ := info_parts infoUB
  have HS := Lib.hid hs
  have HY := Lib.hid hby; clear hby
  have HT := Lib.hid ht; clear ht
  have HW := Lib.hid hwd; clear hwd
  have HM := Lib.hid hmk; clear hmk
  have HR := Lib.hid hr
  obtain ⟨hm, ao, cap, rfl, hcap, h⟩ := hs
  clear h hm
  have hown0 := owns_empty w 5
  have hb0 := below1 w (.cells #[] 5)
  have HO0 := Lib.hid hown0; clear hown0
  have HS0 := Lib.hid (HS.out.below hb0)
  go_enter Tryz.func5, Tryz.ntmps5
  go_wp2_with (at_builtin; go_loud (refine wpList_append_sl rfl _ _ 34 rfl w.heap.size 5 i0 (.int .u8 0) 1 Tryz.underlying34 hi hz0 hz1 hz2 rfl _ 0 [] rfl HO0.out .u8 _ bs rfl HS0.out (by unfold maxLen; omega) (by omega) (by simp) ?_); intro v' w1 hown1 hgrow)
  have hb1 := grown_own hgrow HO0.out hb0 (Nat.le_refl _) hb0.size
  have hs1 : Sl .u8 w1 v' bs := owns_sl (base := w.heap.size) (n := 0 + bs.length) (e := 5) hown1
  have HB1 := Lib.hid hb1
  clear hown1 hgrow HO0 HS0 hb0 hb1
  have HSN := Lib.hid (read_snd HY.out (depth := dp))
  have hcall := read_all v' bs dp w1 hs1 HY.out (HT.out.below HB1.out) (HW.out.below HB1.out) (HM.out.below HB1.out)
  generalize readA bs dp = R at *
  refine hcall.mono ?_
  clear hcall hs1
  obtain ⟨rl, rp, re⟩ := R
  rintro e w2 ⟨v, us, rfl, hrow, hin, hb⟩
  have HB2 := Lib.hid (HB1.out.trans (hb.mono HB1.out.size))
  have HRW := Lib.hid hrow
  have HIN := Lib.hid hin
  obtain ⟨_, _, vo, vc, rfl, _⟩ := hrow
  simp only at HSN HRW HIN ⊢
  clear hb hin
  go_wp2_with fail
  refine (ranswers_any _ (HT.out.below HB2.out) (HW.out.below HB2.out) (HM.out.below HB2.out)).mono ?_
  rintro e w3 ⟨rfl, hb3⟩
  have HB3 := Lib.hid (HB2.out.trans (hb3.mono HB2.out.size))
  have HRW3 := Lib.hid (HRW.out.below hb3)
  have HIN3 := Lib.hid fun j h => ((HIN.out.each j h).lay).keep hb3
  clear hb3 HRW HIN
  by_cases hre : re = 0
  case neg =>
    have hne : (((re : Nat) : Int) != 0) = true := by rw [bne_iff_ne]; omega
    clear hre
    go_wp2_with fail
    refine (ranswers_any _ (HT.out.below HB3.out) (HW.out.below HB3.out) (HM.out.below HB3.out)).mono ?_
    rintro e w4 ⟨rfl, hb4⟩
    have HB4 := Lib.hid (HB3.out.trans (hb4.mono HB3.out.size))
    clear hb4
    go_wp2_with fail
    go_ret
    exact ⟨rfl, HB4.out⟩
  subst hre
  by_cases hbl : 30000 < bs.length
  · have hbi : decide ((30000 : Int) < ((bs.length : Nat) : Int)) = true := by rw [decide_eq_true_iff]; omega
    clear hbl
    go_wp2_with fail
    refine (ranswers_any _ (HT.out.below HB3.out) (HW.out.below HB3.out) (HM.out.below HB3.out)).mono ?_
    rintro e w4 ⟨rfl, hb4⟩
    have HB4 := Lib.hid (HB3.out.trans (hb4.mono HB3.out.size))
    clear hb4
    go_wp2_with fail
    go_ret
    exact ⟨rfl, HB4.out⟩
  have hbi : decide ((30000 : Int) < ((bs.length : Nat) : Int)) = false := by rw [decide_eq_false_iff_not]; omega
  clear hbl
  have HSN2 := Lib.hid (HSN.out rfl)
  clear HSN
  go_wp2_with fail
  go_loopw [8] (fun v wr => ∃ i : Nat, i ≤ rl.length ∧ v = .int .i64 (i : Nat) ∧ Below w3.heap.size w3 wr) (fun v _ => rl.length - (intOf v).toNat)
  case atStart => exact ⟨0, Nat.zero_le _, rfl, Below.refl _ _⟩
  case round =>
    obtain ⟨i, hi, rfl, hbel⟩ := hrel
    have HBL := Lib.hid hbel
    have HBR := Lib.hid (HB3.out.trans (hbel.mono HB3.out.size))
    have hmx : rl.length ≤ 9223372036854775807 := by have := HRW3.out.2.1; unfold maxLen at this; omega
    clear hbel hbi
    by_cases hin : i < rl.length
    case neg =>
      obtain rfl : i = rl.length := by omega
      go_wp2_with fail
      go_ret
      exact ⟨rfl, HBR.out⟩
    have hii : ((i : Nat) : Int) < ((rl.length : Nat) : Int) := by omega
    by_cases h50 : i < 50
    case neg =>
      have h5i : ¬ ((i : Nat) : Int) < 50 := by omega
      go_wp2_with fail
      go_ret
      exact ⟨rfl, HBR.out⟩
    have h5i : ((i : Nat) : Int) < 50 := by omega
    obtain ⟨b, off, cp, x0, x1, x2, x3, x4, x5, hav, _, _, hly, p0, p1, p2, p3, p4, p5⟩ := row_datum (HRW3.out.below HBL.out) (fun j h => (HIN3.out j h).keep HBL.out) hin
    simp only [Value.slice.injEq, true_and] at hav
    obtain ⟨rfl, rfl⟩ := hav
    obtain ⟨hsd, hpl⟩ := HSN2.out _ (List.getElem_mem hin)
    have hsd' := hsd
    unfold sndD at hsd'
    rw [Bool.and_eq_true, decide_eq_true_iff] at hsd'
    obtain ⟨hok, hsz⟩ := hsd'
    have hdb := hly.dby
    have HSD := Lib.hid hsd
    have HOK := Lib.hid hok
    have HSZ := Lib.hid hsz
    have HSM := Lib.hid ((snd_small _ _ (Nat.le_refl _) 64 hok hpl hdb hsz).mono (show 100000 ≤ 1100000 by omega))
    have HRB := Lib.hid (read_back hok hsz hpl hdb)
    have HLY : Hid (∀ W, Below wr.heap.size wr W → Lay W (rl[i]'hin) [x0, x1, x2, x3, x4, x5]) := Lib.hid fun W h => hly.keep h
    have HPP : Hid (∀ W, Below wr.heap.size wr W → W.cell? ⟨b, off + i * 6, none⟩ = some x0 ∧ W.cell? ⟨b, off + i * 6 + 1, none⟩ = some x1 ∧ W.cell? ⟨b, off + i * 6 + 2, none⟩ = some x2 ∧ W.cell? ⟨b, off + i * 6 + 3, none⟩ = some x3 ∧ W.cell? ⟨b, off + i * 6 + 4, none⟩ = some x4 ∧ W.cell? ⟨b, off + i * 6 + 5, none⟩ = some x5) := Lib.hid fun W h => by
      have hb : b < wr.heap.size := World.block_lt_of_cell? wr _ p0
      refine ⟨?_, ?_, ?_, ?_, ?_, ?_⟩
      · rw [h.cell (p := ⟨b, off + i * 6, none⟩) hb]; exact p0
      · rw [h.cell (p := ⟨b, off + i * 6 + 1, none⟩) hb]; exact p1
      · rw [h.cell (p := ⟨b, off + i * 6 + 2, none⟩) hb]; exact p2
      · rw [h.cell (p := ⟨b, off + i * 6 + 3, none⟩) hb]; exact p3
      · rw [h.cell (p := ⟨b, off + i * 6 + 4, none⟩) hb]; exact p4
      · rw [h.cell (p := ⟨b, off + i * 6 + 5, none⟩) hb]; exact p5
    clear hsd hok hsz hpl hdb hly
    go_wp2_with fail
    refine (rdsound_any (rl[i]'hin) [x0, x1, x2, x3, x4, x5] _ (HLY.out _ (Below.refl _ _)) HSM.out).mono ?_
    rw [HSD.out]
    rintro e w4 ⟨rfl, hb4⟩
    have HB4 := Lib.hid hb4
    clear hb4 p0 p1 p2 p3 p4 p5
    obtain ⟨p0, p1, p2, p3, p4, p5⟩ := HPP.out _ HB4.out
    go_wp2_with fail
    refine (rtext_dm _ (rl[i]'hin) (Nat.le_refl _) 64 HOK.out HSM.out HSZ.out [x0, x1, x2, x3, x4, x5] _ (HLY.out _ HB4.out)).mono ?_
    rintro e w5 ⟨rfl, hb5⟩
    have HB5 := Lib.hid (HB4.out.trans (hb5.mono HB4.out.size))
    have HBR5 := Lib.hid (HBR.out.trans (HB5.out.mono HBR.out.size))
    have HTZ := Lib.hid (mkB_size (rl[i]'hin).tb)
    have HRD := Lib.hid (mkB_round (rl[i]'hin).tb)
    clear hb5 p0 p1 p2 p3 p4 p5
    obtain ⟨O, hO⟩ : ∃ O, O = mkB (rl[i]'hin).tb := ⟨_, rfl⟩
    rw [← hO] at HTZ HRD ⊢
    clear hO
    by_cases h6 : 60000 < O.size
    · have h6i : (60000 : Int) < ((O.size : Nat) : Int) := by omega
      go_wp2_with fail
      go_roundw
      case measure => simp only [intOf]; omega
      case rel => exact ⟨i + 1, by omega, by go_num, HBL.out.trans (HB5.out.mono HBL.out.size)⟩
    have h6i : ¬ (60000 : Int) < ((O.size : Nat) : Int) := by omega
    obtain ⟨d', hd', hR2⟩ := HRB.out (by have := HTZ.out; omega)
    obtain ⟨S2, hS2⟩ : ∃ S2, ByteArray.mk #[32] ++ O ++ ByteArray.mk #[32, 59] = S2 := ⟨_, rfl⟩
    have HS2 : Hid (S2 = mkB (32 :: ((rl[i]'hin).tb ++ [32, 59]))) := Lib.hid (hS2.symm.trans HRD.out)
    have HBY2 : Hid (By (32 :: ((rl[i]'hin).tb ++ [32, 59]))) := Lib.hid (tb_round_by HOK.out (HLY.out _ (Below.refl _ _)).dby (HSN2.out _ (List.getElem_mem hin)).2)
    have HSZ2 : Hid (S2.size ≤ 60003) := Lib.hid (by rw [HS2.out, mkB_size, List.length_cons, List.length_append]; have := HTZ.out; simp; omega)
    have HBM : Hid (byt S2 = 32 :: ((rl[i]'hin).tb ++ [32, 59])) := Lib.hid (by rw [HS2.out]; exact byt_mk HBY2.out)
    have HD' := Lib.hid hd'
    have HR2 := Lib.hid hR2
    have g1 : ¬ 9223372036854775807 < 1 + O.size := by omega
    have g2 : ¬ 9223372036854775807 < 1 + O.size + 2 := by omega
    have hconv := run_bytes_of_string (P := Tryz.prog) w5 9 34 5 S2 Tryz.underlying9 Tryz.underlying34 Tryz.underlying5
    have hcap := grownCap_ge w5 S2.size 0 5
    clear hd' hR2
    go_wp2_with fail
    generalize hG : grownCap w5 S2.size 0 5 = cap2 at *
    have hsl := row_slS (w := w5) (e := 5) (W := ((w5.alloc (Obj.cells (bytesRow S2 cap2) 5 ((bytesRow S2 cap2).size, (bytesRow S2 cap2).size + 1))).drew)) (heap_alloc_new w5 _) hcap (by have := HSZ2.out; omega)
    rw [HBM.out] at hsl
    have hbq : Below w5.heap.size w5 ((w5.alloc (Obj.cells (bytesRow S2 cap2) 5 ((bytesRow S2 cap2).size, (bytesRow S2 cap2).size + 1))).drew) := (below1 w5 _).drew
    have HBW := Lib.hid (HBR5.out.trans (hbq.mono HBR5.out.size))
    have HB5W := Lib.hid (HB5.out.trans (hbq.mono HB5.out.size))
    have hcall := read_all _ _ 64 _ hsl HBY2.out (HT.out.below HBW.out) (HW.out.below HBW.out) (HM.out.below HBW.out)
    rw [HR2.out] at hcall
    clear hconv hcap hG hsl hbq hS2 g1 g2
    refine hcall.mono ?_
    clear hcall
    rintro e w6 ⟨v2, us2, rfl, hrow2, hin2, hb6⟩
    have HB6 := Lib.hid (HB5W.out.trans (hb6.mono HB5W.out.size))
    have HBR6 := Lib.hid (HBW.out.trans (hb6.mono HBW.out.size))
    simp only at hrow2 hin2 ⊢
    obtain ⟨b2, off2, cp2, y0, y1, y2, y3, y4, y5, hav, hcp2, _, hly2, q0, q1, q2, q3, q4, q5⟩ := row_datum hrow2 (fun j h => (hin2.each j h).lay) (i := 0) (by simp)
    subst hav
    simp only [List.length_singleton, Nat.zero_mul, Nat.add_zero, List.getElem_cons_zero] at hcp2 hly2 q0 q1 q2 q3 q4 q5 ⊢
    have HLY2 : Hid (∀ W, Below w6.heap.size w6 W → Lay W d' [y0, y1, y2, y3, y4, y5]) := Lib.hid fun W h => hly2.keep h
    have HQQ : Hid (∀ W, Below w6.heap.size w6 W → W.cell? ⟨b2, off2, none⟩ = some y0 ∧ W.cell? ⟨b2, off2 + 1, none⟩ = some y1 ∧ W.cell? ⟨b2, off2 + 2, none⟩ = some y2 ∧ W.cell? ⟨b2, off2 + 3, none⟩ = some y3 ∧ W.cell? ⟨b2, off2 + 4, none⟩ = some y4 ∧ W.cell? ⟨b2, off2 + 5, none⟩ = some y5) := Lib.hid fun W h => by
      have hb : b2 < w6.heap.size := World.block_lt_of_cell? w6 _ q0
      refine ⟨?_, ?_, ?_, ?_, ?_, ?_⟩
      · rw [h.cell (p := ⟨b2, off2, none⟩) hb]; exact q0
      · rw [h.cell (p := ⟨b2, off2 + 1, none⟩) hb]; exact q1
      · rw [h.cell (p := ⟨b2, off2 + 2, none⟩) hb]; exact q2
      · rw [h.cell (p := ⟨b2, off2 + 3, none⟩) hb]; exact q3
      · rw [h.cell (p := ⟨b2, off2 + 4, none⟩) hb]; exact q4
      · rw [h.cell (p := ⟨b2, off2 + 5, none⟩) hb]; exact q5
    have HSA : Hid (sameA d' (rl[i]'hin) = true) := Lib.hid (sameA_true HD'.out)
    clear hrow2 hin2 hb6 hly2 q0 q1 q2 q3 q4 q5
    have HALL : Hid (∀ W, Below w6.heap.size w6 W → (W.cell? ⟨b, off + i * 6, none⟩ = some x0 ∧ W.cell? ⟨b, off + i * 6 + 1, none⟩ = some x1 ∧ W.cell? ⟨b, off + i * 6 + 2, none⟩ = some x2 ∧ W.cell? ⟨b, off + i * 6 + 3, none⟩ = some x3 ∧ W.cell? ⟨b, off + i * 6 + 4, none⟩ = some x4 ∧ W.cell? ⟨b, off + i * 6 + 5, none⟩ = some x5) ∧ W.cell? ⟨b2, off2, none⟩ = some y0 ∧ W.cell? ⟨b2, off2 + 1, none⟩ = some y1 ∧ W.cell? ⟨b2, off2 + 2, none⟩ = some y2 ∧ W.cell? ⟨b2, off2 + 3, none⟩ = some y3 ∧ W.cell? ⟨b2, off2 + 4, none⟩ = some y4 ∧ W.cell? ⟨b2, off2 + 5, none⟩ = some y5) := Lib.hid fun W h => ⟨HPP.out W (HB6.out.trans (h.mono HB6.out.size)), HQQ.out W h⟩
    go_wp2_with fail
    have hd0 := (Below.refl w6.heap.size w6).drew
    have hall := HALL.out _ hd0
    go_region_held_law (fun W => (W.cell? ⟨b, off + i * 6, none⟩ = some x0 ∧ W.cell? ⟨b, off + i * 6 + 1, none⟩ = some x1 ∧ W.cell? ⟨b, off + i * 6 + 2, none⟩ = some x2 ∧ W.cell? ⟨b, off + i * 6 + 3, none⟩ = some x3 ∧ W.cell? ⟨b, off + i * 6 + 4, none⟩ = some x4 ∧ W.cell? ⟨b, off + i * 6 + 5, none⟩ = some x5) ∧ W.cell? ⟨b2, off2, none⟩ = some y0 ∧ W.cell? ⟨b2, off2 + 1, none⟩ = some y1 ∧ W.cell? ⟨b2, off2 + 2, none⟩ = some y2 ∧ W.cell? ⟨b2, off2 + 3, none⟩ = some y3 ∧ W.cell? ⟨b2, off2 + 4, none⟩ = some y4 ∧ W.cell? ⟨b2, off2 + 5, none⟩ = some y5)
      (first | exact hall | exact HALL.out _ ha7)
      (first
        | (go_simp; go_at_call 16; refine (rsame_dm _ d' (rl[i]'hin) (Nat.le_refl _) [y0, y1, y2, y3, y4, y5] [x0, x1, x2, x3, x4, x5] _ (HLY2.out _ hd0) (HLY.out _ (HB6.out.trans (hd0.mono HB6.out.size)))).mono ?_; rw [HSA.out]; rintro e w7 ⟨rfl, hb7⟩; have ha7 := hd0.trans (hb7.mono hd0.size)))
    all_goals
      have HE := Lib.hid (HBL.out.trans ((HB6.out.trans (ha7.mono HB6.out.size)).mono HBL.out.size))
      go_wp2_with fail
      go_roundw
      case measure => simp only [intOf]; omega
      case rel => exact ⟨i + 1, by omega, by go_num, HE.out⟩
end Go.Proofs.YtpahfhjgcflifaaGreatDoor
