/- The law ReadMany, at any world. -/
import Derived.Test.YtpahfhjgcflifaaDoorRdManyM
namespace Go.Proofs.YtpahfhjgcflifaaDoor
open Go.RowKit

def MtInv (sk : Bool) (w wr : World) (v : Value) (q : Nat) : Prop := wr.ownsRow w.heap.size 5 1 v (mT sk q).length (cellsOf .u8 (mT sk q)) ∧ Below w.heap.size w wr
theorem mT_by (sk : Bool) (K : Nat) : By (mT sk K) := fun i => by
  rcases Nat.lt_or_ge i (mT sk K).length with h | h
  · have := mT_low sk K (limb (mT sk K) i) (by rw [limb_lt h]; exact List.getElem_mem _)
    omega
  · rw [limb_out h]; omega
set_option maxRecDepth 100000 in
set_option maxHeartbeats 8000000 in
theorem readmany_any (x : Int) (sk : Bool) (w : World) (ht : Tabs2 w) (hwd : Words w) (hmk : Marks w) (hx0 : 0 ≤ x) (hx1 : x ≤ 255) :
    Calls Tryd.prog 3 #[.int .u8 x, .bool sk] w fun e w' => e = .returned (.bool true) ∧ Below w.heap.size w w' := by
  obtain ⟨i0, hi, hz0, hz1, hz2⟩ := info_parts infoU8
  obtain ⟨K, hK⟩ : ∃ K : Nat, ((K : Nat) : Int) = 8190 + x % 5 := ⟨(8190 + x % 5).toNat, by omega⟩
  have hK1 : 8190 ≤ K ∧ K ≤ 8194 := by omega
  have HT := Lib.hid ht
  have HW := Lib.hid hwd
  have HM := Lib.hid hmk
  have HK := Lib.hid hK
  have HK1 := Lib.hid hK1
  have HRD := Lib.hid (many_read sk K (by omega))
  clear ht hwd hmk hK hK1
  go_enter Tryd.func3, Tryd.ntmps3
  go_wp2_with (at_make; refine wpList_make_own _ rfl _ _ 22 rfl w.heap.size 5 i0 (.int .u8 0) 1 Tryd.underlying22 hi hz0 hz1 _ _ _ 20000 rfl rfl rfl (by rw [hz2]; omega) (by unfold maxLen; omega) (Nat.le_refl _) ?_; intro w1 hown hgrow)
  rw [← HK.out]
  have hb1 : Below w.heap.size w w1 := (Below.refl _ w).grown hgrow (Nat.le_refl _) (fun _ h => by cases h)
  have H1 : Hid (MtInv sk w w1 (.slice (some ⟨w.heap.size, 0, none⟩) 0 20000) 0) := Lib.hid ⟨hown, hb1⟩
  clear hown hgrow hb1
  go_loopw [6, 7] (fun v i wr => ∃ q : Nat, q ≤ K ∧ i = .int .i64 (q : Nat) ∧ MtInv sk w wr v q) (fun _ i _ => K - (intOf i).toNat)
  case atStart => exact ⟨0, Nat.zero_le _, rfl, H1.out⟩
  case round =>
    obtain ⟨q, hq, rfl, hown, hbel⟩ := hrel
    have hml := mT_len sk q
    have hk1 := HK1.out
    clear H1
    by_cases hqk : q < K
    · have hki : ((q : Nat) : Int) < ((K : Nat) : Int) := by omega
      have HOW := Lib.hid hown; clear hown
      have hsz := hbel.size
      have HBL := Lib.hid hbel; clear hbel
      by_cases hs : sk = true ∧ q % 1000 = 0
      · obtain ⟨rfl, hs2⟩ := hs
        have hm0 : (((q : Nat) : Int).tmod 1000 == 0) = true := by rw [show ((q : Nat) : Int).tmod 1000 = ((q % 1000 : Nat) : Int) by rw [Int.tmod_eq_emod_of_nonneg (by omega)]; omega, hs2]; rfl
        have hm1 : (((q : Nat) : Int) % 1000 == 0) = true := by rw [show ((q : Nat) : Int) % 1000 = ((q % 1000 : Nat) : Int) by omega, hs2]; rfl
        have HE : Hid (mT true (q + 1) = (mT true q ++ [35, 59]) ++ [97, 32]) := Lib.hid (by rw [mT, show mE true q = [35, 59] from if_pos ⟨rfl, hs2⟩, List.append_assoc])
        clear hs2
        go_wp2_with (first | (at_builtin; (refine wpList_append_own _ rfl _ _ 22 rfl w.heap.size 5 i0 (.int .u8 0) 1 1 Tryd.underlying22 hi hz0 hz1 hz2 rfl (by decide) _ (mT true q).length (cellsOf .u8 (mT true q)) rfl (HOW.out.alloc _) ⟨wr.heap.size, 0, none⟩ 2 2 [.int .u8 35, .int .u8 59] rfl (by simp) (by intro j u hu; rw [Addr.add_lit]; exact (cell_of_row _ _ _ _ _ (0, 0) (heap_alloc_new _ _)).trans (by simpa using hu)) (by intro u hu; simp only [List.mem_cons, List.not_mem_nil, or_false] at hu; rcases hu with rfl | rfl <;> rfl) (by unfold maxLen; omega) (by omega) (by simp; omega) ?_); intro v1 w2 hown1 hgrow1 hnil; clear hnil; have hs2 := hgrow1.size; simp only [World.size_alloc] at hs2) | (at_builtin; (refine wpList_append_own _ rfl _ _ 22 rfl w.heap.size 5 i0 (.int .u8 0) 1 1 Tryd.underlying22 hi hz0 hz1 hz2 rfl (by decide) _ ((mT true q).length + 2) (cellsOf .u8 (mT true q) ++ [.int .u8 35, .int .u8 59]) rfl (hown1.alloc _) ⟨w2.heap.size, 0, none⟩ 2 2 [.int .u8 97, .int .u8 32] rfl (by simp) (by intro j u hu; rw [Addr.add_lit]; exact (cell_of_row _ _ _ _ _ (0, 0) (heap_alloc_new _ _)).trans (by simpa using hu)) (by intro u hu; simp only [List.mem_cons, List.not_mem_nil, or_false] at hu; rcases hu with rfl | rfl <;> rfl) (by unfold maxLen; omega) (by omega) (by simp; omega) ?_); intro v2 w3 hown2 hgrow2 hnil; clear hnil))
        go_roundw
        case measure => simp only [intOf]; omega
        case rel =>
          have hlo := HOW.out.lt
          have hlo1 := hown1.lt
          have hg1 : World.grownBy _ w2 (Value.ownBlock _) := hgrow1
          have hg2 : World.grownBy _ w3 (Value.ownBlock _) := hgrow2
          have hb2 : Below w.heap.size w w2 := (HBL.out.alloc HBL.out.size _).grown hg1 (by simp; omega) (fun k hk => by have := (hlo k hk).1; omega)
          refine ⟨q + 1, by omega, by go_num, ?_, (hb2.alloc hb2.size _).grown hg2 (by simp; omega) (fun k hk => by have := (hlo1 k hk).1; omega)⟩
          have e1 : cellsOf .u8 (mT true q) ++ [.int .u8 35, .int .u8 59] ++ [.int .u8 97, .int .u8 32] = cellsOf .u8 (mT true (q + 1)) := by rw [HE.out]; simp [cellsOf]
          have e2 : (mT true q).length + 2 + 2 = (mT true (q + 1)).length := by rw [HE.out]; simp
          rw [e1, e2] at hown2
          exact hown2
      · have HE : Hid (mT sk (q + 1) = mT sk q ++ [97, 32]) := Lib.hid (by rw [mT, show mE sk q = [] from if_neg hs, List.nil_append])
        cases sk with
        | false =>
          clear hs
          go_wp2_with (at_builtin; (refine wpList_append_own _ rfl _ _ 22 rfl w.heap.size 5 i0 (.int .u8 0) 1 1 Tryd.underlying22 hi hz0 hz1 hz2 rfl (by decide) _ (mT false q).length (cellsOf .u8 (mT false q)) rfl (HOW.out.alloc _) ⟨wr.heap.size, 0, none⟩ 2 2 [.int .u8 97, .int .u8 32] rfl (by simp) (by intro j u hu; rw [Addr.add_lit]; exact (cell_of_row _ _ _ _ _ (0, 0) (heap_alloc_new _ _)).trans (by simpa using hu)) (by intro u hu; simp only [List.mem_cons, List.not_mem_nil, or_false] at hu; rcases hu with rfl | rfl <;> rfl) (by unfold maxLen; omega) (by omega) (by simp; omega) ?_); intro v2 w3 hown2 hgrow2 hnil; clear hnil)
          go_roundw
          case measure => simp only [intOf]; omega
          case rel =>
            have hlo := HOW.out.lt
            have hg2 : World.grownBy _ w3 (Value.ownBlock _) := hgrow2
            refine ⟨q + 1, by omega, by go_num, ?_, (HBL.out.alloc HBL.out.size _).grown hg2 (by simp; omega) (fun k hk => by have := (hlo k hk).1; omega)⟩
            have e1 : cellsOf .u8 (mT false q) ++ [.int .u8 97, .int .u8 32] = cellsOf .u8 (mT false (q + 1)) := by rw [HE.out]; simp [cellsOf]
            have e2 : (mT false q).length + 2 = (mT false (q + 1)).length := by rw [HE.out]; simp
            rw [e1, e2] at hown2
            exact hown2
        | true =>
          have hs2 : q % 1000 ≠ 0 := fun h => hs ⟨rfl, h⟩
          have hm0 : (((q : Nat) : Int).tmod 1000 == 0) = false := by rw [show ((q : Nat) : Int).tmod 1000 = ((q % 1000 : Nat) : Int) by rw [Int.tmod_eq_emod_of_nonneg (by omega)]; omega]; simp; omega
          have hm1 : (((q : Nat) : Int) % 1000 == 0) = false := by rw [show ((q : Nat) : Int) % 1000 = ((q % 1000 : Nat) : Int) by omega]; simp; omega
          clear hs hs2
          go_wp2_with (at_builtin; (refine wpList_append_own _ rfl _ _ 22 rfl w.heap.size 5 i0 (.int .u8 0) 1 1 Tryd.underlying22 hi hz0 hz1 hz2 rfl (by decide) _ (mT true q).length (cellsOf .u8 (mT true q)) rfl (HOW.out.alloc _) ⟨wr.heap.size, 0, none⟩ 2 2 [.int .u8 97, .int .u8 32] rfl (by simp) (by intro j u hu; rw [Addr.add_lit]; exact (cell_of_row _ _ _ _ _ (0, 0) (heap_alloc_new _ _)).trans (by simpa using hu)) (by intro u hu; simp only [List.mem_cons, List.not_mem_nil, or_false] at hu; rcases hu with rfl | rfl <;> rfl) (by unfold maxLen; omega) (by omega) (by simp; omega) ?_); intro v2 w3 hown2 hgrow2 hnil; clear hnil)
          go_roundw
          case measure => simp only [intOf]; omega
          case rel =>
            have hlo := HOW.out.lt
            have hg2 : World.grownBy _ w3 (Value.ownBlock _) := hgrow2
            refine ⟨q + 1, by omega, by go_num, ?_, (HBL.out.alloc HBL.out.size _).grown hg2 (by simp; omega) (fun k hk => by have := (hlo k hk).1; omega)⟩
            have e1 : cellsOf .u8 (mT true q) ++ [.int .u8 97, .int .u8 32] = cellsOf .u8 (mT true (q + 1)) := by rw [HE.out]; simp [cellsOf]
            have e2 : (mT true q).length + 2 = (mT true (q + 1)).length := by rw [HE.out]; simp
            rw [e1, e2] at hown2
            exact hown2
    · obtain rfl : q = K := by omega
      have hsl : Sl .u8 wr _ (mT sk q) := owns_sl hown
      have HBL := Lib.hid hbel
      have hcall := read_all _ (mT sk q) 3 wr hsl (mT_by sk q) (HT.out.below hbel) (HW.out.below hbel) (HM.out.below hbel)
      clear hown hbel hsl
      go_wp2_with fail
      refine hcall.mono ?_
      clear hcall
      by_cases h8 : q ≤ 8192
      · obtain ⟨l, hr, hlg⟩ := HRD.out.1 h8
        rw [hr]
        rintro e w4 ⟨vv, us, rfl, hrow, hin, hbb⟩
        have HB4 := Lib.hid (HBL.out.trans (hbb.mono HBL.out.size))
        obtain ⟨_, _, vo, vc, rfl, _⟩ := hrow
        have i1 : ¬ (8192 : Int) < ((q : Nat) : Int) := by omega
        clear hin hbb
        simp only
        cases sk with
        | false =>
          rw [gone_no] at hlg
          have HLG : Hid (l.length = q) := Lib.hid (by omega)
          go_wp2_with fail
          refine (ranswers_any _ (HT.out.below HB4.out) (HW.out.below HB4.out) (HM.out.below HB4.out)).mono ?_
          rintro e w5 ⟨rfl, hb5⟩
          have HB5 := Lib.hid (HB4.out.trans (hb5.mono HB4.out.size))
          clear hb5
          rw [HLG.out]
          go_wp2_with fail
          go_ret
          exact ⟨by simp, HB5.out⟩
        | true =>
          rw [gone_yes] at hlg
          have hd0 : (((q : Nat) : Int) + 999).tdiv 1000 = (((q + 999) / 1000 : Nat) : Int) := by rw [Int.tdiv_eq_ediv_of_nonneg (by omega)]; omega
          obtain ⟨G, hG⟩ : ∃ G, G = (q + 999) / 1000 := ⟨_, rfl⟩
          rw [← hG] at hlg hd0
          have hGq : G ≤ q := by omega
          have hdd : (((q : Nat) : Int) + 999) / 1000 = ((G : Nat) : Int) := by omega
          have HLG : Hid (((l.length : Nat) : Int) = ((q : Nat) : Int) - ((G : Nat) : Int)) := Lib.hid (by omega)
          clear hlg hG
          go_wp2_with fail
          refine (ranswers_any _ (HT.out.below HB4.out) (HW.out.below HB4.out) (HM.out.below HB4.out)).mono ?_
          rintro e w5 ⟨rfl, hb5⟩
          have HB5 := Lib.hid (HB4.out.trans (hb5.mono HB4.out.size))
          clear hb5
          go_wp2_with fail
          go_ret
          exact ⟨by rw [HLG.out]; simp, HB5.out⟩
      · obtain ⟨a, ha, hr⟩ := HRD.out.2 (by omega)
        rw [hr]
        rintro e w4 ⟨vv, us, rfl, hrow, hin, hbb⟩
        have HB4 := Lib.hid (HBL.out.trans (hbb.mono HBL.out.size))
        obtain ⟨_, _, vo, vc, rfl, _⟩ := hrow
        have i1 : (8192 : Int) < ((q : Nat) : Int) := by omega
        have i2 : (0 : Int) < ((a : Nat) : Int) := by omega
        clear hin hbb ha hr
        simp only
        go_wp2_with fail
        refine (ranswers_any _ (HT.out.below HB4.out) (HW.out.below HB4.out) (HM.out.below HB4.out)).mono ?_
        rintro e w5 ⟨rfl, hb5⟩
        have HB5 := Lib.hid (HB4.out.trans (hb5.mono HB4.out.size))
        clear hb5
        go_wp2_with fail
        go_ret
        exact ⟨rfl, HB5.out⟩
end Go.Proofs.YtpahfhjgcflifaaDoor
