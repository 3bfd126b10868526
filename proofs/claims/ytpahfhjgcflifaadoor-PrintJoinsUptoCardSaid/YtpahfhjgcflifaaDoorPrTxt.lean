/- The law PrintTexts, at any world. -/
import Derived.Test.YtpahfhjgcflifaaDoorPrP
namespace Go.Proofs.YtpahfhjgcflifaaDoor
open Go.RowKit

set_option maxRecDepth 100000 in
set_option maxHeartbeats 4000000 in
theorem ptexts_any (D : Dm) (us : List Value) (w : World) (h1 : Lay w D us) (hsm : Sm 1048576 D) (ht : PrT w) :
    Calls Tryd.prog 4 #[.agg us.toArray] w (TrueP w) := by
  have HLY := Lib.hid h1
  have HSM := Lib.hid (hsm.mono (show 1048576 ≤ 1100000 by omega))
  have HSO := Lib.hid hsm
  have HT := Lib.hid ht
  obtain ⟨k2, t2, n2, o3, m3, c3, o4, m4, c4, a2, rfl⟩ := h1.slots
  obtain ⟨us, hus⟩ : ∃ us : List Value, us = [.int .i64 k2, .string t2, .bool n2, .slice o3 m3 c3, .slice o4 m4 c4, .int .i64 a2] := ⟨_, rfl⟩
  have HUS := Lib.hid hus
  have HBB := Lib.hid (below1 w (.cells #[.int .i64 k2, .string t2, .bool n2, .slice o3 m3 c3, .slice o4 m4 c4, .int .i64 a2] 33))
  have HBX := Lib.hid (box1 w #[.int .i64 k2, .string t2, .bool n2, .slice o3 m3 c3, .slice o4 m4 c4, .int .i64 a2] 33)
  have HRW : Hid (∀ W, Below (w.heap.size + 1) (w.alloc (.cells #[.int .i64 k2, .string t2, .bool n2, .slice o3 m3 c3, .slice o4 m4 c4, .int .i64 a2] 33)) W → W.heap[w.heap.size]? = some (.cells #[.int .i64 k2, .string t2, .bool n2, .slice o3 m3 c3, .slice o4 m4 c4, .int .i64 a2] 33 (0, 0)) ∧ Below w.heap.size w W) := Lib.hid fun W h => ⟨(h.block w.heap.size (by omega)).trans HBX.out, HBB.out.trans (h.mono (by omega))⟩
  have hz0 : w.heap.size + 1 = (w.alloc (.cells #[.int .i64 k2, .string t2, .bool n2, .slice o3 m3 c3, .slice o4 m4 c4, .int .i64 a2] 33)).heap.size := by simp
  have HZ0 := Lib.hid hz0
  obtain ⟨a0, a1, a2', a3, a4, a5⟩ := row6 HBX.out
  clear h1 hsm ht hz0 hus
  show Calls Tryd.prog 4 #[.agg #[.int .i64 k2, .string t2, .bool n2, .slice o3 m3 c3, .slice o4 m4 c4, .int .i64 a2]] w _
  go_enter Tryd.func4, Tryd.ntmps4
  go_wp2_with fail
  clear a0 a1 a2' a3 a4 a5
  refine (light5_dm 100 D [.int .i64 k2, .string t2, .bool n2, .slice o3 m3 c3, .slice o4 m4 c4, .int .i64 a2] _ 1 (by omega) (by omega) (HLY.out.keep HBB.out)).mono ?_
  rintro e w1 ⟨rfl, hb⟩
  rw [← HZ0.out] at hb
  have HC := Lib.hid hb
  clear hb
  have HZ1 : Hid (w.heap.size + 1 ≤ w1.heap.size) := Lib.hid (by have := HC.out.size; rw [← HZ0.out] at this; exact this)
  cases hq1 : lightA 100 D
  case false =>
    go_wp2_with fail
    refine (panswers_any w1 (HT.out.below (HRW.out _ HC.out).2)).mono ?_
    rintro e w2 ⟨rfl, hb⟩
    have H2 := Lib.hid (HC.out.trans (hb.mono HZ1.out))
    clear hb
    go_wp2_with fail
    go_ret
    exact ⟨rfl, (HRW.out _ H2.out).2⟩
  clear hq1
  obtain ⟨a0, a1, a2', a3, a4, a5⟩ := row6 (HRW.out _ HC.out).1
  go_wp2_with fail
  clear a0 a1 a2' a3 a4 a5
  refine (own5_dm 1048576 (by omega) _ D (Nat.le_refl _) HSO.out [.int .i64 k2, .string t2, .bool n2, .slice o3 m3 c3, .slice o4 m4 c4, .int .i64 a2] _ (HLY.out.keep (HRW.out _ HC.out).2)).mono ?_
  rintro e w2 ⟨us2, rfl, hl2, hb⟩
  have H2 := Lib.hid (HC.out.trans (hb.mono HZ1.out))
  have HZ2 : Hid (w.heap.size + 1 ≤ w2.heap.size) := Lib.hid (Nat.le_trans HZ1.out hb.size)
  clear hb
  obtain ⟨k3, t3, n3, p3, q3, r3, p4, q4, r4, a3, rfl⟩ := hl2.lay.slots
  have HL2 := Lib.hid hl2.lay
  clear hl2
  go_wp2_with fail
  refine (print_any D [.int .i64 k3, .string t3, .bool n3, .slice p3 q3 r3, .slice p4 q4 r4, .int .i64 a3] w2 HL2.out HSM.out (HT.out.below (HRW.out _ H2.out).2)).mono ?_
  rintro e w3 ⟨hcase, hb⟩
  have H3 := Lib.hid (H2.out.trans (hb.mono HZ2.out))
  have HZ3 : Hid (w.heap.size + 1 ≤ w3.heap.size) := Lib.hid (Nat.le_trans HZ2.out hb.size)
  clear hb
  rcases hcase with ⟨hq, rfl⟩ | ⟨hq, rfl⟩
  · have HQ := Lib.hid hq
    clear hq
    obtain ⟨S, hS⟩ : ∃ S, S = mkB D.tb := ⟨_, rfl⟩
    rw [← hS]
    have HS := Lib.hid hS
    clear hS
    obtain ⟨a0, a1, a2', a3', a4, a5⟩ := row6 (HRW.out _ H3.out).1
    go_wp2_with fail
    clear a0 a1 a2' a3' a4 a5
    refine (rdsound_any D [.int .i64 k2, .string t2, .bool n2, .slice o3 m3 c3, .slice o4 m4 c4, .int .i64 a2] _ (HLY.out.keep (HRW.out _ H3.out).2) HSM.out).mono ?_
    rw [HQ.out]
    rintro e w4 ⟨rfl, hb⟩
    have H4 := Lib.hid (H3.out.trans (hb.mono HZ3.out))
    have HZ4 : Hid (w.heap.size + 1 ≤ w4.heap.size) := Lib.hid (Nat.le_trans HZ3.out hb.size)
    clear hb
    go_wp2_with fail
    refine (panswers_any w4 (HT.out.below (HRW.out _ H4.out).2)).mono ?_
    rintro e w5 ⟨rfl, hb⟩
    have H5 := Lib.hid (H4.out.trans (hb.mono HZ4.out))
    have HZ5 : Hid (w.heap.size + 1 ≤ w5.heap.size) := Lib.hid (Nat.le_trans HZ4.out hb.size)
    clear hb
    obtain ⟨a0, a1, a2', a3', a4, a5⟩ := row6 (HRW.out _ H5.out).1
    have hq2 := HQ.out
    unfold sndD at hq2
    rw [Bool.and_eq_true, decide_eq_true_iff] at hq2
    have HQ2 := Lib.hid hq2
    clear hq2
    go_wp2_with fail
    clear a0 a1 a2' a3' a4 a5
    refine (rtext_dm _ D (Nat.le_refl _) 64 HQ2.out.1 HSM.out HQ2.out.2 [.int .i64 k2, .string t2, .bool n2, .slice o3 m3 c3, .slice o4 m4 c4, .int .i64 a2] _ (HLY.out.keep (HRW.out _ H5.out).2)).mono ?_
    unfold RtP
    rw [← HS.out]
    rintro e w6 ⟨rfl, hb⟩
    have H6 := Lib.hid (H5.out.trans (hb.mono HZ5.out))
    clear hb
    go_wp2_with fail
    go_ret
    exact ⟨rfl, (HRW.out _ H6.out).2⟩
  · have HQ := Lib.hid hq
    clear hq
    obtain ⟨a0, a1, a2', a3', a4, a5⟩ := row6 (HRW.out _ H3.out).1
    go_wp2_with fail
    clear a0 a1 a2' a3' a4 a5
    refine (rdsound_any D [.int .i64 k2, .string t2, .bool n2, .slice o3 m3 c3, .slice o4 m4 c4, .int .i64 a2] _ (HLY.out.keep (HRW.out _ H3.out).2) HSM.out).mono ?_
    rw [HQ.out]
    rintro e w4 ⟨rfl, hb⟩
    have H4 := Lib.hid (H3.out.trans (hb.mono HZ3.out))
    have HZ4 : Hid (w.heap.size + 1 ≤ w4.heap.size) := Lib.hid (Nat.le_trans HZ3.out hb.size)
    clear hb
    go_wp2_with fail
    refine (panswers_any w4 (HT.out.below (HRW.out _ H4.out).2)).mono ?_
    rintro e w5 ⟨rfl, hb⟩
    have H5 := Lib.hid (H4.out.trans (hb.mono HZ4.out))
    clear hb
    go_wp2_with fail
    go_ret
    exact ⟨rfl, (HRW.out _ H5.out).2⟩
end Go.Proofs.YtpahfhjgcflifaaDoor
