/- The law ReadSound, at any world. -/
import Derived.Test.YtpahfhjgcflifaaGreatDoorRdRead
import Derived.Test.YtpahfhjgcflifaaGreatDoorRdLight
import Derived.Test.YtpahfhjgcflifaaGreatDoorRdSize
import Derived.Deep.RegionHeldLaw
namespace Go.Proofs.YtpahfhjgcflifaaGreatDoor
open Go.RowKit

set_option maxRecDepth 100000 in
set_option maxHeartbeats 8000000 in
theorem readsound_any (D : Dm) (us : List Value) (w : World) (h : Lay w D us) (hsm : Sm 1048576 D) (ht : Tabs2 w) (hwd : Words w) (hmk : Marks w) :
    Calls Tryz.prog 3 #[.agg us.toArray] w fun e w' => e = .returned (.bool true) ∧ Below w.heap.size w w' := by
  have hlen : us.length = 6 := by cases h; rfl
  obtain ⟨u0, u1, u2, u3, u4, u5, rfl⟩ : ∃ u0 u1 u2 u3 u4 u5, us = [u0, u1, u2, u3, u4, u5] := by
    match us, hlen with
    | [a, b, c, d, e, f], _ => exact ⟨a, b, c, d, e, f, rfl⟩
  have hb1 := below1 w (.cells #[u0, u1, u2, u3, u4, u5] 27)
  have hx1 := heap_alloc_new w (.cells #[u0, u1, u2, u3, u4, u5] 27)
  have HL0 := Lib.hid h
  have HSM := Lib.hid hsm
  have HB1 := Lib.hid hb1
  have HT := Lib.hid (ht.below hb1)
  have HW := Lib.hid (hwd.below hb1)
  have HM := Lib.hid (hmk.below hb1)
  obtain ⟨c0, c1, c2, c3, c4, c5⟩ := row6 hx1
  have hsz : w.heap.size < (w.alloc (.cells #[u0, u1, u2, u3, u4, u5] 27)).heap.size := by simp
  have HX1 := Lib.hid hx1
  clear h hsm ht hwd hmk hb1 hx1 hlen
  show Calls Tryz.prog 3 #[.agg #[u0, u1, u2, u3, u4, u5]] w _
  go_enter Tryz.func3, Tryz.ntmps3
  go_wp2_with fail
  have hlc := light_dm 100 D [u0, u1, u2, u3, u4, u5] (w.alloc (.cells #[u0, u1, u2, u3, u4, u5] 27)) 1 (by omega) (by omega) (HL0.out.keep HB1.out)
  refine hlc.mono ?_
  clear hlc
  rintro e w1 ⟨rfl, hb⟩
  have HB := Lib.hid (HB1.out.trans (hb.mono HB1.out.size))
  have HT1 := Lib.hid (HT.out.below hb)
  have HW1 := Lib.hid (HW.out.below hb)
  have HM1 := Lib.hid (HM.out.below hb)
  have hx2 := (hb.block w.heap.size hsz).trans HX1.out
  have HX2 := Lib.hid hx2
  have hsz1 : w.heap.size < w1.heap.size := Nat.lt_of_lt_of_le hsz hb.size
  clear hb c0 c1 c2 c3 c4 c5 hsz HT HW HM HX1
  cases hli : lightA 100 D with
  | false =>
    go_wp2_with fail
    refine (ranswers_any _ HT1.out HW1.out HM1.out).mono ?_
    rintro e w2 ⟨rfl, hb2⟩
    have HB2 := Lib.hid (HB.out.trans (hb2.mono HB.out.size))
    clear hb2
    go_wp2_with fail
    go_ret
    exact ⟨rfl, HB2.out⟩
  | true =>
    have HC : Hid (∀ W', Below w1.heap.size w1 W' → (W'.cell? ⟨w.heap.size, 0, none⟩ = some u0 ∧ W'.cell? ⟨w.heap.size, 1, none⟩ = some u1 ∧ W'.cell? ⟨w.heap.size, 2, none⟩ = some u2 ∧ W'.cell? ⟨w.heap.size, 3, none⟩ = some u3 ∧ W'.cell? ⟨w.heap.size, 4, none⟩ = some u4 ∧ W'.cell? ⟨w.heap.size, 5, none⟩ = some u5)) := Lib.hid fun W' hW => row6 ((hW.block w.heap.size hsz1).trans HX2.out)
    have HL : Hid (∀ W', Below w1.heap.size w1 W' → Lay W' D [u0, u1, u2, u3, u4, u5]) := Lib.hid fun W' hW => HL0.out.keep (HB.out.trans (hW.mono HB.out.size))
    have HD0 := Lib.hid (Below.refl w1.heap.size w1).drew
    have HTD := Lib.hid (HT1.out.below HD0.out)
    have HWD := Lib.hid (HW1.out.below HD0.out)
    have HMD := Lib.hid (HM1.out.below HD0.out)
    have HTX : Hid (∀ W', Below w1.heap.size w1 W' → Tabs W') := Lib.hid fun W' hW => (HT1.out.below hW).1
    have hE : (sndD D == sndD D) = true := by simp
    have hall := HC.out w1.drew HD0.out
    have HS2 : Hid (Sm 1100000 D) := Lib.hid (HSM.out.mono (by omega))
    clear HX2 HL0 hli hx2
    go_wp2_with fail
    go_region_held_law (fun W' => W'.cell? ⟨w.heap.size, 0, none⟩ = some u0 ∧ W'.cell? ⟨w.heap.size, 1, none⟩ = some u1 ∧ W'.cell? ⟨w.heap.size, 2, none⟩ = some u2 ∧ W'.cell? ⟨w.heap.size, 3, none⟩ = some u3 ∧ W'.cell? ⟨w.heap.size, 4, none⟩ = some u4 ∧ W'.cell? ⟨w.heap.size, 5, none⟩ = some u5)
      (first | exact hall | exact HC.out _ ha4 | exact HC.out _ ha5 | exact HC.out _ ha3 | exact HC.out _ ha2)
      (first
        | (go_simp; go_at_call 11; refine (ranswers_any _ HTD.out HWD.out HMD.out).mono ?_; rintro e w2 ⟨rfl, hb2⟩; have ha2 := HD0.out.trans (hb2.mono HD0.out.size))
        | (go_simp; go_at_call 13; refine (own_dm 1048576 (by omega) _ D (Nat.le_refl _) HSM.out [u0, u1, u2, u3, u4, u5] _ (by first | exact HL.out _ ha5 | exact HL.out _ ha2)).mono ?_; rintro e w3 ⟨us3, rfl, hl3, hb3⟩; have ha3 : Below w1.heap.size w1 w3 := (by first | exact ha5.trans (hb3.mono ha5.size) | exact ha2.trans (hb3.mono ha2.size)); have hl4 := hl3.lay)
        | (go_simp; go_at_call 12; refine (dsound_any D us3 _ (by first | exact hl4 | exact hl4.keep hb5) HS2.out (by first | exact HTX.out _ ha3 | exact HTX.out _ ha5)).mono ?_; rintro e w4 ⟨rfl, hb4⟩; have ha4 : Below w1.heap.size w1 w4 := (by first | exact ha3.trans (hb4.mono ha3.size) | exact ha5.trans (hb4.mono ha5.size)))
        | (go_simp; go_at_call 14; refine (rdsound_any D [u0, u1, u2, u3, u4, u5] _ (by first | exact HL.out _ ha4 | exact HL.out _ ha3 | exact HL.out _ ha2) HS2.out).mono ?_; rintro e w5 ⟨rfl, hb5⟩; have ha5 : Below w1.heap.size w1 w5 := (by first | exact ha4.trans (hb5.mono ha4.size) | exact ha3.trans (hb5.mono ha3.size) | exact ha2.trans (hb5.mono ha2.size))))
    all_goals
      go_wp2_with fail
      go_ret
      first
        | exact ⟨rfl, HB.out.trans (ha5.mono HB.out.size)⟩
        | exact ⟨rfl, HB.out.trans (ha4.mono HB.out.size)⟩
end Go.Proofs.YtpahfhjgcflifaaGreatDoor
