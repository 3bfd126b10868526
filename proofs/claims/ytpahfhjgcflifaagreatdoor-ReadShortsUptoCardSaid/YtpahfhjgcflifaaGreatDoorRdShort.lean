/- The law ReadShorts, at any world. -/
import Derived.Test.YtpahfhjgcflifaaGreatDoorRdShortM
import Derived.Test.YtpahfhjgcflifaaGreatDoorRTx
import Derived.Test.YtpahfhjgcflifaaGreatDoorRTx
import Derived.Test.YtpahfhjgcflifaaGreatDoorRdSize
import Derived.Test.YtpahfhjgcflifaaGreatDoorOrd
import Derived.Deep.RegionHeldLaw
namespace Go.Proofs.YtpahfhjgcflifaaGreatDoor
open Go.RowKit

/-- Where a string array of six stands. -/
theorem six_at {W : World} {g k : Nat} {c0 c1 c2 c3 c4 c5 : Value} {fr : Nat × Nat} (h : W.heap[g]? = some (.cells #[c0, c1, c2, c3, c4, c5] 9 fr)) (hk : k < 6) : W.cell? ⟨g, k, none⟩ = some ([c0, c1, c2, c3, c4, c5][k]'hk) := by
  rw [cell_of_row W g k _ _ _ h]
  match k, hk with
  | 0, _ => rfl
  | 1, _ => rfl
  | 2, _ => rfl
  | 3, _ => rfl
  | 4, _ => rfl
  | 5, _ => rfl
def sgV : List Value := [.string ⟨#[39]⟩, .string ⟨#[44]⟩, .string ⟨#[44, 64]⟩, .string ⟨#[35, 39]⟩, .string ⟨#[35, 44]⟩, .string ⟨#[35, 44, 64]⟩]
def nmV : List Value := [.string ⟨#[113, 117, 111, 116, 101]⟩, .string ⟨#[117, 110, 113, 117, 111, 116, 101]⟩, .string ⟨#[117, 110, 113, 117, 111, 116, 101, 45, 115, 112, 108, 105, 99, 105, 110, 103]⟩, .string ⟨#[115, 121, 110, 116, 97, 120]⟩, .string ⟨#[117, 110, 115, 121, 110, 116, 97, 120]⟩, .string ⟨#[117, 110, 115, 121, 110, 116, 97, 120, 45, 115, 112, 108, 105, 99, 105, 110, 103]⟩]
theorem sgV_at {k : Nat} (hk : k < 6) : sgV[k]'hk = .string (mkB (sgA k)) := by
  match k, hk with
  | 0, _ => rfl
  | 1, _ => rfl
  | 2, _ => rfl
  | 3, _ => rfl
  | 4, _ => rfl
  | 5, _ => rfl
theorem nmV_at {k : Nat} (hk : k < 6) : nmV[k]'hk = .string (mkB (mName (miA k))) := by
  match k, hk with
  | 0, _ => rfl
  | 1, _ => rfl
  | 2, _ => rfl
  | 3, _ => rfl
  | 4, _ => rfl
  | 5, _ => rfl

/-- Four objects laid one behind the other. -/
theorem four_alloc (w : World) (o1 o2 o3 o4 : Obj) (W0 : World) (h : W0 = (((w.alloc o1).alloc o2).alloc o3).alloc o4) : W0.heap[w.heap.size]? = some o1 ∧ W0.heap[w.heap.size + 1]? = some o2 ∧ W0.heap[w.heap.size + 1 + 1]? = some o3 ∧ W0.heap[w.heap.size + 1 + 1 + 1]? = some o4 ∧ Below w.heap.size w W0 ∧ w.heap.size + 1 + 1 + 1 < W0.heap.size := by
  subst h
  have b1 := below1 w o1
  have b2 := b1.trans ((below1 (w.alloc o1) o2).mono b1.size)
  have b3 := b2.trans ((below1 ((w.alloc o1).alloc o2) o3).mono b2.size)
  refine ⟨?_, ?_, ?_, ?_, b3.trans ((below1 (((w.alloc o1).alloc o2).alloc o3) o4).mono b3.size), by simp⟩
  · rw [Below.heap_alloc _ _ _ (by simp; try omega), Below.heap_alloc _ _ _ (by simp; try omega), Below.heap_alloc _ _ _ (by simp)]
    exact heap_alloc_new w _
  · rw [Below.heap_alloc _ _ _ (by simp; try omega), Below.heap_alloc _ _ _ (by simp)]
    have := heap_alloc_new (w.alloc o1) o2
    simpa using this
  · rw [Below.heap_alloc _ _ _ (by simp)]
    have := heap_alloc_new ((w.alloc o1).alloc o2) o3
    simpa using this
  · have := heap_alloc_new (((w.alloc o1).alloc o2).alloc o3) o4
    simpa using this
set_option maxRecDepth 100000 in
set_option maxHeartbeats 8000000 in
theorem readshorts_any (D G : Dm) (us vs : List Value) (x : Int) (w : World) (h1 : Lay w D us) (h2 : Lay w G vs) (hsA : Sm 1048576 D) (hsB : Sm 1048576 G) (ht : Tabs2 w) (hwd : Words w) (hmk : Marks w) (hx0 : 0 ≤ x) (hx1 : x ≤ 255) :
    Calls Tryz.prog 7 #[.agg us.toArray, .agg vs.toArray, .int .u8 x] w fun e w' => e = .returned (.bool true) ∧ Below w.heap.size w w' := by
  have hlen : us.length = 6 := by cases h1; rfl
  have hlen2 : vs.length = 6 := by cases h2; rfl
  obtain ⟨u0, u1, u2, u3, u4, u5, rfl⟩ : ∃ u0 u1 u2 u3 u4 u5, us = [u0, u1, u2, u3, u4, u5] := by
    match us, hlen with
    | [a, b, c, d, e, f], _ => exact ⟨a, b, c, d, e, f, rfl⟩
  obtain ⟨v0, v1, v2, v3, v4, v5, rfl⟩ : ∃ u0 u1 u2 u3 u4 u5, vs = [u0, u1, u2, u3, u4, u5] := by
    match vs, hlen2 with
    | [a, b, c, d, e, f], _ => exact ⟨a, b, c, d, e, f, rfl⟩
  obtain ⟨k, hk⟩ : ∃ k : Nat, x.tmod 6 = ((k : Nat) : Int) := ⟨(x.tmod 6).toNat, by rw [Int.toNat_of_nonneg (Int.tmod_nonneg _ hx0)]⟩
  have hk6 : k < 6 := by have := Int.tmod_lt_of_pos x (show (0 : Int) < 6 by decide); omega
  have HLA := Lib.hid h1
  have HLB := Lib.hid h2
  have HSA := Lib.hid (hsA.mono (show 1048576 ≤ 1100000 by omega))
  have HSB := Lib.hid (hsB.mono (show 1048576 ≤ 1100000 by omega))
  have HT := Lib.hid ht
  have HW := Lib.hid hwd
  have HM := Lib.hid hmk
  clear h1 h2 hsA hsB ht hwd hmk hlen hlen2
  show Calls Tryz.prog 7 #[.agg #[u0, u1, u2, u3, u4, u5], .agg #[v0, v1, v2, v3, v4, v5], .int .u8 x] w _
  go_enter Tryz.func7, Tryz.ntmps7
  go_wp2_with fail
  generalize hW0 : ((((w.alloc (.cells #[u0, u1, u2, u3, u4, u5] 27)).alloc (.cells #[v0, v1, v2, v3, v4, v5] 27)).alloc (.cells #[.string ⟨#[39]⟩, .string ⟨#[44]⟩, .string ⟨#[44, 64]⟩, .string ⟨#[35, 39]⟩, .string ⟨#[35, 44]⟩, .string ⟨#[35, 44, 64]⟩] 9)).alloc (.cells #[.string ⟨#[113, 117, 111, 116, 101]⟩, .string ⟨#[117, 110, 113, 117, 111, 116, 101]⟩, .string ⟨#[117, 110, 113, 117, 111, 116, 101, 45, 115, 112, 108, 105, 99, 105, 110, 103]⟩, .string ⟨#[115, 121, 110, 116, 97, 120]⟩, .string ⟨#[117, 110, 115, 121, 110, 116, 97, 120]⟩, .string ⟨#[117, 110, 115, 121, 110, 116, 97, 120, 45, 115, 112, 108, 105, 99, 105, 110, 103]⟩] 9)) = W0
  obtain ⟨hx, hy, hg, hn, hb, hsz⟩ := four_alloc w _ _ _ _ W0 hW0.symm
  clear hW0
  have HX := Lib.hid hx
  have HY := Lib.hid hy
  have HG := Lib.hid hg
  have HN := Lib.hid hn
  have HB := Lib.hid hb
  clear hx hy hg hn hb
  refine (ranswers_any _ (HT.out.below HB.out) (HW.out.below HB.out) (HM.out.below HB.out)).mono ?_
  rintro e w1 ⟨rfl, hb1⟩
  have HC := Lib.hid hb1
  clear hb1
  obtain ⟨c0, c1, c2, c3, c4, c5⟩ := row6 ((HC.out.block _ (by omega)).trans HX.out)
  have HLW := Lib.hid (HLA.out.keep (HB.out.trans (HC.out.mono HB.out.size)))
  go_wp2_with fail
  refine (light_dm 100 D [u0, u1, u2, u3, u4, u5] _ 1 (by omega) (by omega) HLW.out).mono ?_
  rintro e wn ⟨rfl, hbn⟩
  replace HC := Lib.hid (HC.out.trans (hbn.mono HC.out.size))
  clear hbn HLW c0 c1 c2 c3 c4 c5
  cases hq1 : lightA 100 D
  case false =>
    go_wp2_with fail
    have hbf := HB.out.trans (HC.out.mono HB.out.size)
    refine (ranswers_any _ (HT.out.below hbf) (HW.out.below hbf) (HM.out.below hbf)).mono ?_
    rintro e wf ⟨rfl, hbg⟩
    have HF := Lib.hid (hbf.trans (hbg.mono hbf.size))
    clear hbf hbg
    go_wp2_with fail
    go_ret
    exact ⟨rfl, HF.out⟩
  have HQ1 := Lib.hid hq1
  clear hq1
  obtain ⟨c0, c1, c2, c3, c4, c5⟩ := row6 ((HC.out.block _ (by omega)).trans HY.out)
  have HLW := Lib.hid (HLB.out.keep (HB.out.trans (HC.out.mono HB.out.size)))
  go_wp2_with fail
  refine (light_dm 100 G [v0, v1, v2, v3, v4, v5] _ 1 (by omega) (by omega) HLW.out).mono ?_
  rintro e wn ⟨rfl, hbn⟩
  replace HC := Lib.hid (HC.out.trans (hbn.mono HC.out.size))
  clear hbn HLW c0 c1 c2 c3 c4 c5
  cases hq2 : lightA 100 G
  case false =>
    go_wp2_with fail
    have hbf := HB.out.trans (HC.out.mono HB.out.size)
    refine (ranswers_any _ (HT.out.below hbf) (HW.out.below hbf) (HM.out.below hbf)).mono ?_
    rintro e wf ⟨rfl, hbg⟩
    have HF := Lib.hid (hbf.trans (hbg.mono hbf.size))
    clear hbf hbg
    go_wp2_with fail
    go_ret
    exact ⟨rfl, HF.out⟩
  have HQ2 := Lib.hid hq2
  clear hq2
  obtain ⟨c0, c1, c2, c3, c4, c5⟩ := row6 ((HC.out.block _ (by omega)).trans HX.out)
  have HLW := Lib.hid (HLA.out.keep (HB.out.trans (HC.out.mono HB.out.size)))
  go_wp2_with fail
  refine (rdsound_any D [u0, u1, u2, u3, u4, u5] _ HLW.out HSA.out).mono ?_
  rintro e wn ⟨rfl, hbn⟩
  replace HC := Lib.hid (HC.out.trans (hbn.mono HC.out.size))
  clear hbn HLW c0 c1 c2 c3 c4 c5
  cases hq3 : sndD D
  case false =>
    go_wp2_with fail
    have hbf := HB.out.trans (HC.out.mono HB.out.size)
    refine (ranswers_any _ (HT.out.below hbf) (HW.out.below hbf) (HM.out.below hbf)).mono ?_
    rintro e wf ⟨rfl, hbg⟩
    have HF := Lib.hid (hbf.trans (hbg.mono hbf.size))
    clear hbf hbg
    go_wp2_with fail
    go_ret
    exact ⟨rfl, HF.out⟩
  have HQ3 := Lib.hid hq3
  clear hq3
  obtain ⟨c0, c1, c2, c3, c4, c5⟩ := row6 ((HC.out.block _ (by omega)).trans HY.out)
  have HLW := Lib.hid (HLB.out.keep (HB.out.trans (HC.out.mono HB.out.size)))
  go_wp2_with fail
  refine (rdsound_any G [v0, v1, v2, v3, v4, v5] _ HLW.out HSB.out).mono ?_
  rintro e wn ⟨rfl, hbn⟩
  replace HC := Lib.hid (HC.out.trans (hbn.mono HC.out.size))
  clear hbn HLW c0 c1 c2 c3 c4 c5
  cases hq4 : sndD G
  case false =>
    go_wp2_with fail
    have hbf := HB.out.trans (HC.out.mono HB.out.size)
    refine (ranswers_any _ (HT.out.below hbf) (HW.out.below hbf) (HM.out.below hbf)).mono ?_
    rintro e wf ⟨rfl, hbg⟩
    have HF := Lib.hid (hbf.trans (hbg.mono hbf.size))
    clear hbf hbg
    go_wp2_with fail
    go_ret
    exact ⟨rfl, HF.out⟩
  have HQ4 := Lib.hid hq4
  clear hq4
  obtain ⟨c0, c1, c2, c3, c4, c5⟩ := row6 ((HC.out.block _ (by omega)).trans HX.out)
  have HLW := Lib.hid (HLA.out.keep (HB.out.trans (HC.out.mono HB.out.size)))
  go_wp2_with fail
  refine (rothers_any _ D (Nat.le_refl _) [u0, u1, u2, u3, u4, u5] _ HLW.out).mono ?_
  rintro e wn ⟨rfl, hbn⟩
  replace HC := Lib.hid (HC.out.trans (hbn.mono HC.out.size))
  clear hbn HLW c0 c1 c2 c3 c4 c5
  cases hq5 : hasK 11 D
  case true =>
    go_wp2_with fail
    have hbf := HB.out.trans (HC.out.mono HB.out.size)
    refine (ranswers_any _ (HT.out.below hbf) (HW.out.below hbf) (HM.out.below hbf)).mono ?_
    rintro e wf ⟨rfl, hbg⟩
    have HF := Lib.hid (hbf.trans (hbg.mono hbf.size))
    clear hbf hbg
    go_wp2_with fail
    go_ret
    exact ⟨rfl, HF.out⟩
  have HQ5 := Lib.hid hq5
  clear hq5
  obtain ⟨c0, c1, c2, c3, c4, c5⟩ := row6 ((HC.out.block _ (by omega)).trans HX.out)
  have HLW := Lib.hid (HLA.out.keep (HB.out.trans (HC.out.mono HB.out.size)))
  go_wp2_with fail
  refine (rvoids_any _ D (Nat.le_refl _) [u0, u1, u2, u3, u4, u5] _ HLW.out).mono ?_
  rintro e wn ⟨rfl, hbn⟩
  replace HC := Lib.hid (HC.out.trans (hbn.mono HC.out.size))
  clear hbn HLW c0 c1 c2 c3 c4 c5
  cases hq6 : hasK 10 D
  case true =>
    go_wp2_with fail
    have hbf := HB.out.trans (HC.out.mono HB.out.size)
    refine (ranswers_any _ (HT.out.below hbf) (HW.out.below hbf) (HM.out.below hbf)).mono ?_
    rintro e wf ⟨rfl, hbg⟩
    have HF := Lib.hid (hbf.trans (hbg.mono hbf.size))
    clear hbf hbg
    go_wp2_with fail
    go_ret
    exact ⟨rfl, HF.out⟩
  have HQ6 := Lib.hid hq6
  clear hq6
  obtain ⟨c0, c1, c2, c3, c4, c5⟩ := row6 ((HC.out.block _ (by omega)).trans HY.out)
  have HLW := Lib.hid (HLB.out.keep (HB.out.trans (HC.out.mono HB.out.size)))
  go_wp2_with fail
  refine (rothers_any _ G (Nat.le_refl _) [v0, v1, v2, v3, v4, v5] _ HLW.out).mono ?_
  rintro e wn ⟨rfl, hbn⟩
  replace HC := Lib.hid (HC.out.trans (hbn.mono HC.out.size))
  clear hbn HLW c0 c1 c2 c3 c4 c5
  cases hq7 : hasK 11 G
  case true =>
    go_wp2_with fail
    have hbf := HB.out.trans (HC.out.mono HB.out.size)
    refine (ranswers_any _ (HT.out.below hbf) (HW.out.below hbf) (HM.out.below hbf)).mono ?_
    rintro e wf ⟨rfl, hbg⟩
    have HF := Lib.hid (hbf.trans (hbg.mono hbf.size))
    clear hbf hbg
    go_wp2_with fail
    go_ret
    exact ⟨rfl, HF.out⟩
  have HQ7 := Lib.hid hq7
  clear hq7
  obtain ⟨c0, c1, c2, c3, c4, c5⟩ := row6 ((HC.out.block _ (by omega)).trans HY.out)
  have HLW := Lib.hid (HLB.out.keep (HB.out.trans (HC.out.mono HB.out.size)))
  go_wp2_with fail
  refine (rvoids_any _ G (Nat.le_refl _) [v0, v1, v2, v3, v4, v5] _ HLW.out).mono ?_
  rintro e wn ⟨rfl, hbn⟩
  replace HC := Lib.hid (HC.out.trans (hbn.mono HC.out.size))
  clear hbn HLW c0 c1 c2 c3 c4 c5
  cases hq8 : hasK 10 G
  case true =>
    go_wp2_with fail
    have hbf := HB.out.trans (HC.out.mono HB.out.size)
    refine (ranswers_any _ (HT.out.below hbf) (HW.out.below hbf) (HM.out.below hbf)).mono ?_
    rintro e wf ⟨rfl, hbg⟩
    have HF := Lib.hid (hbf.trans (hbg.mono hbf.size))
    clear hbf hbg
    go_wp2_with fail
    go_ret
    exact ⟨rfl, HF.out⟩
  have HQ8 := Lib.hid hq8
  clear hq8
  have HWD : Hid (Wr D) := Lib.hid (by
    have h := HQ3.out
    unfold sndD at h
    rw [Bool.and_eq_true, decide_eq_true_iff] at h
    exact ⟨h.1, h.2, by unfold plainA; rw [HQ5.out, HQ6.out]; rfl, HLA.out.dby⟩)
  have HWG : Hid (Wr G) := Lib.hid (by
    have h := HQ4.out
    unfold sndD at h
    rw [Bool.and_eq_true, decide_eq_true_iff] at h
    exact ⟨h.1, h.2, by unfold plainA; rw [HQ7.out, HQ8.out]; rfl, HLB.out.dby⟩)
  have HXC : Hid (∀ W, Below wn.heap.size wn W → (W.cell? ⟨w.heap.size, 0, none⟩ = some u0 ∧ W.cell? ⟨w.heap.size, 1, none⟩ = some u1 ∧ W.cell? ⟨w.heap.size, 2, none⟩ = some u2 ∧ W.cell? ⟨w.heap.size, 3, none⟩ = some u3 ∧ W.cell? ⟨w.heap.size, 4, none⟩ = some u4 ∧ W.cell? ⟨w.heap.size, 5, none⟩ = some u5) ∧ W.cell? ⟨w.heap.size + 1, 0, none⟩ = some v0 ∧ W.cell? ⟨w.heap.size + 1, 1, none⟩ = some v1 ∧ W.cell? ⟨w.heap.size + 1, 2, none⟩ = some v2 ∧ W.cell? ⟨w.heap.size + 1, 3, none⟩ = some v3 ∧ W.cell? ⟨w.heap.size + 1, 4, none⟩ = some v4 ∧ W.cell? ⟨w.heap.size + 1, 5, none⟩ = some v5) := Lib.hid fun W h => by
    have h2 := HC.out.trans (h.mono HC.out.size)
    exact ⟨row6 ((h2.block _ (by omega)).trans HX.out), row6 ((h2.block _ (by omega)).trans HY.out)⟩
  have HLD : Hid (∀ W, Below wn.heap.size wn W → Lay W D [u0, u1, u2, u3, u4, u5]) := Lib.hid fun W h => HLA.out.keep (HB.out.trans ((HC.out.trans (h.mono HC.out.size)).mono HB.out.size))
  have HLG : Hid (∀ W, Below wn.heap.size wn W → Lay W G [v0, v1, v2, v3, v4, v5]) := Lib.hid fun W h => HLB.out.keep (HB.out.trans ((HC.out.trans (h.mono HC.out.size)).mono HB.out.size))
  have HSGC : Hid (∀ W, Below wn.heap.size wn W → W.cell? ⟨w.heap.size + 1 + 1, k, none⟩ = some (.string (mkB (sgA k)))) := Lib.hid fun W h => by
    have h2 := HC.out.trans (h.mono HC.out.size)
    rw [← sgV_at hk6]
    exact six_at ((h2.block _ (by omega)).trans HG.out) hk6
  have HNMC : Hid (∀ W, Below wn.heap.size wn W → W.cell? ⟨w.heap.size + 1 + 1 + 1, k, none⟩ = some (.string (mkB (mName (miA k))))) := Lib.hid fun W h => by
    have h2 := HC.out.trans (h.mono HC.out.size)
    rw [← nmV_at hk6]
    exact six_at ((h2.block _ (by omega)).trans HN.out) hk6
  have HBN := Lib.hid (HB.out.trans (HC.out.mono HB.out.size))
  clear HQ1 HQ2 HQ3 HQ4 HQ5 HQ6 HQ7 HQ8
  obtain ⟨SS, hSS⟩ : ∃ b, mkB D.tb = b := ⟨_, rfl⟩
  obtain ⟨TT, hTT⟩ : ∃ b, mkB G.tb = b := ⟨_, rfl⟩
  obtain ⟨SGB, hSG⟩ : ∃ b, mkB (sgA k) = b := ⟨_, rfl⟩
  obtain ⟨NMB, hNM⟩ : ∃ b, mkB (mName (miA k)) = b := ⟨_, rfl⟩
  rw [hSG] at HSGC
  rw [hNM] at HNMC
  have HSS := Lib.hid hSS
  have HTT := Lib.hid hTT
  have HSGB := Lib.hid hSG
  have HNMB := Lib.hid hNM
  have hzS : SS.size = D.tb.length := by rw [← hSS, mkB_size]
  have hzT : TT.size = G.tb.length := by rw [← hTT, mkB_size]
  have hzG : SGB.size ≤ 3 := by rw [← hSG, mkB_size]; exact (mi_facts ⟨k, hk6⟩).2.2.2.2.2.2.1
  have hzN : NMB.size ≤ 30 := by rw [← hNM, mkB_size]; exact (mi_facts ⟨k, hk6⟩).2.2.2.1
  have HZS := Lib.hid hzS
  have HZT := Lib.hid hzT
  have HZG := Lib.hid hzG
  have HZN := Lib.hid hzN
  clear hSS hTT hSG hNM hzS hzT hzG hzN
  have hd0 := (Below.refl wn.heap.size wn).drew
  have hall := HXC.out _ hd0
  go_wp2_with fail
  refine wp_region_slots (psi [isV (.agg #[u0, u1, u2, u3, u4, u5]), isV (.string SS), isV (.agg #[v0, v1, v2, v3, v4, v5]), isV (.string TT), isV (.string SS), isV (.string TT)]) (fun W => Below wn.heap.size wn W) (by kernel_rfl) (Below.refl _ _).drew (psi_mono ?_) (by kernel_rfl) (by kernel_rfl) ?_ ?_
  · intro p hp
    simp only [List.mem_cons, List.not_mem_nil, or_false] at hp
    (repeat' rcases hp with rfl | hp) <;> first | exact isV_stays _ | (subst hp; exact isV_stays _)
  · refine AllOps.cons ?_ ?_
    · intro a W hC hB hdep
      refine ⟨rfl, ?_⟩
      have ea : a.tmps.getD 3 undef = .pointer (some ⟨w.heap.size, 0, none⟩) := hB.off 3 (by kernel_rfl)
      obtain ⟨⟨c0, c1, c2, c3, c4, c5⟩, _⟩ := HXC.out W hC
      refine goes_value (v := .agg #[u0, u1, u2, u3, u4, u5]) ?_ hC rfl
      simp only [execOp, Act.eval, ea]
      go_simp
    refine AllOps.cons ?_ ?_
    · intro a W hC hB hdep
      refine ⟨rfl, ?_⟩
      obtain ⟨xa, (qa : xa = .agg #[u0, u1, u2, u3, u4, u5]), ea⟩ := hdep 0 62 (by kernel_rfl)
      subst qa
      refine goes_call (f := 18) (args := #[.agg #[u0, u1, u2, u3, u4, u5]]) ?_ ?_
      · simp only [execOp]
        go_simp
      · refine (rtext_dm _ D (Nat.le_refl _) 64 HWD.out.ok HSA.out HWD.out.sz [u0, u1, u2, u3, u4, u5] W (HLD.out W hC)).mono ?_
        unfold RtP
        rw [HSS.out]
        rintro e w7 ⟨he, hb⟩
        exact ⟨_, he, hC.trans (hb.mono hC.size), hb, rfl⟩
    refine AllOps.cons ?_ ?_
    · intro a W hC hB hdep
      refine ⟨rfl, ?_⟩
      have ea : a.tmps.getD 4 undef = .pointer (some ⟨w.heap.size + 1, 0, none⟩) := hB.off 4 (by kernel_rfl)
      obtain ⟨_, c0, c1, c2, c3, c4, c5⟩ := HXC.out W hC
      refine goes_value (v := .agg #[v0, v1, v2, v3, v4, v5]) ?_ hC rfl
      simp only [execOp, Act.eval, ea]
      go_simp
    refine AllOps.cons ?_ ?_
    · intro a W hC hB hdep
      refine ⟨rfl, ?_⟩
      obtain ⟨xa, (qa : xa = .agg #[v0, v1, v2, v3, v4, v5]), ea⟩ := hdep 2 64 (by kernel_rfl)
      subst qa
      refine goes_call (f := 18) (args := #[.agg #[v0, v1, v2, v3, v4, v5]]) ?_ ?_
      · simp only [execOp]
        go_simp
      · refine (rtext_dm _ G (Nat.le_refl _) 64 HWG.out.ok HSB.out HWG.out.sz [v0, v1, v2, v3, v4, v5] W (HLG.out W hC)).mono ?_
        unfold RtP
        rw [HTT.out]
        rintro e w7 ⟨he, hb⟩
        exact ⟨_, he, hC.trans (hb.mono hC.size), hb, rfl⟩
    refine AllOps.cons ?_ ?_
    · intro a W hC hB hdep
      refine ⟨rfl, ?_⟩
      obtain ⟨xa, (qa : xa = .string SS), ea⟩ := hdep 1 63 (by kernel_rfl)
      subst qa
      refine goes_value (v := .string SS) ?_ hC rfl
      simp only [execOp, Act.eval, ea]
      go_simp
    refine AllOps.cons ?_ ?_
    · intro a W hC hB hdep
      refine ⟨rfl, ?_⟩
      obtain ⟨xa, (qa : xa = .string TT), ea⟩ := hdep 3 65 (by kernel_rfl)
      subst qa
      refine goes_value (v := .string TT) ?_ hC rfl
      simp only [execOp, Act.eval, ea]
      go_simp
    exact trivial
  · intro a w8 hC hB hall
    have hv : ∀ p ∈ [(62, Value.agg #[u0, u1, u2, u3, u4, u5]), (63, .string SS), (64, .agg #[v0, v1, v2, v3, v4, v5]), (65, .string TT), (10, .string SS), (11, .string TT)], a.tmps.getD p.1 undef = p.2 := by
      obtain ⟨_, (k0 : _ = _), e0⟩ := hall 0 _ rfl
      obtain ⟨_, (k1 : _ = _), e1⟩ := hall 1 _ rfl
      obtain ⟨_, (k2 : _ = _), e2⟩ := hall 2 _ rfl
      obtain ⟨_, (k3 : _ = _), e3⟩ := hall 3 _ rfl
      obtain ⟨_, (k4 : _ = _), e4⟩ := hall 4 _ rfl
      obtain ⟨_, (k5 : _ = _), e5⟩ := hall 5 _ rfl
      subst k0 k1 k2 k3 k4 k5
      intro p hp
      simp only [List.mem_cons, List.not_mem_nil, or_false] at hp
      rcases hp with rfl | rfl | rfl | rfl | rfl | rfl
      · exact e0 _ rfl
      · exact e1 _ rfl
      · exact e2 _ rfl
      · exact e3 _ rfl
      · exact e4 _ rfl
      · exact e5 _ rfl
    have hact := act_fold _ hB hv (by kernel_rfl)
    subst hact
    clear hv hall hB
    refine (‹∀ (a : Act) (w : World), Code.wp Tryz.prog _ _ a w → _›) _ w8 ?_
    simp only [List.foldl, List.setIfInBounds_toArray, List.set_cons_succ, List.set_cons_zero]
    have ha8 := hC
    clear hC hd0
    have HA8 := Lib.hid ha8
    have H8 := Lib.hid (HBN.out.trans (ha8.mono HBN.out.size))
    have hsg := HSGC.out _ ha8
    clear ha8
    by_cases c1 : 20000 < SS.size
    · have i1 : (20000 : Int) < ((SS.size : Nat) : Int) := by omega
      go_wp2_with fail
      go_ret
      exact ⟨rfl, H8.out⟩
    have i1 : ¬ (20000 : Int) < ((SS.size : Nat) : Int) := by omega
    by_cases c2 : 20000 < TT.size
    · have i2 : (20000 : Int) < ((TT.size : Nat) : Int) := by omega
      go_wp2_with fail
      go_ret
      exact ⟨rfl, H8.out⟩
    have i2 : ¬ (20000 : Int) < ((TT.size : Nat) : Int) := by omega
    obtain ⟨l1, a1, e1, l2, a2, f1, hr1, hr2, hcase⟩ := shorts_read hk6 HWD.out HWG.out (by have := HZS.out; omega) (by have := HZT.out; omega)
    have HR1 := Lib.hid hr1
    have HR2 := Lib.hid hr2
    have HCASE := Lib.hid hcase
    clear hr1 hr2 hcase
    have hki : ((k : Nat) : Int) < 6 := by omega
    have hzg := HZG.out
    obtain ⟨S1, hS1E⟩ : ∃ b, SGB ++ ByteArray.mk #[35, 59] ++ TT ++ ByteArray.mk #[32] ++ SS = b := ⟨_, rfl⟩
    have HS1E : Hid (S1 = mkB (sgA k ++ 35 :: 59 :: (G.tb ++ 32 :: D.tb))) := Lib.hid (by
      rw [← hS1E, ← HSS.out, ← HTT.out, ← HSGB.out]
      unfold mkB
      apply ByteArray.ext
      simp)
    have HS1Y : Hid (By (sgA k ++ 35 :: 59 :: (G.tb ++ 32 :: D.tb))) := Lib.hid (short_by hk6 HWD.out HWG.out)
    have HS1B : Hid (byt S1 = sgA k ++ 35 :: 59 :: (G.tb ++ 32 :: D.tb)) := Lib.hid (by rw [HS1E.out]; exact byt_mk HS1Y.out)
    have HS1Z : Hid (S1.size ≤ 60000) := Lib.hid (by
      rw [HS1E.out, mkB_size]
      have := HZS.out
      have := HZT.out
      have := (mi_facts ⟨k, hk6⟩).2.2.2.2.2.2.1
      simp only [List.length_append, List.length_cons] at *
      omega)
    have g1 : ¬ 9223372036854775807 < SGB.size + 2 := by omega
    have g2 : ¬ 9223372036854775807 < SGB.size + 2 + TT.size := by omega
    have g3 : ¬ 9223372036854775807 < SGB.size + 2 + TT.size + 1 := by omega
    have g4 : ¬ 9223372036854775807 < SGB.size + 2 + TT.size + 1 + SS.size := by omega
    have hconv := run_bytes_of_string (P := Tryz.prog) w8 9 34 5 S1 Tryz.underlying9 Tryz.underlying34 Tryz.underlying5
    have hcap := grownCap_ge w8 S1.size 0 5
    go_wp2_with fail
    generalize hG : grownCap w8 S1.size 0 5 = cap1 at *
    have hsl := row_slS (w := w8) (e := 5) (W := ((w8.alloc (Obj.cells (bytesRow S1 cap1) 5 ((bytesRow S1 cap1).size, (bytesRow S1 cap1).size + 1))).drew)) (heap_alloc_new w8 _) hcap (by have := HS1Z.out; omega)
    rw [HS1B.out] at hsl
    have hbq : Below w8.heap.size w8 ((w8.alloc (Obj.cells (bytesRow S1 cap1) 5 ((bytesRow S1 cap1).size, (bytesRow S1 cap1).size + 1))).drew) := (below1 w8 _).drew
    have HBW := Lib.hid (H8.out.trans (hbq.mono H8.out.size))
    have hcall := read_all _ _ 64 _ hsl HS1Y.out (HT.out.below HBW.out) (HW.out.below HBW.out) (HM.out.below HBW.out)
    rw [HR1.out] at hcall
    have HBQ1 := Lib.hid hbq
    clear hconv hcap hG hsl hbq hS1E
    refine hcall.mono ?_
    clear hcall
    rintro e w9 ⟨vv1, us1, rfl, hrow1, hin1, hbb⟩
    have HST1 := Lib.hid (HBQ1.out.trans (hbb.mono HBQ1.out.size))
    have Hw9 := Lib.hid (HBW.out.trans (hbb.mono HBW.out.size))
    have HROW1 := Lib.hid hrow1
    have HIN1 := Lib.hid hin1
    obtain ⟨_, _, vo1, vc1, rfl, _⟩ := hrow1
    simp only
    clear hin1 hbb HBW
    clear g1 g2 g3 g4 hsg
    have HA9 := Lib.hid (HA8.out.trans (HST1.out.mono HA8.out.size))
    have hsg := HNMC.out _ HA9.out
    have hzn := HZN.out
    obtain ⟨S2, hS2E⟩ : ∃ b, ByteArray.mk #[40] ++ NMB ++ ByteArray.mk #[32] ++ SS ++ ByteArray.mk #[41] = b := ⟨_, rfl⟩
    have HS2E : Hid (S2 = mkB (40 :: (mName (miA k) ++ 32 :: (D.tb ++ [41])))) := Lib.hid (by
      rw [← hS2E, ← HSS.out, ← HNMB.out]
      unfold mkB
      apply ByteArray.ext
      simp)
    have HS2Y : Hid (By (40 :: (mName (miA k) ++ 32 :: (D.tb ++ [41])))) := Lib.hid (long_by hk6 HWD.out)
    have HS2B : Hid (byt S2 = 40 :: (mName (miA k) ++ 32 :: (D.tb ++ [41]))) := Lib.hid (by rw [HS2E.out]; exact byt_mk HS2Y.out)
    have HS2Z : Hid (S2.size ≤ 60000) := Lib.hid (by
      rw [HS2E.out, mkB_size]
      have := HZS.out
      have := (mi_facts ⟨k, hk6⟩).2.2.2.1
      simp only [List.length_append, List.length_cons, List.length_nil] at *
      omega)
    have g1 : ¬ 9223372036854775807 < 1 + NMB.size := by omega
    have g2 : ¬ 9223372036854775807 < 1 + NMB.size + 1 := by omega
    have g3 : ¬ 9223372036854775807 < 1 + NMB.size + 1 + SS.size := by omega
    have g4 : ¬ 9223372036854775807 < 1 + NMB.size + 1 + SS.size + 1 := by omega
    have hconv := run_bytes_of_string (P := Tryz.prog) w9 9 34 5 S2 Tryz.underlying9 Tryz.underlying34 Tryz.underlying5
    have hcap := grownCap_ge w9 S2.size 0 5
    go_wp2_with fail
    generalize hG : grownCap w9 S2.size 0 5 = cap2 at *
    have hsl := row_slS (w := w9) (e := 5) (W := ((w9.alloc (Obj.cells (bytesRow S2 cap2) 5 ((bytesRow S2 cap2).size, (bytesRow S2 cap2).size + 1))).drew)) (heap_alloc_new w9 _) hcap (by have := HS2Z.out; omega)
    rw [HS2B.out] at hsl
    have hbq : Below w9.heap.size w9 ((w9.alloc (Obj.cells (bytesRow S2 cap2) 5 ((bytesRow S2 cap2).size, (bytesRow S2 cap2).size + 1))).drew) := (below1 w9 _).drew
    have HBW := Lib.hid (Hw9.out.trans (hbq.mono Hw9.out.size))
    have hcall := read_all _ _ 64 _ hsl HS2Y.out (HT.out.below HBW.out) (HW.out.below HBW.out) (HM.out.below HBW.out)
    rw [HR2.out] at hcall
    have HBQ2 := Lib.hid hbq
    clear hconv hcap hG hsl hbq hS2E
    refine hcall.mono ?_
    clear hcall
    rintro e w10 ⟨vv2, us2, rfl, hrow2, hin2, hbb⟩
    have HST2 := Lib.hid (HBQ2.out.trans (hbb.mono HBQ2.out.size))
    have Hw10 := Lib.hid (HBW.out.trans (hbb.mono HBW.out.size))
    have HROW2 := Lib.hid hrow2
    have HIN2 := Lib.hid hin2
    obtain ⟨_, _, vo2, vc2, rfl, _⟩ := hrow2
    simp only
    clear hin2 hbb HBW
    clear g1 g2 g3 g4 hsg hzg hzn
    rcases HCASE.out with ⟨rfl, rfl, x, y, rfl, rfl, hsm⟩ | rfl | ⟨rfl, rfl⟩ | ⟨rfl, rfl⟩ | ⟨rfl, rfl⟩ | ⟨rfl, rfl⟩
    case inr.inl => go_wp2_with fail; go_ret; exact ⟨rfl, Hw10.out⟩
    case inr.inr.inl => go_wp2_with fail; go_ret; exact ⟨rfl, Hw10.out⟩
    case inr.inr.inr.inl => go_wp2_with fail; go_ret; exact ⟨rfl, Hw10.out⟩
    case inr.inr.inr.inr.inl => go_wp2_with fail; go_ret; exact ⟨rfl, Hw10.out⟩
    case inr.inr.inr.inr.inr => go_wp2_with fail; go_ret; exact ⟨rfl, Hw10.out⟩
    case inl =>
      have HSAM := Lib.hid hsm
      obtain ⟨b1, o1, cp1, x0, x1, x2, x3, x4, x5, hav, hcp1, _, hly1, p0, p1, p2, p3, p4, p5⟩ := row_datum (HROW1.out.below HST2.out) (fun j h => ((HIN1.out.each j h).lay).keep HST2.out) (i := 0) (by simp)
      simp only [Value.slice.injEq, true_and] at hav
      obtain ⟨rfl, rfl⟩ := hav
      obtain ⟨b2, o2, cp2, y0, y1, y2, y3, y4, y5, hav, hcp2, _, hly2, q0, q1, q2, q3, q4, q5⟩ := row_datum HROW2.out (fun j h => (HIN2.out.each j h).lay) (i := 0) (by simp)
      simp only [Value.slice.injEq, true_and] at hav
      obtain ⟨rfl, rfl⟩ := hav
      simp only [List.length_singleton, Nat.zero_mul, Nat.add_zero, List.getElem_cons_zero] at hcp1 hly1 p0 p1 p2 p3 p4 p5 hcp2 hly2 q0 q1 q2 q3 q4 q5 ⊢
      have HLX := Lib.hid hly1
      have HLY := Lib.hid hly2
      have HALL : Hid (∀ W, Below w10.heap.size w10 W → (W.cell? ⟨b1, o1, none⟩ = some x0 ∧ W.cell? ⟨b1, o1 + 1, none⟩ = some x1 ∧ W.cell? ⟨b1, o1 + 2, none⟩ = some x2 ∧ W.cell? ⟨b1, o1 + 3, none⟩ = some x3 ∧ W.cell? ⟨b1, o1 + 4, none⟩ = some x4 ∧ W.cell? ⟨b1, o1 + 5, none⟩ = some x5) ∧ W.cell? ⟨b2, o2, none⟩ = some y0 ∧ W.cell? ⟨b2, o2 + 1, none⟩ = some y1 ∧ W.cell? ⟨b2, o2 + 2, none⟩ = some y2 ∧ W.cell? ⟨b2, o2 + 3, none⟩ = some y3 ∧ W.cell? ⟨b2, o2 + 4, none⟩ = some y4 ∧ W.cell? ⟨b2, o2 + 5, none⟩ = some y5) := Lib.hid fun W h => by
        have hb1 : b1 < w10.heap.size := World.block_lt_of_cell? w10 _ p0
        have hb2 : b2 < w10.heap.size := World.block_lt_of_cell? w10 _ q0
        refine ⟨⟨?_, ?_, ?_, ?_, ?_, ?_⟩, ?_, ?_, ?_, ?_, ?_, ?_⟩
        · rw [h.cell (p := ⟨b1, o1, none⟩) hb1]; exact p0
        · rw [h.cell (p := ⟨b1, o1 + 1, none⟩) hb1]; exact p1
        · rw [h.cell (p := ⟨b1, o1 + 2, none⟩) hb1]; exact p2
        · rw [h.cell (p := ⟨b1, o1 + 3, none⟩) hb1]; exact p3
        · rw [h.cell (p := ⟨b1, o1 + 4, none⟩) hb1]; exact p4
        · rw [h.cell (p := ⟨b1, o1 + 5, none⟩) hb1]; exact p5
        · rw [h.cell (p := ⟨b2, o2, none⟩) hb2]; exact q0
        · rw [h.cell (p := ⟨b2, o2 + 1, none⟩) hb2]; exact q1
        · rw [h.cell (p := ⟨b2, o2 + 2, none⟩) hb2]; exact q2
        · rw [h.cell (p := ⟨b2, o2 + 3, none⟩) hb2]; exact q3
        · rw [h.cell (p := ⟨b2, o2 + 4, none⟩) hb2]; exact q4
        · rw [h.cell (p := ⟨b2, o2 + 5, none⟩) hb2]; exact q5
      clear hly1 hly2 p0 p1 p2 p3 p4 p5 q0 q1 q2 q3 q4 q5 hsm
      go_wp2_with fail
      have hd1 := (Below.refl w10.heap.size w10).drew
      have hall := HALL.out _ hd1
      go_region_held_law (fun W => (W.cell? ⟨b1, o1, none⟩ = some x0 ∧ W.cell? ⟨b1, o1 + 1, none⟩ = some x1 ∧ W.cell? ⟨b1, o1 + 2, none⟩ = some x2 ∧ W.cell? ⟨b1, o1 + 3, none⟩ = some x3 ∧ W.cell? ⟨b1, o1 + 4, none⟩ = some x4 ∧ W.cell? ⟨b1, o1 + 5, none⟩ = some x5) ∧ W.cell? ⟨b2, o2, none⟩ = some y0 ∧ W.cell? ⟨b2, o2 + 1, none⟩ = some y1 ∧ W.cell? ⟨b2, o2 + 2, none⟩ = some y2 ∧ W.cell? ⟨b2, o2 + 3, none⟩ = some y3 ∧ W.cell? ⟨b2, o2 + 4, none⟩ = some y4 ∧ W.cell? ⟨b2, o2 + 5, none⟩ = some y5)
        (first | exact hall | exact HALL.out _ ha11)
        (first
          | (go_simp; go_at_call 15; refine (dsame_any _ x y (Nat.le_refl _) [x0, x1, x2, x3, x4, x5] [y0, y1, y2, y3, y4, y5] _ (HLX.out.keep hd1) (HLY.out.keep hd1)).mono ?_; rw [HSAM.out]; rintro e w11 ⟨rfl, hb11⟩; have ha11 := hd1.trans (hb11.mono hd1.size)))
      all_goals
        go_wp2_with fail
        go_ret
        exact ⟨rfl, Hw10.out.trans (ha11.mono Hw10.out.size)⟩
end Go.Proofs.YtpahfhjgcflifaaGreatDoor
