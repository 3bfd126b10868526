/- The law ReadDots, at any world. -/
import Derived.Test.YtpahfhjgcflifaaGreatDoorRdDotsM
import Derived.Test.YtpahfhjgcflifaaGreatDoorRTx
import Derived.Test.YtpahfhjgcflifaaGreatDoorRdSize
import Derived.Test.YtpahfhjgcflifaaGreatDoorRdRead
import Derived.Test.YtpahfhjgcflifaaGreatDoorDmSame
import Derived.Deep.RegionHeldLaw
namespace Go.Proofs.YtpahfhjgcflifaaGreatDoor
open Go.RowKit

def alD (l : List Dm) : Dm := .mk 1 [] false [] l 0
def neD (l : List Dm) : Dm := .mk 1 [] false [] [.mk 1 [] false [] [alD l] 0] 0
theorem ne_in {l : List Dm} (h : sndD (neD l) = true) : (∀ (i : Nat) (hi : i < l.length), okD 61 (l[i]'hi) = true ∧ (l[i]'hi).sz ≤ 8192) ∧ sumA l ≤ 8189 := by
  unfold sndD at h
  rw [Bool.and_eq_true, decide_eq_true_iff] at h
  obtain ⟨h1, h2⟩ := h
  have e1 : (neD l).sz = 3 + sumA l := by
    unfold neD alD
    rw [sz_sumA]
    simp only [sumA, List.map_cons, List.map_nil, List.sum_cons, List.sum_nil, sz_sumA]
    omega
  unfold neD at h1
  rw [okD_node (.inl rfl)] at h1
  simp only [Bool.and_eq_true, List.all_eq_true] at h1
  have h3 := h1.2 _ (List.mem_singleton.2 rfl)
  rw [okD_node (.inl rfl)] at h3
  simp only [Bool.and_eq_true, List.all_eq_true] at h3
  have h4 := h3.2 _ (List.mem_singleton.2 rfl)
  unfold alD at h4
  rw [okD_node (.inl rfl)] at h4
  simp only [Bool.and_eq_true, List.all_eq_true] at h4
  refine ⟨fun i hi => ⟨h4.2 _ (List.getElem_mem hi), ?_⟩, by omega⟩
  have := Dm.sz_mem (d := alD l) (x := l[i]'hi) (List.getElem_mem hi)
  have e2 : (alD l).sz = 1 + sumA l := by unfold alD; rw [sz_sumA]
  omega
theorem jnB_take {l : List Dm} {i : Nat} (h : i < l.length) : jnB (l.take (i + 1)) = jnB (l.take i) ++ ((l[i]'h).tb ++ [32]) := by
  rw [List.take_add_one, List.getElem?_eq_getElem h]
  exact jnB_snoc _ _
theorem jnB_from {l : List Dm} {k j : Nat} (hk : k ≤ j) (h : j < l.length) : jnB ((l.drop k).take (j + 1 - k)) = jnB ((l.drop k).take (j - k)) ++ ((l[j]'h).tb ++ [32]) := by
  have h1 : j - k < (l.drop k).length := by rw [List.length_drop]; omega
  rw [show j + 1 - k = (j - k) + 1 by omega, jnB_take h1]
  have e : (l.drop k)[j - k]'h1 = l[j]'h := by
    rw [List.getElem_drop]
    congr 1
    omega
  rw [e]
theorem jnB_len {l : List Dm} (h : ∀ (i : Nat) (hi : i < l.length), ((l[i]'hi).tb).length ≤ 60000000000) : (jnB l).length ≤ l.length * 60000000001 := by
  induction l with
  | nil => simp [jnB]
  | cons d l ih =>
    have h1 := ih fun i hi => h (i + 1) (by simpa using hi)
    have h2 := h 0 (by simp)
    have e : jnB (d :: l) = d.tb ++ (32 :: jnB l) := by unfold jnB; simp
    rw [e]
    simp only [List.length_append, List.length_cons, List.getElem_cons_zero] at *
    omega
theorem row_one {w : World} {v : Value} {l : List Dm} {us : List Value} (hrow : RowV w v l.length 6 us) (hin : ∀ (i : Nat) (h : i < l.length), Lay w (l[i]'h) ((us.drop (i * 6)).take 6)) : ∀ u ∈ us, u.oneCell' = true := by
  intro u hu
  obtain ⟨j, hj, rfl⟩ := List.getElem_of_mem hu
  have hlen := hrow.1
  have hi : j / 6 < l.length := by omega
  have h1 := one_cells (hin (j / 6) hi).layP
  refine h1 _ ?_
  have e : ((us.drop (j / 6 * 6)).take 6)[j % 6]? = some (us[j]'hj) := by
    rw [List.getElem?_take, if_pos (by omega), List.getElem?_drop, show j / 6 * 6 + j % 6 = j by omega, List.getElem?_eq_getElem hj]
  exact List.mem_of_getElem? e
set_option maxRecDepth 100000 in
set_option maxHeartbeats 16000000 in
theorem readdots_any (v : Value) (l : List Dm) (us : List Value) (x : Int) (w : World) (hrow : RowV w v l.length 6 us) (hin : ∀ (i : Nat) (h : i < l.length), Lay w (l[i]'h) ((us.drop (i * 6)).take 6)) (hl : l.length ≤ 1048576) (hsm : ∀ (i : Nat) (h : i < l.length), Sm 1048576 (l[i]'h)) (ht : Tabs2 w) (hwd : Words w) (hmk : Marks w) (hx0 : 0 ≤ x) (hx1 : x ≤ 255) :
    Calls Tryz.prog 8 #[v, .int .u8 x] w fun e w' => e = .returned (.bool true) ∧ Below w.heap.size w w' := by
  have HRW := Lib.hid hrow
  obtain ⟨_, _, ao, cv0, rfl, _⟩ := hrow
  have HIN := Lib.hid hin
  have HT := Lib.hid ht
  have HW := Lib.hid hwd
  have HM := Lib.hid hmk
  have HLA : Hid (Lay w (alD l) [.int .i64 1, .string ⟨#[]⟩, .bool false, .slice none 0 0, .slice ao l.length cv0, .int .i64 0]) := Lib.hid (Lay.mk By.nil (by simp) (fun i => by simp [limb]) (Sl.nil' _ _) HRW.out hin)
  have HSA : Hid (Sm 1048576 (alD l)) := Lib.hid (.mk (by simp) (by simp) hl hsm)
  have HSM := Lib.hid hsm
  have HLL : Hid (l.length ≤ 9223372036854775807) := Lib.hid (by omega)
  have HBB := Lib.hid (below1 w (.cells #[.int .i64 1, .string ⟨#[]⟩, .bool false, .slice none 0 0, .slice ao l.length cv0, .int .i64 0] 27))
  have HBX := Lib.hid (box1 w #[.int .i64 1, .string ⟨#[]⟩, .bool false, .slice none 0 0, .slice ao l.length cv0, .int .i64 0] 27)
  have HRB : Hid (∀ W, Below (w.heap.size + 1) (w.alloc (.cells #[.int .i64 1, .string ⟨#[]⟩, .bool false, .slice none 0 0, .slice ao l.length cv0, .int .i64 0] 27)) W → W.heap[w.heap.size]? = some (.cells #[.int .i64 1, .string ⟨#[]⟩, .bool false, .slice none 0 0, .slice ao l.length cv0, .int .i64 0] 27 (0, 0)) ∧ Below w.heap.size w W) := Lib.hid fun W h => ⟨(h.block w.heap.size (by omega)).trans HBX.out, HBB.out.trans (h.mono (by omega))⟩
  have hz0 : w.heap.size + 1 = (w.alloc (.cells #[.int .i64 1, .string ⟨#[]⟩, .bool false, .slice none 0 0, .slice ao l.length cv0, .int .i64 0] 27)).heap.size := by simp
  have HZ0 := Lib.hid hz0
  clear hin hl hsm ht hwd hmk hz0
  go_enter Tryz.func8, Tryz.ntmps8
  go_wp2_with fail
  refine (ranswers_any _ (HT.out.below HBB.out) (HW.out.below HBB.out) (HM.out.below HBB.out)).mono ?_
  rintro e w1 ⟨rfl, hb⟩
  rw [← HZ0.out] at hb
  have HC1 := Lib.hid hb
  have HZ1 : Hid (w.heap.size + 1 ≤ w1.heap.size) := Lib.hid (by have := hb.size; rw [← HZ0.out] at this; exact this)
  clear hb
  obtain ⟨a0, a1, a2, a3, a4, a5⟩ := row6 (HRB.out _ HC1.out).1
  go_wp2_with fail
  clear a0 a1 a2 a3 a4 a5
  refine (light_dm 100 (alD l) [.int .i64 1, .string ⟨#[]⟩, .bool false, .slice none 0 0, .slice ao l.length cv0, .int .i64 0] _ 1 (by omega) (by omega) (HLA.out.keep (HRB.out _ HC1.out).2)).mono ?_
  rintro e w2 ⟨rfl, hb⟩
  have HC2 := Lib.hid (HC1.out.trans (hb.mono HZ1.out))
  have HZ2 : Hid (w.heap.size + 1 ≤ w2.heap.size) := Lib.hid (Nat.le_trans HZ1.out hb.size)
  clear hb
  cases hq1 : lightA 100 (alD l)
  case false =>
    go_wp2_with fail
    refine (ranswers_any w2 (HT.out.below (HRB.out _ HC2.out).2) (HW.out.below (HRB.out _ HC2.out).2) (HM.out.below (HRB.out _ HC2.out).2)).mono ?_
    rintro e wf ⟨rfl, hb⟩
    have HF := Lib.hid (HC2.out.trans (hb.mono HZ2.out))
    clear hb
    go_wp2_with fail
    go_ret
    exact ⟨rfl, (HRB.out _ HF.out).2⟩
  clear hq1
  by_cases c2 : l.length < 2
  · have i2 : ((l.length : Nat) : Int) < 2 := by omega
    go_wp2_with fail
    refine (ranswers_any w2 (HT.out.below (HRB.out _ HC2.out).2) (HW.out.below (HRB.out _ HC2.out).2) (HM.out.below (HRB.out _ HC2.out).2)).mono ?_
    rintro e wf ⟨rfl, hb⟩
    have HF := Lib.hid (HC2.out.trans (hb.mono HZ2.out))
    clear hb
    go_wp2_with fail
    go_ret
    exact ⟨rfl, (HRB.out _ HF.out).2⟩
  have i2 : ¬ ((l.length : Nat) : Int) < 2 := by omega
  by_cases c40 : 40 < l.length
  · have i40 : (40 : Int) < ((l.length : Nat) : Int) := by omega
    go_wp2_with fail
    refine (ranswers_any w2 (HT.out.below (HRB.out _ HC2.out).2) (HW.out.below (HRB.out _ HC2.out).2) (HM.out.below (HRB.out _ HC2.out).2)).mono ?_
    rintro e wf ⟨rfl, hb⟩
    have HF := Lib.hid (HC2.out.trans (hb.mono HZ2.out))
    clear hb
    go_wp2_with fail
    go_ret
    exact ⟨rfl, (HRB.out _ HF.out).2⟩
  have i40 : ¬ (40 : Int) < ((l.length : Nat) : Int) := by omega
  obtain ⟨a0, a1, a2, a3, a4, a5⟩ := row6 (HRB.out _ HC2.out).1
  have hmx := HLL.out
  have HR1 := Lib.hid (row1 w2 [.int .i64 1, .string ⟨#[]⟩, .bool false, .slice none 0 0, .slice ao l.length cv0, .int .i64 0] rfl)
  have HB1 := Lib.hid (below1 w2 (.cells #[.int .i64 1, .string ⟨#[]⟩, .bool false, .slice none 0 0, .slice ao l.length cv0, .int .i64 0] 27))
  have HR2 := Lib.hid (row1 (w2.alloc (.cells #[.int .i64 1, .string ⟨#[]⟩, .bool false, .slice none 0 0, .slice ao l.length cv0, .int .i64 0] 27)) [.int .i64 1, .string ⟨#[]⟩, .bool false, .slice none 0 0, .slice (some ⟨w2.heap.size, 0, none⟩) 1 1, .int .i64 0] rfl)
  have HB2 := Lib.hid (below1 (w2.alloc (.cells #[.int .i64 1, .string ⟨#[]⟩, .bool false, .slice none 0 0, .slice ao l.length cv0, .int .i64 0] 27)) (.cells #[.int .i64 1, .string ⟨#[]⟩, .bool false, .slice none 0 0, .slice (some ⟨w2.heap.size, 0, none⟩) 1 1, .int .i64 0] 27))
  go_wp2_with fail
  clear a0 a1 a2 a3 a4 a5
  have HLN : Hid (Lay ((w2.alloc (.cells #[.int .i64 1, .string ⟨#[]⟩, .bool false, .slice none 0 0, .slice ao l.length cv0, .int .i64 0] 27)).alloc (.cells #[.int .i64 1, .string ⟨#[]⟩, .bool false, .slice none 0 0, .slice (some ⟨w2.heap.size, 0, none⟩) 1 1, .int .i64 0] 27)) (neD l) [.int .i64 1, .string ⟨#[]⟩, .bool false, .slice none 0 0, .slice (some ⟨(w2.heap.size + 1), 0, none⟩) 1 1, .int .i64 0]) := Lib.hid (by
    refine Lay.mk By.nil (by simp) (fun i => by simp [limb]) (Sl.nil' _ _) (by simpa using HR2.out) fun i hi => ?_
    obtain rfl : i = 0 := by simpa using hi
    refine Lay.mk By.nil (by simp) (fun i => by simp [limb]) (Sl.nil' _ _) (HR1.out.below HB2.out) fun i hi => ?_
    obtain rfl : i = 0 := by simpa using hi
    exact HLA.out.keep ((HRB.out _ HC2.out).2.trans ((HB1.out.trans (HB2.out.mono HB1.out.size)).mono (HRB.out _ HC2.out).2.size)))
  have HSN : Hid (Sm 1100000 (neD l)) := Lib.hid (by
    refine .mk (by simp) (by simp) (by simp) fun i hi => ?_
    obtain rfl : i = 0 := by simpa using hi
    refine .mk (by simp) (by simp) (by simp) fun i hi => ?_
    obtain rfl : i = 0 := by simpa using hi
    exact HSA.out.mono (by omega))
  refine (rdsound_any (neD l) [.int .i64 1, .string ⟨#[]⟩, .bool false, .slice none 0 0, .slice (some ⟨(w2.heap.size + 1), 0, none⟩) 1 1, .int .i64 0] _ HLN.out HSN.out).mono ?_
  rintro e w3 ⟨rfl, hb0⟩
  have hb : Below w2.heap.size w2 w3 := HB1.out.trans ((HB2.out.trans (hb0.mono HB2.out.size)).mono HB1.out.size)
  clear hb0 HR1 HR2 HB1 HB2 HLN HSN
  have HC3 := Lib.hid (HC2.out.trans (hb.mono HZ2.out))
  have HZ3 : Hid (w.heap.size + 1 ≤ w3.heap.size) := Lib.hid (Nat.le_trans HZ2.out hb.size)
  clear hb
  cases hq : sndD (neD l)
  case false =>
    go_wp2_with fail
    refine (ranswers_any w3 (HT.out.below (HRB.out _ HC3.out).2) (HW.out.below (HRB.out _ HC3.out).2) (HM.out.below (HRB.out _ HC3.out).2)).mono ?_
    rintro e wf ⟨rfl, hb⟩
    have HF := Lib.hid (HC3.out.trans (hb.mono HZ3.out))
    clear hb
    go_wp2_with fail
    go_ret
    exact ⟨rfl, (HRB.out _ HF.out).2⟩
  have HQI := Lib.hid (ne_in hq)
  clear hq
  obtain ⟨a0, a1, a2, a3, a4, a5⟩ := row6 (HRB.out _ HC3.out).1
  go_wp2_with fail
  clear a0 a1 a2 a3 a4 a5
  refine (rothers_any _ (alD l) (Nat.le_refl _) [.int .i64 1, .string ⟨#[]⟩, .bool false, .slice none 0 0, .slice ao l.length cv0, .int .i64 0] _ (HLA.out.keep (HRB.out _ HC3.out).2)).mono ?_
  rintro e w4 ⟨rfl, hb⟩
  have HC4 := Lib.hid (HC3.out.trans (hb.mono HZ3.out))
  have HZ4 : Hid (w.heap.size + 1 ≤ w4.heap.size) := Lib.hid (Nat.le_trans HZ3.out hb.size)
  clear hb
  cases hq5 : hasK 11 (alD l)
  case true =>
    go_wp2_with fail
    refine (ranswers_any w4 (HT.out.below (HRB.out _ HC4.out).2) (HW.out.below (HRB.out _ HC4.out).2) (HM.out.below (HRB.out _ HC4.out).2)).mono ?_
    rintro e wf ⟨rfl, hb⟩
    have HF := Lib.hid (HC4.out.trans (hb.mono HZ4.out))
    clear hb
    go_wp2_with fail
    go_ret
    exact ⟨rfl, (HRB.out _ HF.out).2⟩
  obtain ⟨a0, a1, a2, a3, a4, a5⟩ := row6 (HRB.out _ HC4.out).1
  go_wp2_with fail
  clear a0 a1 a2 a3 a4 a5
  refine (rvoids_any _ (alD l) (Nat.le_refl _) [.int .i64 1, .string ⟨#[]⟩, .bool false, .slice none 0 0, .slice ao l.length cv0, .int .i64 0] _ (HLA.out.keep (HRB.out _ HC4.out).2)).mono ?_
  rintro e w5 ⟨rfl, hb⟩
  have HC5 := Lib.hid (HC4.out.trans (hb.mono HZ4.out))
  have HZ5 : Hid (w.heap.size + 1 ≤ w5.heap.size) := Lib.hid (Nat.le_trans HZ4.out hb.size)
  clear hb
  cases hq6 : hasK 10 (alD l)
  case true =>
    go_wp2_with fail
    refine (ranswers_any w5 (HT.out.below (HRB.out _ HC5.out).2) (HW.out.below (HRB.out _ HC5.out).2) (HM.out.below (HRB.out _ HC5.out).2)).mono ?_
    rintro e wf ⟨rfl, hb⟩
    have HF := Lib.hid (HC5.out.trans (hb.mono HZ5.out))
    clear hb
    go_wp2_with fail
    go_ret
    exact ⟨rfl, (HRB.out _ HF.out).2⟩
  have HPL : Hid (∀ (i : Nat) (hi : i < l.length), Rdb 62 (l[i]'hi)) := Lib.hid fun i hi => by
    have hp : plainA (alD l) = true := by unfold plainA; rw [hq5, hq6]; rfl
    exact ⟨okD_mono 61 62 _ (by omega) (HQI.out.1 i hi).1, (plain_mk hp).2.2 i hi, HLA.out.dby.open'.2 i hi⟩
  clear hq5 hq6
  have HTZ : Hid (∀ (i : Nat) (hi : i < l.length), ((l[i]'hi).tb).length ≤ 60000000000) := Lib.hid fun i hi => by
    have h1 := tb_len (N := 1048576) (by omega) _ _ (Nat.le_refl _) 61 (HQI.out.1 i hi).1 (HSM.out i hi)
    have h2 := (HQI.out.1 i hi).2
    omega
  obtain ⟨M, hM, hM1⟩ : ∃ M : Nat, x.tmod (((l.length : Nat) : Int) - 1) = ((M : Nat) : Int) ∧ M < l.length - 1 := by
    have h0 := Int.tmod_nonneg (((l.length : Nat) : Int) - 1) hx0
    have h1 := Int.tmod_lt_of_pos x (show (0 : Int) < ((l.length : Nat) : Int) - 1 by omega)
    exact ⟨(x.tmod (((l.length : Nat) : Int) - 1)).toNat, by omega, by omega⟩
  have hM2 : x % (((l.length : Nat) : Int) - 1) = ((M : Nat) : Int) := by rw [← hM, Int.tmod_eq_emod_of_nonneg hx0]
  have hne : ¬ (((l.length : Nat) : Int) - 1 = 0) := by omega
  have hne2 : ((((l.length : Nat) : Int) - 1) == 0) = false := by simp; omega
  obtain ⟨k, hk⟩ : ∃ k, k = M + 1 := ⟨_, rfl⟩
  have hkl : 0 < k ∧ k < l.length := by omega
  have HKL := Lib.hid hkl
  have HK := Lib.hid hk
  clear hkl
  have HKI : Hid (((M : Nat) : Int) + 1 = ((k : Nat) : Int)) := Lib.hid (by omega)
  clear hk
  go_wp2_with fail
  rw [HKI.out]
  clear hM hM1 hM2 hne hne2 HKI HK
  go_loopw [7, 9] (fun s i wr => ∃ q : Nat, q ≤ k ∧ i = .int .i64 (q : Nat) ∧ s = .string (mkB (40 :: jnB (l.take q))) ∧ Below (w.heap.size + 1) (w.alloc (.cells #[.int .i64 1, .string ⟨#[]⟩, .bool false, .slice none 0 0, .slice ao l.length cv0, .int .i64 0] 27)) wr) (fun _ i _ => k - (intOf i).toNat)
  case atStart => exact ⟨0, Nat.zero_le _, rfl, rfl, HC5.out⟩
  case round =>
    obtain ⟨q, hq, rfl, hv, hbel⟩ := hrel
    have hkl := HKL.out
    obtain ⟨O, hO⟩ : ∃ O, O = mkB (40 :: jnB (l.take q)) := ⟨_, rfl⟩
    have hz : O.size ≤ 3000000000000 := by
      have h1 := jnB_len (l := l.take q) fun i hi => by
        rw [List.length_take] at hi
        rw [List.getElem_take]
        exact HTZ.out i (by omega)
      rw [List.length_take] at h1
      rw [hO, mkB_size]
      simp only [List.length_cons]
      omega
    rw [← hO] at hv
    subst hv
    have HO := Lib.hid hO
    have HCR := Lib.hid hbel
    have HZR : Hid (w.heap.size + 1 ≤ wr.heap.size) := Lib.hid (by have := hbel.size; rw [← HZ0.out] at this; exact this)
    clear hO hbel
    by_cases hqk : q < k
    · have hii : ((q : Nat) : Int) < ((k : Nat) : Int) := by omega
      have hqn : q < l.length := by omega
      obtain ⟨b, off, cap, v0, v1, v2, v3, v4, v5, hav, _, _, hly, p0, p1, p2, p3, p4, p5⟩ := row_datum (HRW.out.below (HRB.out _ HCR.out).2) (fun j h => (HIN.out j h).keep (HRB.out _ HCR.out).2) hqn
      simp only [Value.slice.injEq, true_and] at hav
      obtain ⟨rfl, rfl⟩ := hav
      have HY := Lib.hid hly
      clear hly
      have hjl : ((q : Nat) : Int) < ((l.length : Nat) : Int) := by omega
      go_wp2_with fail
      clear p0 p1 p2 p3 p4 p5
      refine (rtext_dm _ (l[q]'hqn) (Nat.le_refl _) 61 (HQI.out.1 q hqn).1 ((HSM.out q hqn).mono (by omega)) (HQI.out.1 q hqn).2 [v0, v1, v2, v3, v4, v5] _ HY.out).mono ?_
      unfold RtP
      obtain ⟨U, hU⟩ : ∃ U, U = mkB (l[q]'hqn).tb := ⟨_, rfl⟩
      rw [← hU]
      have hzU : U.size ≤ 60000000000 := by rw [hU, mkB_size]; exact HTZ.out q hqn
      have HU := Lib.hid hU
      clear hU
      rintro e w8 ⟨rfl, hb⟩
      have HC8 := Lib.hid (HCR.out.trans (hb.mono HZR.out))
      clear hb
      have HST : Hid (O ++ U ++ ByteArray.mk #[32] = mkB (40 :: jnB (l.take (q + 1)))) := Lib.hid (by
        rw [jnB_take hqn, HO.out, HU.out]
        unfold mkB
        apply ByteArray.ext
        simp)
      have g1 : ¬ 9223372036854775807 < O.size + U.size := by omega
      have g2 : ¬ 9223372036854775807 < O.size + U.size + 1 := by omega
      go_wp2_with fail
      go_roundw
      case measure => simp only [intOf]; omega
      case rel => exact ⟨q + 1, by omega, by go_num, by rw [← HST.out], HC8.out⟩
    · obtain rfl : q = k := by omega
      have HOZ := Lib.hid hz
      have HWR := Lib.hid HCR.out
      go_wp2_with fail
      go_loopw [8, 10] (fun s i wx => ∃ j : Nat, q ≤ j ∧ j ≤ l.length ∧ i = .int .i64 (j : Nat) ∧ s = .string (mkB (40 :: jnB ((l.drop q).take (j - q)))) ∧ Below (w.heap.size + 1) (w.alloc (.cells #[.int .i64 1, .string ⟨#[]⟩, .bool false, .slice none 0 0, .slice ao l.length cv0, .int .i64 0] 27)) wx) (fun _ i _ => l.length - (intOf i).toNat)
      case atStart => exact ⟨q, Nat.le_refl _, by omega, rfl, by rw [Nat.sub_self]; rfl, HCR.out⟩
      case round =>
        obtain ⟨j, hqj, hj, rfl, hv2, hbel2⟩ := hrel
        obtain ⟨O2, hO2⟩ : ∃ O2, O2 = mkB (40 :: jnB ((l.drop q).take (j - q))) := ⟨_, rfl⟩
        have hz2 : O2.size ≤ 3000000000000 := by
          have h1 := jnB_len (l := (l.drop q).take (j - q)) fun i hi => by
            rw [List.length_take, List.length_drop] at hi
            rw [List.getElem_take, List.getElem_drop]
            exact HTZ.out (q + i) (by omega)
          rw [List.length_take, List.length_drop] at h1
          rw [hO2, mkB_size]
          simp only [List.length_cons]
          omega
        rw [← hO2] at hv2
        subst hv2
        have HO2' := Lib.hid hO2
        have HCX := Lib.hid hbel2
        have HZX : Hid (w.heap.size + 1 ≤ wr.heap.size) := Lib.hid (by have := hbel2.size; rw [← HZ0.out] at this; exact this)
        clear hO2 hbel2
        by_cases hjn : j < l.length
        · have hjl : ((j : Nat) : Int) < ((l.length : Nat) : Int) := by omega
          obtain ⟨b, off, cap, v0, v1, v2, v3, v4, v5, hav, _, _, hly, p0, p1, p2, p3, p4, p5⟩ := row_datum (HRW.out.below (HRB.out _ HCX.out).2) (fun j h => (HIN.out j h).keep (HRB.out _ HCX.out).2) hjn
          simp only [Value.slice.injEq, true_and] at hav
          obtain ⟨rfl, rfl⟩ := hav
          have HY := Lib.hid hly
          clear hly
          go_wp2_with fail
          clear p0 p1 p2 p3 p4 p5
          refine (rtext_dm _ (l[j]'hjn) (Nat.le_refl _) 61 (HQI.out.1 j hjn).1 ((HSM.out j hjn).mono (by omega)) (HQI.out.1 j hjn).2 [v0, v1, v2, v3, v4, v5] _ HY.out).mono ?_
          unfold RtP
          obtain ⟨U, hU⟩ : ∃ U, U = mkB (l[j]'hjn).tb := ⟨_, rfl⟩
          rw [← hU]
          have hzU : U.size ≤ 60000000000 := by rw [hU, mkB_size]; exact HTZ.out j hjn
          have HU := Lib.hid hU
          clear hU
          rintro e w8 ⟨rfl, hb⟩
          have HC8 := Lib.hid (HCX.out.trans (hb.mono HZX.out))
          clear hb
          have HST : Hid (O2 ++ U ++ ByteArray.mk #[32] = mkB (40 :: jnB ((l.drop q).take (j + 1 - q)))) := Lib.hid (by
            rw [jnB_from hqj hjn, HO2'.out, HU.out]
            unfold mkB
            apply ByteArray.ext
            simp)
          have g1 : ¬ 9223372036854775807 < O2.size + U.size := by omega
          have g2 : ¬ 9223372036854775807 < O2.size + U.size + 1 := by omega
          go_wp2_with fail
          go_roundw
          case measure => simp only [intOf]; omega
          case rel => exact ⟨j + 1, by omega, by omega, by go_num, by rw [← HST.out], HC8.out⟩
        obtain rfl : j = l.length := by omega
        have HO1 := HO
        have HO2 : Hid (O2 = mkB (40 :: jnB (l.drop q))) := Lib.hid (by rw [HO2'.out, List.take_of_length_le (by rw [List.length_drop]; exact Nat.le_refl _)])
        obtain ⟨O1, hO1⟩ : ∃ O1, O1 = O := ⟨_, rfl⟩
        subst hO1
        by_cases c30 : 30000 < O1.size + O2.size
        · have i30 : (30000 : Int) < ((O1.size : Nat) : Int) + ((O2.size : Nat) : Int) := by omega
          go_wp2_with fail
          go_ret
          exact ⟨rfl, (HRB.out _ HCX.out).2⟩
        have i30 : ¬ (30000 : Int) < ((O1.size : Nat) : Int) + ((O2.size : Nat) : Int) := by omega
        have HPA : Hid (∀ d ∈ l.take q, Rdb 62 d) := Lib.hid fun d hd => by
          obtain ⟨i, hi, rfl⟩ := List.getElem_of_mem (List.mem_of_mem_take hd)
          exact HPL.out i hi
        have HPB : Hid (∀ d ∈ l.drop q, Rdb 62 d) := Lib.hid fun d hd => by
          obtain ⟨i, hi, rfl⟩ := List.getElem_of_mem (List.mem_of_mem_drop hd)
          exact HPL.out i hi
        obtain ⟨⟨D1, s1, r1⟩, D2, s2, r2⟩ := dots_read (a := l.take q) (b := l.drop q) HPA.out HPB.out (by rw [List.length_take]; omega) (by rw [List.length_drop]; omega) (by
          have h := HQI.out.2
          have e : sumA l = sumA (l.take q) + sumA (l.drop q) := by
            unfold sumA
            rw [← List.sum_append, ← List.map_append, List.take_append_drop]
          omega) (by
          have e1 := HO1.out
          have e2 := HO2.out
          have f1 := congrArg ByteArray.size e1
          have f2 := congrArg ByteArray.size e2
          rw [mkB_size] at f1 f2
          simp only [List.length_cons] at f1 f2
          omega)
        rw [List.take_append_drop] at s1 s2
        have HD1S : Hid (D1.strip = (alD l).strip) := Lib.hid s1
        have HD2S := Lib.hid s2
        have HD1R := Lib.hid r1
        have HD2R := Lib.hid r2
        clear s1 s2 r1 r2
        have HXwr := Lib.hid HCX.out
        have HSwr := Lib.hid HZX.out
        have g1 : ¬ 9223372036854775807 < O1.size + 2 := by omega
        have g2 : ¬ 9223372036854775807 < O1.size + 2 + O2.size := by omega
        have g3 : ¬ 9223372036854775807 < O1.size + 2 + O2.size + 2 := by omega
        have g4 : ¬ 9223372036854775807 < O1.size + 2 + O2.size + 6 := by omega
        obtain ⟨S1, hS1E⟩ : ∃ b, O1 ++ ByteArray.mk #[46, 32] ++ O2 ++ ByteArray.mk #[41, 41] = b := ⟨_, rfl⟩
        have HS1E : Hid (S1 = mkB (dotT (jnB (l.take q)) (jnB (l.drop q)) [41, 41])) := Lib.hid (by
          rw [← hS1E, HO1.out, HO2.out]
          unfold mkB dotT
          apply ByteArray.ext
          simp)
        have HS1Y : Hid (By (dotT (jnB (l.take q)) (jnB (l.drop q)) [41, 41])) := Lib.hid (by
          obtain ⟨e1, e2⟩ := dotT_enc (a := l.take q) (b := l.drop q) (r := [41, 41]) HPA.out HPB.out (by decide)
          rw [← e2]
          exact encL_byQ fun c hc => e1 c hc)
        have HS1B : Hid (byt S1 = dotT (jnB (l.take q)) (jnB (l.drop q)) [41, 41]) := Lib.hid (by rw [HS1E.out]; exact byt_mk HS1Y.out)
        have HS1Z : Hid (S1.size ≤ 60000) := Lib.hid (by
          have e1 := congrArg ByteArray.size hS1E
          simp only [ByteArray.size_append] at e1
          have e2 : (ByteArray.mk #[46, 32]).size = 2 := rfl
          have e3 : (ByteArray.mk #[41, 41]).size ≤ 6 := by decide
          omega)
        obtain ⟨S2, hS2E⟩ : ∃ b, O1 ++ ByteArray.mk #[46, 32] ++ O2 ++ ByteArray.mk #[46, 32, 122, 122, 41, 41] = b := ⟨_, rfl⟩
        have HS2E : Hid (S2 = mkB (dotT (jnB (l.take q)) (jnB (l.drop q)) [46, 32, 122, 122, 41, 41])) := Lib.hid (by
          rw [← hS2E, HO1.out, HO2.out]
          unfold mkB dotT
          apply ByteArray.ext
          simp)
        have HS2Y : Hid (By (dotT (jnB (l.take q)) (jnB (l.drop q)) [46, 32, 122, 122, 41, 41])) := Lib.hid (by
          obtain ⟨e1, e2⟩ := dotT_enc (a := l.take q) (b := l.drop q) (r := [46, 32, 122, 122, 41, 41]) HPA.out HPB.out (by decide)
          rw [← e2]
          exact encL_byQ fun c hc => e1 c hc)
        have HS2B : Hid (byt S2 = dotT (jnB (l.take q)) (jnB (l.drop q)) [46, 32, 122, 122, 41, 41]) := Lib.hid (by rw [HS2E.out]; exact byt_mk HS2Y.out)
        have HS2Z : Hid (S2.size ≤ 60000) := Lib.hid (by
          have e1 := congrArg ByteArray.size hS2E
          simp only [ByteArray.size_append] at e1
          have e2 : (ByteArray.mk #[46, 32]).size = 2 := rfl
          have e3 : (ByteArray.mk #[46, 32, 122, 122, 41, 41]).size ≤ 6 := by decide
          omega)
        have hconv := run_bytes_of_string (P := Tryz.prog) wr 9 34 5 S1 Tryz.underlying9 Tryz.underlying34 Tryz.underlying5
        have hcap := grownCap_ge wr S1.size 0 5
        go_wp2_with fail
        generalize hG : grownCap wr S1.size 0 5 = cap1 at *
        have hsl := row_slS (w := wr) (e := 5) (W := ((wr.alloc (Obj.cells (bytesRow S1 cap1) 5 ((bytesRow S1 cap1).size, (bytesRow S1 cap1).size + 1))).drew)) (heap_alloc_new wr _) hcap (by have := HS1Z.out; omega)
        rw [HS1B.out] at hsl
        have hbq : Below wr.heap.size wr ((wr.alloc (Obj.cells (bytesRow S1 cap1) 5 ((bytesRow S1 cap1).size, (bytesRow S1 cap1).size + 1))).drew) := (below1 wr _).drew
        have HBQ := Lib.hid (HXwr.out.trans (hbq.mono HSwr.out))
        have hcall := read_all _ _ 64 _ hsl HS1Y.out (HT.out.below (HRB.out _ HBQ.out).2) (HW.out.below (HRB.out _ HBQ.out).2) (HM.out.below (HRB.out _ HBQ.out).2)
        rw [HD1R.out] at hcall
        have HBP := Lib.hid hbq
        clear hconv hcap hG hsl hbq hS1E
        refine hcall.mono ?_
        clear hcall
        rintro e w10 ⟨vv1, us1, rfl, hrow1, hin1, hbb⟩
        have HST1 := Lib.hid (HBP.out.trans (hbb.mono HBP.out.size))
        have HXw10 := Lib.hid (HXwr.out.trans (HST1.out.mono HSwr.out))
        have HSw10 : Hid (w.heap.size + 1 ≤ w10.heap.size) := Lib.hid (Nat.le_trans HSwr.out HST1.out.size)
        have HROW1 := Lib.hid hrow1
        have HIN1 := Lib.hid hin1
        obtain ⟨_, _, vo1, vc1, rfl, _⟩ := hrow1
        simp only
        clear hin1 hbb HBQ HBP
        have hconv := run_bytes_of_string (P := Tryz.prog) w10 9 34 5 S2 Tryz.underlying9 Tryz.underlying34 Tryz.underlying5
        have hcap := grownCap_ge w10 S2.size 0 5
        go_wp2_with fail
        generalize hG : grownCap w10 S2.size 0 5 = cap2 at *
        have hsl := row_slS (w := w10) (e := 5) (W := ((w10.alloc (Obj.cells (bytesRow S2 cap2) 5 ((bytesRow S2 cap2).size, (bytesRow S2 cap2).size + 1))).drew)) (heap_alloc_new w10 _) hcap (by have := HS2Z.out; omega)
        rw [HS2B.out] at hsl
        have hbq : Below w10.heap.size w10 ((w10.alloc (Obj.cells (bytesRow S2 cap2) 5 ((bytesRow S2 cap2).size, (bytesRow S2 cap2).size + 1))).drew) := (below1 w10 _).drew
        have HBQ := Lib.hid (HXw10.out.trans (hbq.mono HSw10.out))
        have hcall := read_all _ _ 64 _ hsl HS2Y.out (HT.out.below (HRB.out _ HBQ.out).2) (HW.out.below (HRB.out _ HBQ.out).2) (HM.out.below (HRB.out _ HBQ.out).2)
        rw [HD2R.out] at hcall
        have HBP := Lib.hid hbq
        clear hconv hcap hG hsl hbq hS2E
        refine hcall.mono ?_
        clear hcall
        rintro e w11 ⟨vv2, us2, rfl, hrow2, hin2, hbb⟩
        have HST2 := Lib.hid (HBP.out.trans (hbb.mono HBP.out.size))
        have HXw11 := Lib.hid (HXw10.out.trans (HST2.out.mono HSw10.out))
        have HSw11 : Hid (w.heap.size + 1 ≤ w11.heap.size) := Lib.hid (Nat.le_trans HSw10.out HST2.out.size)
        have HROW2 := Lib.hid hrow2
        have HIN2 := Lib.hid hin2
        obtain ⟨_, _, vo2, vc2, rfl, _⟩ := hrow2
        simp only
        clear hin2 hbb HBQ HBP
        obtain ⟨b1, o1, cp1, x0, x1, x2, x3, x4, x5, hav, _, _, hly1, p0, p1, p2, p3, p4, p5⟩ := row_datum (HROW1.out.below HST2.out) (fun j h => ((HIN1.out.each j h).lay).keep HST2.out) (i := 0) (by simp)
        simp only [Value.slice.injEq, true_and] at hav
        obtain ⟨rfl, rfl⟩ := hav
        obtain ⟨b2, o2, cp2, y0, y1, y2, y3, y4, y5, hav, _, _, hly2, q0, q1, q2, q3, q4, q5⟩ := row_datum HROW2.out (fun j h => (HIN2.out.each j h).lay) (i := 0) (by simp)
        simp only [Value.slice.injEq, true_and] at hav
        obtain ⟨rfl, rfl⟩ := hav
        simp only [List.length_singleton, Nat.zero_mul, Nat.add_zero, List.getElem_cons_zero] at hly1 p0 p1 p2 p3 p4 p5 hly2 q0 q1 q2 q3 q4 q5 ⊢
        have HLX := Lib.hid hly1
        have HLY := Lib.hid hly2
        have HP : Hid (∀ W, Below w11.heap.size w11 W → (W.cell? ⟨b1, o1, none⟩ = some x0 ∧ W.cell? ⟨b1, o1 + 1, none⟩ = some x1 ∧ W.cell? ⟨b1, o1 + 2, none⟩ = some x2 ∧ W.cell? ⟨b1, o1 + 3, none⟩ = some x3 ∧ W.cell? ⟨b1, o1 + 4, none⟩ = some x4 ∧ W.cell? ⟨b1, o1 + 5, none⟩ = some x5) ∧ W.cell? ⟨b2, o2, none⟩ = some y0 ∧ W.cell? ⟨b2, o2 + 1, none⟩ = some y1 ∧ W.cell? ⟨b2, o2 + 2, none⟩ = some y2 ∧ W.cell? ⟨b2, o2 + 3, none⟩ = some y3 ∧ W.cell? ⟨b2, o2 + 4, none⟩ = some y4 ∧ W.cell? ⟨b2, o2 + 5, none⟩ = some y5) := Lib.hid fun W h => ⟨⟨cell_keep p0 h, cell_keep p1 h, cell_keep p2 h, cell_keep p3 h, cell_keep p4 h, cell_keep p5 h⟩, cell_keep q0 h, cell_keep q1 h, cell_keep q2 h, cell_keep q3 h, cell_keep q4 h, cell_keep q5 h⟩
        clear hly1 hly2 p0 p1 p2 p3 p4 p5 q0 q1 q2 q3 q4 q5
        obtain ⟨i1, hi1, hy0, hy1, hy2⟩ := info_parts infoDat
        have HO0 : Hid ((w11.alloc (.cells #[] 27)).ownsRow w11.heap.size 27 6 (.slice (some ⟨w11.heap.size, 0, none⟩) 0 0) 0 []) := Lib.hid (World.ownsRow_lit (base := w11.heap.size) (size := 6) (e := 27) w11 #[] 0 (Nat.le_refl _) (by simp) rfl)
        have HRL : Hid (RowV (w11.alloc (.cells #[] 27)) (.slice ao l.length cv0) l.length 6 us) := Lib.hid (HRW.out.below ((HRB.out _ HXw11.out).2.trans ((below1 w11 _).mono (HRB.out _ HXw11.out).2.size)))
        have HON : Hid (∀ u ∈ us, u.oneCell' = true) := Lib.hid (row_one HRW.out HIN.out)
        go_wp2_with (first | (at_builtin; (refine wpList_append_row _ rfl _ _ 25 rfl w11.heap.size 27 i1 (.agg #[.int .i64 0, .string ⟨#[]⟩, .bool false, .slice none 0 0, .slice none 0 0, .int .i64 0]) 6 88 Tryz.underlying25 hi1 hy0 hy1 hy2 rfl (by decide) _ 0 [] rfl HO0.out _ l.length us rfl HRL.out HON.out (by unfold maxLen; omega) (by omega) (by simp) ?_); intro va w12 hown1 hgrow1 hmv1; clear hmv1; rw [Nat.zero_add, List.nil_append] at hown1; have hs12 := hgrow1.size; simp only [World.size_alloc] at hs12) | (at_builtin; (refine wpList_append_row _ rfl _ _ 25 rfl w11.heap.size 27 i1 (.agg #[.int .i64 0, .string ⟨#[]⟩, .bool false, .slice none 0 0, .slice none 0 0, .int .i64 0]) 6 88 Tryz.underlying25 hi1 hy0 hy1 hy2 rfl (by decide) _ l.length us rfl (hown1.alloc _) _ 1 [.int .i64 4, .string ⟨#[122, 122]⟩, .bool false, .slice none 0 0, .slice none 0 0, .int .i64 0] rfl (row1 w12 [.int .i64 4, .string ⟨#[122, 122]⟩, .bool false, .slice none 0 0, .slice none 0 0, .int .i64 0] rfl) (by intro u hu; simp only [List.mem_cons, List.not_mem_nil, or_false] at hu; rcases hu with rfl | rfl | rfl | rfl | rfl | rfl <;> rfl) (by unfold maxLen; omega) (by omega) (by simp; omega) ?_); intro vb w13 hown2 hgrow2 hmv2; clear hmv2; obtain ⟨dv0, dc0, rfl⟩ := own_dslice hown2))
        have hb12 : Below w11.heap.size w11 w12 := (below1 w11 _).grown hgrow1 (by simp) (fun g hg => by cases hg; exact Nat.le_refl _)
        have hb13 : Below w11.heap.size w11 w13 := (hb12.alloc hb12.size _).grown hgrow2 (by simp; omega) (fun g hg => (hown1.lt g hg).1)
        have HB13 := Lib.hid hb13
        have HRD := Lib.hid (RowV.of_own hown2)
        have hd13 := below1 w13 (.cells #[.int .i64 2, .string ⟨#[]⟩, .bool false, .slice none 0 0, .slice dv0 (l.length + 1) dc0, .int .i64 0] 27)
        have HD13 := Lib.hid hd13
        have HX13 := Lib.hid (HXw11.out.trans ((hb13.trans (hd13.mono hb13.size)).mono HSw11.out))
        have HLD : Hid (Lay (w13.alloc (.cells #[.int .i64 2, .string ⟨#[]⟩, .bool false, .slice none 0 0, .slice dv0 (l.length + 1) dc0, .int .i64 0] 27)) (.mk 2 [] false [] (l ++ [zzD]) 0) [.int .i64 2, .string ⟨#[]⟩, .bool false, .slice none 0 0, .slice dv0 (l.length + 1) dc0, .int .i64 0]) := Lib.hid (by
          refine Lay.mk By.nil (by simp) (fun i => by simp [limb]) (Sl.nil' _ _) (by rw [List.length_append]; exact HRD.out.below hd13) fun i hi => ?_
          have hul := HRW.out.1
          rw [List.length_append] at hi
          simp only [List.length_cons, List.length_nil] at hi
          by_cases hil : i < l.length
          · rw [List.getElem_append_left hil]
            have e : ((us ++ ([.int .i64 4, .string ⟨#[122, 122]⟩, .bool false, .slice none 0 0, .slice none 0 0, .int .i64 0] : List Value)).drop (i * 6)).take 6 = (us.drop (i * 6)).take 6 := by
              rw [List.drop_append_of_le_length (by omega), List.take_append_of_le_length (by rw [List.length_drop]; omega)]
            rw [e]
            exact (HIN.out i hil).keep (HRB.out _ HX13.out).2
          · obtain rfl : i = l.length := by omega
            rw [List.getElem_append_right (Nat.le_refl _)]
            simp only [Nat.sub_self, List.getElem_cons_zero]
            have e : ((us ++ ([.int .i64 4, .string ⟨#[122, 122]⟩, .bool false, .slice none 0 0, .slice none 0 0, .int .i64 0] : List Value)).drop (l.length * 6)).take 6 = [.int .i64 4, .string ⟨#[122, 122]⟩, .bool false, .slice none 0 0, .slice none 0 0, .int .i64 0] := by
              rw [← hul, List.drop_left]
              rfl
            rw [e]
            exact Lay.mk (t := [122, 122]) (r := []) (l := []) (us := []) (by_of (by decide)) (by unfold maxLen; simp) (fun i => by simp [limb]) (Sl.nil' _ _) ⟨rfl, by unfold maxLen; simp, none, 0, rfl, Nat.le_refl _, .inl ⟨rfl, fun _ => rfl⟩⟩ fun i hi => by simp at hi)
        clear hown1 hown2 hgrow1 hgrow2 hs12 hb12 hb13
        have HGD := Lib.hid (box1 w13 #[.int .i64 2, .string ⟨#[]⟩, .bool false, .slice none 0 0, .slice dv0 (l.length + 1) dc0, .int .i64 0] 27)
        have HWS : Hid (w13.heap.size < (w13.alloc (.cells #[.int .i64 2, .string ⟨#[]⟩, .bool false, .slice none 0 0, .slice dv0 (l.length + 1) dc0, .int .i64 0] 27)).heap.size ∧ Below w11.heap.size w11 (w13.alloc (.cells #[.int .i64 2, .string ⟨#[]⟩, .bool false, .slice none 0 0, .slice dv0 (l.length + 1) dc0, .int .i64 0] 27))) := Lib.hid ⟨by simp, HB13.out.trans (HD13.out.mono HB13.out.size)⟩
        clear hd13
        generalize (w13.alloc (.cells #[.int .i64 2, .string ⟨#[]⟩, .bool false, .slice none 0 0, .slice dv0 (l.length + 1) dc0, .int .i64 0] 27)) = WD at *
        have HALL : Hid (∀ W, Below WD.heap.size WD W → ((W.cell? ⟨b1, o1, none⟩ = some x0 ∧ W.cell? ⟨b1, o1 + 1, none⟩ = some x1 ∧ W.cell? ⟨b1, o1 + 2, none⟩ = some x2 ∧ W.cell? ⟨b1, o1 + 3, none⟩ = some x3 ∧ W.cell? ⟨b1, o1 + 4, none⟩ = some x4 ∧ W.cell? ⟨b1, o1 + 5, none⟩ = some x5) ∧ W.cell? ⟨w.heap.size, 0, none⟩ = some (.int .i64 1) ∧ W.cell? ⟨w.heap.size, 1, none⟩ = some (.string ⟨#[]⟩) ∧ W.cell? ⟨w.heap.size, 2, none⟩ = some (.bool false) ∧ W.cell? ⟨w.heap.size, 3, none⟩ = some (.slice none 0 0) ∧ W.cell? ⟨w.heap.size, 4, none⟩ = some (.slice ao l.length cv0) ∧ W.cell? ⟨w.heap.size, 5, none⟩ = some (.int .i64 0)) ∧ (W.cell? ⟨b2, o2, none⟩ = some y0 ∧ W.cell? ⟨b2, o2 + 1, none⟩ = some y1 ∧ W.cell? ⟨b2, o2 + 2, none⟩ = some y2 ∧ W.cell? ⟨b2, o2 + 3, none⟩ = some y3 ∧ W.cell? ⟨b2, o2 + 4, none⟩ = some y4 ∧ W.cell? ⟨b2, o2 + 5, none⟩ = some y5) ∧ W.cell? ⟨w13.heap.size, 0, none⟩ = some (.int .i64 2) ∧ W.cell? ⟨w13.heap.size, 1, none⟩ = some (.string ⟨#[]⟩) ∧ W.cell? ⟨w13.heap.size, 2, none⟩ = some (.bool false) ∧ W.cell? ⟨w13.heap.size, 3, none⟩ = some (.slice none 0 0) ∧ W.cell? ⟨w13.heap.size, 4, none⟩ = some (.slice dv0 (l.length + 1) dc0) ∧ W.cell? ⟨w13.heap.size, 5, none⟩ = some (.int .i64 0)) := Lib.hid fun W h => by
          have h11 := HWS.out.2.trans (h.mono HWS.out.2.size)
          have hb0 := (HRB.out _ HX13.out).1
          exact ⟨⟨(HP.out W h11).1, row6 ((h.block w.heap.size (Array.getElem?_eq_some_iff.1 hb0).1).trans hb0)⟩, (HP.out W h11).2, row6 ((h.block w13.heap.size HWS.out.1).trans HGD.out)⟩
        have hd1 := (Below.refl WD.heap.size WD).drew
        have hall := HALL.out _ hd1
        go_region_held_law (fun W => ((W.cell? ⟨b1, o1, none⟩ = some x0 ∧ W.cell? ⟨b1, o1 + 1, none⟩ = some x1 ∧ W.cell? ⟨b1, o1 + 2, none⟩ = some x2 ∧ W.cell? ⟨b1, o1 + 3, none⟩ = some x3 ∧ W.cell? ⟨b1, o1 + 4, none⟩ = some x4 ∧ W.cell? ⟨b1, o1 + 5, none⟩ = some x5) ∧ W.cell? ⟨w.heap.size, 0, none⟩ = some (.int .i64 1) ∧ W.cell? ⟨w.heap.size, 1, none⟩ = some (.string ⟨#[]⟩) ∧ W.cell? ⟨w.heap.size, 2, none⟩ = some (.bool false) ∧ W.cell? ⟨w.heap.size, 3, none⟩ = some (.slice none 0 0) ∧ W.cell? ⟨w.heap.size, 4, none⟩ = some (.slice ao l.length cv0) ∧ W.cell? ⟨w.heap.size, 5, none⟩ = some (.int .i64 0)) ∧ (W.cell? ⟨b2, o2, none⟩ = some y0 ∧ W.cell? ⟨b2, o2 + 1, none⟩ = some y1 ∧ W.cell? ⟨b2, o2 + 2, none⟩ = some y2 ∧ W.cell? ⟨b2, o2 + 3, none⟩ = some y3 ∧ W.cell? ⟨b2, o2 + 4, none⟩ = some y4 ∧ W.cell? ⟨b2, o2 + 5, none⟩ = some y5) ∧ W.cell? ⟨w13.heap.size, 0, none⟩ = some (.int .i64 2) ∧ W.cell? ⟨w13.heap.size, 1, none⟩ = some (.string ⟨#[]⟩) ∧ W.cell? ⟨w13.heap.size, 2, none⟩ = some (.bool false) ∧ W.cell? ⟨w13.heap.size, 3, none⟩ = some (.slice none 0 0) ∧ W.cell? ⟨w13.heap.size, 4, none⟩ = some (.slice dv0 (l.length + 1) dc0) ∧ W.cell? ⟨w13.heap.size, 5, none⟩ = some (.int .i64 0))
          (first | exact HALL.out _ ha2 | exact HALL.out _ ha1 | exact hall)
          (first
            | (have hg1 := ha1; clear hg1; go_simp; go_at_call 16; refine (rsame_dm _ D2 (.mk 2 [] false [] (l ++ [zzD]) 0) (Nat.le_refl _) [y0, y1, y2, y3, y4, y5] [.int .i64 2, .string ⟨#[]⟩, .bool false, .slice none 0 0, .slice dv0 (l.length + 1) dc0, .int .i64 0] _ (HLY.out.keep (HWS.out.2.trans (ha1.mono HWS.out.2.size))) (HLD.out.keep ha1)).mono ?_; rw [sameA_true HD2S.out]; rintro e w15 ⟨rfl, hb15⟩; have ha2 := ha1.trans (hb15.mono ha1.size))
            | (go_simp; go_at_call 16; refine (rsame_dm _ D1 (alD l) (Nat.le_refl _) [x0, x1, x2, x3, x4, x5] [.int .i64 1, .string ⟨#[]⟩, .bool false, .slice none 0 0, .slice ao l.length cv0, .int .i64 0] _ (HLX.out.keep (HWS.out.2.trans (hd1.mono HWS.out.2.size))) (HLA.out.keep ((HRB.out _ HX13.out).2.trans (hd1.mono (HRB.out _ HX13.out).2.size)))).mono ?_; rw [sameA_true HD1S.out]; rintro e w14 ⟨rfl, hb14⟩; have ha1 := hd1.trans (hb14.mono hd1.size)))
        all_goals
          go_wp2_with fail
          go_ret
          exact ⟨rfl, (HRB.out _ HX13.out).2.trans (ha2.mono (HRB.out _ HX13.out).2.size)⟩
end Go.Proofs.YtpahfhjgcflifaaGreatDoor
