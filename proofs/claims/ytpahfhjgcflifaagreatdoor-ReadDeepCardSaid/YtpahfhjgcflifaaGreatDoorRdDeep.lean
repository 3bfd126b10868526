/- The law ReadDeep, at any world. -/
import Derived.Test.YtpahfhjgcflifaaGreatDoorRdNest
import Derived.Test.YtpahfhjgcflifaaGreatDoorOrd
import Derived.Lib.SlBytesConst
namespace Go.Proofs.YtpahfhjgcflifaaGreatDoor
open Go.RowKit

theorem nestT_size {n : Nat} {s : List Nat} : (mkB (nestT n s)).size = 2 * n + s.length := by rw [mkB_size, nestT_len]
theorem by_low {u : List Nat} (h : ∀ c ∈ u, c < 128) : By u := by
  intro i
  rcases Nat.lt_or_ge i u.length with hi | hi
  · rw [limb_lt hi]
    have := h _ (List.getElem_mem hi)
    omega
  · rw [limb_out hi]; omega
theorem nestT_step (k : Nat) (s : List Nat) : ByteArray.mk #[40] ++ mkB (nestT k s) ++ ByteArray.mk #[41] = mkB (nestT (k + 1) s) := by
  unfold mkB
  apply ByteArray.ext
  simp [nestT]

set_option maxRecDepth 100000 in
set_option maxHeartbeats 4000000 in
theorem nested_any (n : Nat) (hn : n ≤ 100) (s : List Nat) (hs : s.length ≤ 100) (w : World) :
    Calls Tryz.prog 19 #[.int .i64 (n : Nat), .string (mkB s)] w fun e w' => e = .returned (.string (mkB (nestT n s))) ∧ Below w.heap.size w w' := by
  go_enter Tryz.func19, Tryz.ntmps19
  go_wp2_with fail
  go_loopw [5, 6] (fun v i wr => ∃ k, k ≤ n ∧ i = .int .i64 (k : Nat) ∧ v = .string (mkB (nestT k s)) ∧ Below w.heap.size w wr) (fun _ i _ => n - (intOf i).toNat)
  case atStart => exact ⟨0, Nat.zero_le _, rfl, rfl, Below.refl _ _⟩
  case round =>
    obtain ⟨k, hk, rfl, hv, hbel⟩ := hrel
    have hz := @nestT_size k s
    have HST := Lib.hid (nestT_step k s)
    obtain ⟨O, hO⟩ : ∃ O, O = mkB (nestT k s) := ⟨_, rfl⟩
    rw [← hO] at hv hz HST
    subst hv
    have HO := Lib.hid hO
    have HB := Lib.hid hbel
    clear hbel hO
    by_cases hkn : k < n
    · have hki : ((k : Nat) : Int) < ((n : Nat) : Int) := by omega
      have g1 : ¬ 9223372036854775807 < 1 + O.size := by omega
      have g2 : ¬ 9223372036854775807 < 1 + O.size + 1 := by omega
      go_wp2_with fail
      go_roundw
      case measure => simp only [intOf]; omega
      case rel =>
        refine ⟨k + 1, by omega, by go_num, ?_, by first | exact HB.out | exact HB.out.drew⟩
        rw [HST.out]
    · have hki : ¬ ((k : Nat) : Int) < ((n : Nat) : Int) := by omega
      obtain rfl : k = n := by omega
      go_wp2_with fail
      go_ret
      exact ⟨by rw [← HO.out]; rfl, HB.out⟩

set_option maxRecDepth 100000 in
set_option maxHeartbeats 4000000 in
theorem readdeep_any (x y : Int) (w : World) (ht : Tabs2 w) (hwd : Words w) (hmk : Marks w) (hx0 : 0 ≤ x) (_hx1 : x ≤ 255) (hy0 : 0 ≤ y) (_hy1 : y ≤ 255) :
    Calls Tryz.prog 6 #[.int .u8 x, .int .u8 y] w fun e w' => e = .returned (.bool true) ∧ Below w.heap.size w w' := by
  obtain ⟨k, hk⟩ : ∃ k : Nat, x.tmod 70 = ((k : Nat) : Int) := ⟨(x.tmod 70).toNat, by rw [Int.toNat_of_nonneg (Int.tmod_nonneg _ hx0)]⟩
  obtain ⟨d, hd⟩ : ∃ d : Nat, y.tmod 64 = ((d : Nat) : Int) := ⟨(y.tmod 64).toNat, by rw [Int.toNat_of_nonneg (Int.tmod_nonneg _ hy0)]⟩
  have hk2 : k < 70 := by have := Int.tmod_lt_of_pos x (show (0 : Int) < 70 by decide); omega
  have hd2 : d < 64 := by have := Int.tmod_lt_of_pos y (show (0 : Int) < 64 by decide); omega
  have HT := Lib.hid ht
  have HW := Lib.hid hwd
  have HM := Lib.hid hmk
  clear ht hwd hmk
  go_enter Tryz.func6, Tryz.ntmps6
  have hdc : ((d + 1 : Nat) : Int) = (d : Int) + 1 := by omega
  have HA := nest_read (n := k) (depth := d + 1) (Nat.le_refl 1) aD_ok aD_writes (by decide) (by simp [aD, leaf_sz]) (by simp) (by omega) (by omega) (by omega)
  have HQ := nest_read (n := k) (depth := d + 1) (m := 2) (by omega) qaD_ok qaD_writes (by decide) (by unfold qaD aD; simp [sz_sumA, sumA]) (by simp) (by omega) (by omega) (by omega)
  rw [hdc] at HA HQ
  have HA' := Lib.hid HA
  have HQ' := Lib.hid HQ
  clear hdc HA HQ
  go_wp2_with fail
  refine (nested_any k (by omega) [97] (by simp) _).mono ?_
  rintro e w1 ⟨rfl, hb1⟩
  have HB1 := Lib.hid (hb1)
  clear hb1
  have HZ : Hid ((mkB (nestT k [97])).size = 2 * k + 1) := Lib.hid nestT_size
  have hbm : byt (mkB (nestT k [97])) = nestT k [97] := byt_mk (by_low (nestT_low (by decide)))
  have hconv := run_bytes_of_string (P := Tryz.prog) w1 9 34 5 (mkB (nestT k [97])) Tryz.underlying9 Tryz.underlying34 Tryz.underlying5
  have hcap := grownCap_ge w1 (mkB (nestT k [97])).size 0 5
  go_wp2_with fail
  generalize hG : grownCap w1 (mkB (nestT k [97])).size 0 5 = cap at *
  have hsl := row_slS (w := w1) (e := 5) (W := ((w1.alloc (Obj.cells (bytesRow (mkB (nestT k [97])) cap) 5 ((bytesRow (mkB (nestT k [97])) cap).size, (bytesRow (mkB (nestT k [97])) cap).size + 1))).drew)) (heap_alloc_new w1 _) hcap (by rw [HZ.out]; omega)
  rw [hbm] at hsl
  have hbq : Below w1.heap.size w1 ((w1.alloc (Obj.cells (bytesRow (mkB (nestT k [97])) cap) 5 ((bytesRow (mkB (nestT k [97])) cap).size, (bytesRow (mkB (nestT k [97])) cap).size + 1))).drew) := (below1 w1 _).drew
  have HBW := Lib.hid (HB1.out.trans (hbq.mono HB1.out.size))
  have hcall := read_all _ _ ((d : Int) + 1) _ hsl (by_low (nestT_low (by decide))) (HT.out.below HBW.out) (HW.out.below HBW.out) (HM.out.below HBW.out)
  clear hconv hcap hG hsl hbq hbm
  generalize readA (nestT k [97]) ((d : Int) + 1) = R at *
  refine hcall.mono ?_
  clear hcall
  obtain ⟨rl, rp, E1⟩ := R
  rintro e w2 ⟨v1, us1, rfl, hrow, hin, hb⟩
  have HB1R := Lib.hid (HBW.out.trans (hb.mono HBW.out.size))
  clear hrow hin hb HBW HZ
  go_wp2_with fail
  refine (nested_any k (by omega) [39, 97] (by simp) _).mono ?_
  rintro e w3 ⟨rfl, hb1⟩
  have HB2 := Lib.hid (HB1R.out.trans (hb1.mono HB1R.out.size))
  clear hb1
  have HZ : Hid ((mkB (nestT k [39, 97])).size = 2 * k + 2) := Lib.hid nestT_size
  have hbm : byt (mkB (nestT k [39, 97])) = nestT k [39, 97] := byt_mk (by_low (nestT_low (by decide)))
  have hconv := run_bytes_of_string (P := Tryz.prog) w3 9 34 5 (mkB (nestT k [39, 97])) Tryz.underlying9 Tryz.underlying34 Tryz.underlying5
  have hcap := grownCap_ge w3 (mkB (nestT k [39, 97])).size 0 5
  go_wp2_with fail
  generalize hG : grownCap w3 (mkB (nestT k [39, 97])).size 0 5 = cap at *
  have hsl := row_slS (w := w3) (e := 5) (W := ((w3.alloc (Obj.cells (bytesRow (mkB (nestT k [39, 97])) cap) 5 ((bytesRow (mkB (nestT k [39, 97])) cap).size, (bytesRow (mkB (nestT k [39, 97])) cap).size + 1))).drew)) (heap_alloc_new w3 _) hcap (by rw [HZ.out]; omega)
  rw [hbm] at hsl
  have hbq : Below w3.heap.size w3 ((w3.alloc (Obj.cells (bytesRow (mkB (nestT k [39, 97])) cap) 5 ((bytesRow (mkB (nestT k [39, 97])) cap).size, (bytesRow (mkB (nestT k [39, 97])) cap).size + 1))).drew) := (below1 w3 _).drew
  have HBW := Lib.hid (HB2.out.trans (hbq.mono HB2.out.size))
  have hcall := read_all _ _ ((d : Int) + 1) _ hsl (by_low (nestT_low (by decide))) (HT.out.below HBW.out) (HW.out.below HBW.out) (HM.out.below HBW.out)
  clear hconv hcap hG hsl hbq hbm
  generalize readA (nestT k [39, 97]) ((d : Int) + 1) = R at *
  refine hcall.mono ?_
  clear hcall
  obtain ⟨rl, rp, E2⟩ := R
  rintro e w4 ⟨v2, us2, rfl, hrow, hin, hb⟩
  have HB2R := Lib.hid (HBW.out.trans (hb.mono HBW.out.size))
  clear hrow hin hb HBW HZ
  by_cases c1 : d + 1 < k + 1
  · have hc1 : (d : Int) + 1 < (k : Int) + 1 := by omega
    have hc2 : (d : Int) + 1 < (k : Int) + 2 := by omega
    obtain rfl : E1 = 5 := (HA'.out : E1 = _).trans (if_pos (by omega))
    obtain rfl : E2 = 5 := (HQ'.out : E2 = _).trans (if_pos (by omega))
    go_wp2_with fail
    refine (ranswers_any _ (HT.out.below HB2R.out) (HW.out.below HB2R.out) (HM.out.below HB2R.out)).mono ?_
    rintro e w5 ⟨rfl, hb5⟩
    have HB5 := Lib.hid (HB2R.out.trans (hb5.mono HB2R.out.size))
    clear hb5
    go_wp2_with fail
    go_ret
    exact ⟨rfl, HB5.out⟩
  · have hc1 : ¬ (d : Int) + 1 < (k : Int) + 1 := by omega
    obtain rfl : E1 = 0 := (HA'.out : E1 = _).trans (if_neg (by omega))
    by_cases c2 : d + 1 < k + 2
    · have hc2 : (d : Int) + 1 < (k : Int) + 2 := by omega
      obtain rfl : E2 = 5 := (HQ'.out : E2 = _).trans (if_pos (by omega))
      go_wp2_with fail
      refine (ranswers_any _ (HT.out.below HB2R.out) (HW.out.below HB2R.out) (HM.out.below HB2R.out)).mono ?_
      rintro e w5 ⟨rfl, hb5⟩
      have HB5 := Lib.hid (HB2R.out.trans (hb5.mono HB2R.out.size))
      clear hb5
      go_wp2_with fail
      go_ret
      exact ⟨rfl, HB5.out⟩
    · have hc2 : ¬ (d : Int) + 1 < (k : Int) + 2 := by omega
      obtain rfl : E2 = 0 := (HQ'.out : E2 = _).trans (if_neg (by omega))
      go_wp2_with fail
      refine (ranswers_any _ (HT.out.below HB2R.out) (HW.out.below HB2R.out) (HM.out.below HB2R.out)).mono ?_
      rintro e w5 ⟨rfl, hb5⟩
      have HB5 := Lib.hid (HB2R.out.trans (hb5.mono HB2R.out.size))
      clear hb5
      go_wp2_with fail
      go_ret
      exact ⟨rfl, HB5.out⟩
end Go.Proofs.YtpahfhjgcflifaaGreatDoor
