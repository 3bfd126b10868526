/- x -/
import Derived.Test.YtbfcbicbeagjkaaGreatDoorUDec
namespace Go.Proofs.YtbfcbicbeagjkaaGreatDoor
open Go.RowKit
def encN (c : Nat) : List Nat := if c < 128 then [c] else if c < 2048 then [192 + c / 64, 128 + c % 64] else if c < 65536 then [224 + c / 4096, 128 + c / 64 % 64, 128 + c % 64] else [240 + c / 262144, 128 + c / 4096 % 64, 128 + c / 64 % 64, 128 + c % 64]
theorem encN_len (c : Nat) : (encN c).length = blen c := by
 unfold encN blen
 repeat' split
 all_goals rfl
def BytesPost (c : Nat) (w : World) (e : Ending) (w' : World) : Prop :=
 e = .returned (.slice (some ⟨w.heap.size, 0, none⟩) (encN c).length (encN c).length) ∧ w' = w.alloc (.cells ((encN c).map fun (x : Nat) => Value.int .u8 (x : Int)).toArray 5)
set_option maxRecDepth 100000 in
theorem rbytes_any (c : Nat) (w : World) (hc : c ≤ 1114111) : Calls Tryz.prog 170 #[.int .i64 (c : Int)] w (BytesPost c w) := by
 by_cases h1 : c < 128
 . have HE := Lib.hid (show encN c = [c] by unfold encN; rw [if_pos h1])
   go_enter Tryz.func170, Tryz.ntmps170
   go_wp2
   go_ret
   unfold BytesPost
   rw [HE.out]
   exact ⟨rfl, rfl⟩
 by_cases h2 : c < 2048
 . have HE := Lib.hid (show encN c = [192 + c / 64, 128 + c % 64] by unfold encN; rw [if_neg h1, if_pos h2])
   go_enter Tryz.func170, Tryz.ntmps170
   go_wp2
   go_ret
   unfold BytesPost
   rw [HE.out]
   exact ⟨rfl, by simp⟩
 by_cases h3 : c < 65536
 . have HE := Lib.hid (show encN c = [224 + c / 4096, 128 + c / 64 % 64, 128 + c % 64] by unfold encN; rw [if_neg h1, if_neg h2, if_pos h3])
   have d1 : decide ((c : Int) < 128) = false := by rw [decide_eq_false_iff_not]; omega
   have d2 : decide ((c : Int) < 2048) = false := by rw [decide_eq_false_iff_not]; omega
   have d3 : decide ((c : Int) < 65536) = true := by rw [decide_eq_true_iff]; omega
   have q1 : (c : Int) / 4096 ≤ 15 := by omega
   have q2 : 0 ≤ (c : Int) / 4096 := by omega
   have q3 : 0 ≤ (c : Int) / 64 := by omega
   have q4 : (c : Int) / 64 % 64 ≤ 63 := by omega
   have q5 : 0 ≤ (c : Int) / 64 % 64 := by omega
   clear h1 h2 h3 hc
   go_enter Tryz.func170, Tryz.ntmps170
   go_wp2
   go_ret
   unfold BytesPost
   rw [HE.out]
   exact ⟨rfl, by simp⟩
 . have HE := Lib.hid (show encN c = [240 + c / 262144, 128 + c / 4096 % 64, 128 + c / 64 % 64, 128 + c % 64] by unfold encN; rw [if_neg h1, if_neg h2, if_neg h3])
   have d1 : decide ((c : Int) < 128) = false := by rw [decide_eq_false_iff_not]; omega
   have d2 : decide ((c : Int) < 2048) = false := by rw [decide_eq_false_iff_not]; omega
   have d3 : decide ((c : Int) < 65536) = false := by rw [decide_eq_false_iff_not]; omega
   have q0 : (c : Int) / 262144 ≤ 4 := by omega
   have q9 : 0 ≤ (c : Int) / 262144 := by omega
   have q2 : 0 ≤ (c : Int) / 4096 := by omega
   have q3 : 0 ≤ (c : Int) / 64 := by omega
   have q4 : (c : Int) / 64 % 64 ≤ 63 := by omega
   have q5 : 0 ≤ (c : Int) / 64 % 64 := by omega
   have q6 : (c : Int) / 4096 % 64 ≤ 63 := by omega
   have q7 : 0 ≤ (c : Int) / 4096 % 64 := by omega
   clear h1 h2 h3 hc
   go_enter Tryz.func170, Tryz.ntmps170
   go_wp2
   go_ret
   unfold BytesPost
   rw [HE.out]
   exact ⟨rfl, by simp⟩
theorem scB_nat (c : Nat) : scB (c : Int) = decide (scN c) := by
 rw [Bool.eq_iff_iff]
 unfold scB
 simp only [decide_eq_true_iff]
 unfold scN
 omega
theorem cont_le {bs : List Nat} (h : By bs) (i : Nat) {k : Nat} (hk : k ≤ 4) : cont bs i k ≤ 100000000 := by
 have h0 := h i
 have h1 := h (i + 1)
 have h2 := h (i + 2)
 have h3 := h (i + 3)
 have hh : head0 (limb bs i) ≤ limb bs i := by unfold head0; repeat' split
                                               all_goals omega
 obtain rfl | rfl | rfl | rfl | rfl : k = 0 ∨ k = 1 ∨ k = 2 ∨ k = 3 ∨ k = 4 := by omega
 . exact Nat.zero_le _
 . rw [cont_one]; omega
 . rw [cont2]; omega
 . rw [cont3]; omega
 . rw [cont4]; omega
def OnePost (bs : List Nat) (i : Nat) (w : World) (e : Ending) (w' : World) : Prop :=
 e = .returned (.tuple #[.int .i64 ((oneA bs i).1 : Nat), .int .i64 ((oneA bs i).2 : Nat)]) ∧ Below w.heap.size w w'
theorem OnePost.none {bs : List Nat} {i : Nat} {w w' : World} (h : oneA bs i = (0, 0)) (hb : Below w.heap.size w w') : OnePost bs i w (.returned (.tuple #[.int .i64 0, .int .i64 0])) w' := by
 refine ⟨by rw [h]; rfl, hb⟩
theorem OnePost.some {bs : List Nat} {i c n : Nat} {w w' : World} (h : oneA bs i = (c, n)) (hb : Below w.heap.size w w') : OnePost bs i w (.returned (.tuple #[.int .i64 (c : Nat), .int .i64 (n : Nat)])) w' := by
 refine ⟨by rw [h], hb⟩
set_option maxRecDepth 100000 in
set_option maxHeartbeats 2000000 in
theorem one_none1 (b off cap i : Nat) (bs : List Nat) (w : World) (hi : i < bs.length) (_hlen : bs.length ≤ 1000000000000000) (hby : By bs) (hc : ∀ j, j < bs.length → w.cell? ⟨b, off + j, none⟩ = some (.int .u8 ((limb bs j : Nat) : Int))) (h1 : 128 ≤ limb bs i) (h2 : limb bs i < 192) :
 Calls Tryz.prog 138 #[.slice (some ⟨b, off, none⟩) bs.length cap, .int .i64 (i : Int)] w (OnePost bs i w) := by
 have HY := Lib.hid hby; clear hby
 have HC := Lib.hid hc
 have hc0 := hc i hi
 clear hc
 have hb0 := HY.out i
 have HL := Lib.hid (one_lead (bs := bs) (i := i) (by unfold lead; rw [if_neg (by omega), if_pos h2]))
 go_enter Tryz.func138, Tryz.ntmps138
 go_wp2
 go_ret2
 exact OnePost.none HL.out (Below.refl _ _)
set_option maxRecDepth 100000 in
set_option maxHeartbeats 2000000 in
theorem one_none2 (b off cap i : Nat) (bs : List Nat) (w : World) (hi : i < bs.length) (_hlen : bs.length ≤ 1000000000000000) (hby : By bs) (hc : ∀ j, j < bs.length → w.cell? ⟨b, off + j, none⟩ = some (.int .u8 ((limb bs j : Nat) : Int))) (h1 : 248 ≤ limb bs i) :
 Calls Tryz.prog 138 #[.slice (some ⟨b, off, none⟩) bs.length cap, .int .i64 (i : Int)] w (OnePost bs i w) := by
 have HY := Lib.hid hby; clear hby
 have HC := Lib.hid hc
 have hc0 := hc i hi
 clear hc
 have hb0 := HY.out i
 have HL := Lib.hid (one_lead (bs := bs) (i := i) (by unfold lead; rw [if_neg (by omega), if_neg (by omega), if_neg (by omega), if_neg (by omega), if_neg (by omega)]))
 go_enter Tryz.func138, Tryz.ntmps138
 go_wp2
 go_ret2
 exact OnePost.none HL.out (Below.refl _ _)
set_option maxRecDepth 100000 in
set_option maxHeartbeats 2000000 in
theorem one_1 (b off cap i : Nat) (bs : List Nat) (w : World) (hi : i < bs.length) (hlen : bs.length ≤ 1000000000000000) (hby : By bs) (hc : ∀ j, j < bs.length → w.cell? ⟨b, off + j, none⟩ = some (.int .u8 ((limb bs j : Nat) : Int))) (h2 : limb bs i < 128) :
 Calls Tryz.prog 138 #[.slice (some ⟨b, off, none⟩) bs.length cap, .int .i64 (i : Int)] w (OnePost bs i w) := by
 have HY := Lib.hid hby; clear hby
 have HC := Lib.hid hc
 have hc0 := hc i hi
 clear hc
 have hb0 := HY.out i
 have he : lead (limb bs i) = 1 := by unfold lead; rw [if_pos h2]
 have hh : head0 (limb bs i) = limb bs i := by unfold head0; rw [if_pos h2]
 have HLD := Lib.hid he
 have HHD := Lib.hid hh
 clear he hh
 by_cases hs : i + 1 ≤ bs.length
 . have hs1 : (i : Int) + 1 ≤ (bs.length : Int) := by omega
   go_enter Tryz.func138, Tryz.ntmps138
   go_wp2_with fail
   go_loop [6, 8] (fun c j => ∃ k : Nat, 1 ≤ k ∧ k ≤ 1 ∧ j = .int .i64 (k : Int) ∧ c = .int .i64 ((cont bs i k : Nat) : Int) ∧ ∀ q, 1 ≤ q → q < k → 128 ≤ limb bs (i + q) ∧ limb bs (i + q) < 192) (fun _ j => 1 - (intOf j).toNat)
   case atStart => exact ⟨1, by omega, by omega, rfl, by first | (rw [cont_one, HHD.out]; go_num) | rw [cont_one, HHD.out], fun q _ _ => by omega⟩
   case round =>
    obtain ⟨k, hk1, hk, rfl, rfl, hall⟩ := hrel
    have HA := Lib.hid hall; clear hall
    have hcl := cont_le HY.out i (show k ≤ 4 by omega)
    by_cases hkn : k < 1
    . exfalso; omega
    . obtain rfl : k = 1 := by omega
      obtain ⟨o1, o2⟩ := one_end (bs := bs) (i := i) (by rw [HLD.out]; exact hs) (by rw [HLD.out]; omega) (by rw [HLD.out]; exact HA.out)
      rw [HLD.out] at o1 o2
      have O1 := Lib.hid o1
      have O2 := Lib.hid o2
      clear o1 o2
      go_wp2_with fail
      refine (rscalar_any _ _).mono ?_
      rintro e w' ⟨rfl, rfl⟩
      by_cases hsc : scN (cont bs i 1)
      . have hv : scB ((cont bs i 1 : Nat) : Int) = true := by rw [scB_nat]; exact decide_eq_true hsc
        rw [hv]
        have HV := Lib.hid hsc
        have hle : cont bs i 1 ≤ 1114111 := by unfold scN at hsc; omega
        clear hv hsc
        go_wp2_with fail
        refine (rbytes_any _ _ hle).mono ?_
        rintro e w1 ⟨rfl, rfl⟩
        rw [encN_len]
        by_cases hbl : blen (cont bs i 1) = 1
        . rw [hbl]
          have HO := Lib.hid (O1.out ⟨HV.out, hbl⟩)
          clear hbl
          go_wp2
          go_ret2
          exact OnePost.some (n := 1) HO.out (below1 _ _)
        . have HO := Lib.hid (O2.out fun h => hbl h.2)
          have hne : (((blen (cont bs i 1) : Nat) : Int) != 1) = true := by rw [bne_iff_ne]; omega
          clear hbl
          go_wp2
          go_ret2
          exact OnePost.none HO.out (below1 _ _)
      . have hv : scB ((cont bs i 1 : Nat) : Int) = false := by rw [scB_nat]; exact decide_eq_false hsc
        rw [hv]
        have HO := Lib.hid (O2.out fun h => hsc h.1)
        clear hv hsc
        go_wp2
        go_ret2
        exact OnePost.none HO.out (Below.refl _ _)
 . exfalso; omega
set_option maxRecDepth 100000 in
set_option maxHeartbeats 2000000 in
theorem one_2 (b off cap i : Nat) (bs : List Nat) (w : World) (hi : i < bs.length) (hlen : bs.length ≤ 1000000000000000) (hby : By bs) (hc : ∀ j, j < bs.length → w.cell? ⟨b, off + j, none⟩ = some (.int .u8 ((limb bs j : Nat) : Int))) (h1 : 192 ≤ limb bs i) (h2 : limb bs i < 224) :
 Calls Tryz.prog 138 #[.slice (some ⟨b, off, none⟩) bs.length cap, .int .i64 (i : Int)] w (OnePost bs i w) := by
 have HY := Lib.hid hby; clear hby
 have HC := Lib.hid hc
 have hc0 := hc i hi
 clear hc
 have hb0 := HY.out i
 have he : lead (limb bs i) = 2 := by unfold lead; rw [if_neg (by omega), if_neg (by omega), if_pos h2]
 have hh : head0 (limb bs i) = limb bs i - 192 := by unfold head0; rw [if_neg (by omega), if_pos h2]
 have HLD := Lib.hid he
 have HHD := Lib.hid hh
 clear he hh
 by_cases hs : i + 2 ≤ bs.length
 . have hs1 : (i : Int) + 2 ≤ (bs.length : Int) := by omega
   go_enter Tryz.func138, Tryz.ntmps138
   go_wp2_with fail
   go_loop [6, 8] (fun c j => ∃ k : Nat, 1 ≤ k ∧ k ≤ 2 ∧ j = .int .i64 (k : Int) ∧ c = .int .i64 ((cont bs i k : Nat) : Int) ∧ ∀ q, 1 ≤ q → q < k → 128 ≤ limb bs (i + q) ∧ limb bs (i + q) < 192) (fun _ j => 2 - (intOf j).toNat)
   case atStart => exact ⟨1, by omega, by omega, rfl, by first | (rw [cont_one, HHD.out]; go_num) | rw [cont_one, HHD.out], fun q _ _ => by omega⟩
   case round =>
    obtain ⟨k, hk1, hk, rfl, rfl, hall⟩ := hrel
    have HA := Lib.hid hall; clear hall
    have hcl := cont_le HY.out i (show k ≤ 4 by omega)
    by_cases hkn : k < 2
    . have hck := HC.out (i + k) (by omega)
      have hbk := HY.out (i + k)
      by_cases ha : limb bs (i + k) < 128
      . have HN := Lib.hid (one_cont (bs := bs) (i := i) hk1 (by rw [HLD.out]; exact hkn) (.inl ha))
        go_wp2
        go_ret2
        exact OnePost.none HN.out (Below.refl _ _)
      . by_cases hb : 192 ≤ limb bs (i + k)
        . have HN := Lib.hid (one_cont (bs := bs) (i := i) hk1 (by rw [HLD.out]; exact hkn) (.inr hb))
          have hd1 : decide (((limb bs (i + k) : Nat) : Int) < 128) = false := by rw [decide_eq_false_iff_not]; omega
          have hd2 : decide ((192 : Int) ≤ ((limb bs (i + k) : Nat) : Int)) = true := by rw [decide_eq_true_iff]; omega
          go_wp2
          go_ret2
          exact OnePost.none HN.out (Below.refl _ _)
        . have HS := Lib.hid (cont_step bs i hk1)
          have hd1 : decide (((limb bs (i + k) : Nat) : Int) < 128) = false := by rw [decide_eq_false_iff_not]; omega
          have hd2 : decide ((192 : Int) ≤ ((limb bs (i + k) : Nat) : Int)) = false := by rw [decide_eq_false_iff_not]; omega
          go_wp2
          go_round
          case rel => exact ⟨k + 1, by omega, by omega, by go_num, by rw [HS.out]; go_num, fun q h1 h2 => by
           by_cases e : q = k
           . subst e; omega
           . exact HA.out q h1 (by omega)⟩
          case measure => simp only [intOf]; omega
    . obtain rfl : k = 2 := by omega
      obtain ⟨o1, o2⟩ := one_end (bs := bs) (i := i) (by rw [HLD.out]; exact hs) (by rw [HLD.out]; omega) (by rw [HLD.out]; exact HA.out)
      rw [HLD.out] at o1 o2
      have O1 := Lib.hid o1
      have O2 := Lib.hid o2
      clear o1 o2
      go_wp2_with fail
      refine (rscalar_any _ _).mono ?_
      rintro e w' ⟨rfl, rfl⟩
      by_cases hsc : scN (cont bs i 2)
      . have hv : scB ((cont bs i 2 : Nat) : Int) = true := by rw [scB_nat]; exact decide_eq_true hsc
        rw [hv]
        have HV := Lib.hid hsc
        have hle : cont bs i 2 ≤ 1114111 := by unfold scN at hsc; omega
        clear hv hsc
        go_wp2_with fail
        refine (rbytes_any _ _ hle).mono ?_
        rintro e w1 ⟨rfl, rfl⟩
        rw [encN_len]
        by_cases hbl : blen (cont bs i 2) = 2
        . rw [hbl]
          have HO := Lib.hid (O1.out ⟨HV.out, hbl⟩)
          clear hbl
          go_wp2
          go_ret2
          exact OnePost.some (n := 2) HO.out (below1 _ _)
        . have HO := Lib.hid (O2.out fun h => hbl h.2)
          have hne : (((blen (cont bs i 2) : Nat) : Int) != 2) = true := by rw [bne_iff_ne]; omega
          clear hbl
          go_wp2
          go_ret2
          exact OnePost.none HO.out (below1 _ _)
      . have hv : scB ((cont bs i 2 : Nat) : Int) = false := by rw [scB_nat]; exact decide_eq_false hsc
        rw [hv]
        have HO := Lib.hid (O2.out fun h => hsc h.1)
        clear hv hsc
        go_wp2
        go_ret2
        exact OnePost.none HO.out (Below.refl _ _)
 . have HN := Lib.hid (one_short (bs := bs) (i := i) (by rw [HLD.out]; omega) hi)
   have hs1 : (bs.length : Int) < (i : Int) + 2 := by omega
   go_enter Tryz.func138, Tryz.ntmps138
   go_wp2
   go_ret2
   exact OnePost.none HN.out (Below.refl _ _)
set_option maxRecDepth 100000 in
set_option maxHeartbeats 2000000 in
theorem one_3 (b off cap i : Nat) (bs : List Nat) (w : World) (hi : i < bs.length) (hlen : bs.length ≤ 1000000000000000) (hby : By bs) (hc : ∀ j, j < bs.length → w.cell? ⟨b, off + j, none⟩ = some (.int .u8 ((limb bs j : Nat) : Int))) (h1 : 224 ≤ limb bs i) (h2 : limb bs i < 240) :
 Calls Tryz.prog 138 #[.slice (some ⟨b, off, none⟩) bs.length cap, .int .i64 (i : Int)] w (OnePost bs i w) := by
 have HY := Lib.hid hby; clear hby
 have HC := Lib.hid hc
 have hc0 := hc i hi
 clear hc
 have hb0 := HY.out i
 have he : lead (limb bs i) = 3 := by unfold lead; rw [if_neg (by omega), if_neg (by omega), if_neg (by omega), if_pos h2]
 have hh : head0 (limb bs i) = limb bs i - 224 := by unfold head0; rw [if_neg (by omega), if_neg (by omega), if_pos h2]
 have HLD := Lib.hid he
 have HHD := Lib.hid hh
 clear he hh
 by_cases hs : i + 3 ≤ bs.length
 . have hs1 : (i : Int) + 3 ≤ (bs.length : Int) := by omega
   go_enter Tryz.func138, Tryz.ntmps138
   go_wp2_with fail
   go_loop [6, 8] (fun c j => ∃ k : Nat, 1 ≤ k ∧ k ≤ 3 ∧ j = .int .i64 (k : Int) ∧ c = .int .i64 ((cont bs i k : Nat) : Int) ∧ ∀ q, 1 ≤ q → q < k → 128 ≤ limb bs (i + q) ∧ limb bs (i + q) < 192) (fun _ j => 3 - (intOf j).toNat)
   case atStart => exact ⟨1, by omega, by omega, rfl, by first | (rw [cont_one, HHD.out]; go_num) | rw [cont_one, HHD.out], fun q _ _ => by omega⟩
   case round =>
    obtain ⟨k, hk1, hk, rfl, rfl, hall⟩ := hrel
    have HA := Lib.hid hall; clear hall
    have hcl := cont_le HY.out i (show k ≤ 4 by omega)
    by_cases hkn : k < 3
    . have hck := HC.out (i + k) (by omega)
      have hbk := HY.out (i + k)
      by_cases ha : limb bs (i + k) < 128
      . have HN := Lib.hid (one_cont (bs := bs) (i := i) hk1 (by rw [HLD.out]; exact hkn) (.inl ha))
        go_wp2
        go_ret2
        exact OnePost.none HN.out (Below.refl _ _)
      . by_cases hb : 192 ≤ limb bs (i + k)
        . have HN := Lib.hid (one_cont (bs := bs) (i := i) hk1 (by rw [HLD.out]; exact hkn) (.inr hb))
          have hd1 : decide (((limb bs (i + k) : Nat) : Int) < 128) = false := by rw [decide_eq_false_iff_not]; omega
          have hd2 : decide ((192 : Int) ≤ ((limb bs (i + k) : Nat) : Int)) = true := by rw [decide_eq_true_iff]; omega
          go_wp2
          go_ret2
          exact OnePost.none HN.out (Below.refl _ _)
        . have HS := Lib.hid (cont_step bs i hk1)
          have hd1 : decide (((limb bs (i + k) : Nat) : Int) < 128) = false := by rw [decide_eq_false_iff_not]; omega
          have hd2 : decide ((192 : Int) ≤ ((limb bs (i + k) : Nat) : Int)) = false := by rw [decide_eq_false_iff_not]; omega
          go_wp2
          go_round
          case rel => exact ⟨k + 1, by omega, by omega, by go_num, by rw [HS.out]; go_num, fun q h1 h2 => by
           by_cases e : q = k
           . subst e; omega
           . exact HA.out q h1 (by omega)⟩
          case measure => simp only [intOf]; omega
    . obtain rfl : k = 3 := by omega
      obtain ⟨o1, o2⟩ := one_end (bs := bs) (i := i) (by rw [HLD.out]; exact hs) (by rw [HLD.out]; omega) (by rw [HLD.out]; exact HA.out)
      rw [HLD.out] at o1 o2
      have O1 := Lib.hid o1
      have O2 := Lib.hid o2
      clear o1 o2
      go_wp2_with fail
      refine (rscalar_any _ _).mono ?_
      rintro e w' ⟨rfl, rfl⟩
      by_cases hsc : scN (cont bs i 3)
      . have hv : scB ((cont bs i 3 : Nat) : Int) = true := by rw [scB_nat]; exact decide_eq_true hsc
        rw [hv]
        have HV := Lib.hid hsc
        have hle : cont bs i 3 ≤ 1114111 := by unfold scN at hsc; omega
        clear hv hsc
        go_wp2_with fail
        refine (rbytes_any _ _ hle).mono ?_
        rintro e w1 ⟨rfl, rfl⟩
        rw [encN_len]
        by_cases hbl : blen (cont bs i 3) = 3
        . rw [hbl]
          have HO := Lib.hid (O1.out ⟨HV.out, hbl⟩)
          clear hbl
          go_wp2
          go_ret2
          exact OnePost.some (n := 3) HO.out (below1 _ _)
        . have HO := Lib.hid (O2.out fun h => hbl h.2)
          have hne : (((blen (cont bs i 3) : Nat) : Int) != 3) = true := by rw [bne_iff_ne]; omega
          clear hbl
          go_wp2
          go_ret2
          exact OnePost.none HO.out (below1 _ _)
      . have hv : scB ((cont bs i 3 : Nat) : Int) = false := by rw [scB_nat]; exact decide_eq_false hsc
        rw [hv]
        have HO := Lib.hid (O2.out fun h => hsc h.1)
        clear hv hsc
        go_wp2
        go_ret2
        exact OnePost.none HO.out (Below.refl _ _)
 . have HN := Lib.hid (one_short (bs := bs) (i := i) (by rw [HLD.out]; omega) hi)
   have hs1 : (bs.length : Int) < (i : Int) + 3 := by omega
   go_enter Tryz.func138, Tryz.ntmps138
   go_wp2
   go_ret2
   exact OnePost.none HN.out (Below.refl _ _)
set_option maxRecDepth 100000 in
set_option maxHeartbeats 2000000 in
theorem one_4 (b off cap i : Nat) (bs : List Nat) (w : World) (hi : i < bs.length) (hlen : bs.length ≤ 1000000000000000) (hby : By bs) (hc : ∀ j, j < bs.length → w.cell? ⟨b, off + j, none⟩ = some (.int .u8 ((limb bs j : Nat) : Int))) (h1 : 240 ≤ limb bs i) (h2 : limb bs i < 248) :
 Calls Tryz.prog 138 #[.slice (some ⟨b, off, none⟩) bs.length cap, .int .i64 (i : Int)] w (OnePost bs i w) := by
 have HY := Lib.hid hby; clear hby
 have HC := Lib.hid hc
 have hc0 := hc i hi
 clear hc
 have hb0 := HY.out i
 have he : lead (limb bs i) = 4 := by unfold lead; rw [if_neg (by omega), if_neg (by omega), if_neg (by omega), if_neg (by omega), if_pos h2]
 have hh : head0 (limb bs i) = limb bs i - 240 := by unfold head0; rw [if_neg (by omega), if_neg (by omega), if_neg (by omega)]
 have HLD := Lib.hid he
 have HHD := Lib.hid hh
 clear he hh
 by_cases hs : i + 4 ≤ bs.length
 . have hs1 : (i : Int) + 4 ≤ (bs.length : Int) := by omega
   go_enter Tryz.func138, Tryz.ntmps138
   go_wp2_with fail
   go_loop [6, 8] (fun c j => ∃ k : Nat, 1 ≤ k ∧ k ≤ 4 ∧ j = .int .i64 (k : Int) ∧ c = .int .i64 ((cont bs i k : Nat) : Int) ∧ ∀ q, 1 ≤ q → q < k → 128 ≤ limb bs (i + q) ∧ limb bs (i + q) < 192) (fun _ j => 4 - (intOf j).toNat)
   case atStart => exact ⟨1, by omega, by omega, rfl, by first | (rw [cont_one, HHD.out]; go_num) | rw [cont_one, HHD.out], fun q _ _ => by omega⟩
   case round =>
    obtain ⟨k, hk1, hk, rfl, rfl, hall⟩ := hrel
    have HA := Lib.hid hall; clear hall
    have hcl := cont_le HY.out i (show k ≤ 4 by omega)
    by_cases hkn : k < 4
    . have hck := HC.out (i + k) (by omega)
      have hbk := HY.out (i + k)
      by_cases ha : limb bs (i + k) < 128
      . have HN := Lib.hid (one_cont (bs := bs) (i := i) hk1 (by rw [HLD.out]; exact hkn) (.inl ha))
        go_wp2
        go_ret2
        exact OnePost.none HN.out (Below.refl _ _)
      . by_cases hb : 192 ≤ limb bs (i + k)
        . have HN := Lib.hid (one_cont (bs := bs) (i := i) hk1 (by rw [HLD.out]; exact hkn) (.inr hb))
          have hd1 : decide (((limb bs (i + k) : Nat) : Int) < 128) = false := by rw [decide_eq_false_iff_not]; omega
          have hd2 : decide ((192 : Int) ≤ ((limb bs (i + k) : Nat) : Int)) = true := by rw [decide_eq_true_iff]; omega
          go_wp2
          go_ret2
          exact OnePost.none HN.out (Below.refl _ _)
        . have HS := Lib.hid (cont_step bs i hk1)
          have hd1 : decide (((limb bs (i + k) : Nat) : Int) < 128) = false := by rw [decide_eq_false_iff_not]; omega
          have hd2 : decide ((192 : Int) ≤ ((limb bs (i + k) : Nat) : Int)) = false := by rw [decide_eq_false_iff_not]; omega
          go_wp2
          go_round
          case rel => exact ⟨k + 1, by omega, by omega, by go_num, by rw [HS.out]; go_num, fun q h1 h2 => by
           by_cases e : q = k
           . subst e; omega
           . exact HA.out q h1 (by omega)⟩
          case measure => simp only [intOf]; omega
    . obtain rfl : k = 4 := by omega
      obtain ⟨o1, o2⟩ := one_end (bs := bs) (i := i) (by rw [HLD.out]; exact hs) (by rw [HLD.out]; omega) (by rw [HLD.out]; exact HA.out)
      rw [HLD.out] at o1 o2
      have O1 := Lib.hid o1
      have O2 := Lib.hid o2
      clear o1 o2
      go_wp2_with fail
      refine (rscalar_any _ _).mono ?_
      rintro e w' ⟨rfl, rfl⟩
      by_cases hsc : scN (cont bs i 4)
      . have hv : scB ((cont bs i 4 : Nat) : Int) = true := by rw [scB_nat]; exact decide_eq_true hsc
        rw [hv]
        have HV := Lib.hid hsc
        have hle : cont bs i 4 ≤ 1114111 := by unfold scN at hsc; omega
        clear hv hsc
        go_wp2_with fail
        refine (rbytes_any _ _ hle).mono ?_
        rintro e w1 ⟨rfl, rfl⟩
        rw [encN_len]
        by_cases hbl : blen (cont bs i 4) = 4
        . rw [hbl]
          have HO := Lib.hid (O1.out ⟨HV.out, hbl⟩)
          clear hbl
          go_wp2
          go_ret2
          exact OnePost.some (n := 4) HO.out (below1 _ _)
        . have HO := Lib.hid (O2.out fun h => hbl h.2)
          have hne : (((blen (cont bs i 4) : Nat) : Int) != 4) = true := by rw [bne_iff_ne]; omega
          clear hbl
          go_wp2
          go_ret2
          exact OnePost.none HO.out (below1 _ _)
      . have hv : scB ((cont bs i 4 : Nat) : Int) = false := by rw [scB_nat]; exact decide_eq_false hsc
        rw [hv]
        have HO := Lib.hid (O2.out fun h => hsc h.1)
        clear hv hsc
        go_wp2
        go_ret2
        exact OnePost.none HO.out (Below.refl _ _)
 . have HN := Lib.hid (one_short (bs := bs) (i := i) (by rw [HLD.out]; omega) hi)
   have hs1 : (bs.length : Int) < (i : Int) + 4 := by omega
   go_enter Tryz.func138, Tryz.ntmps138
   go_wp2
   go_ret2
   exact OnePost.none HN.out (Below.refl _ _)
theorem one_any (b off cap i : Nat) (bs : List Nat) (w : World) (hi : i < bs.length) (hlen : bs.length ≤ 1000000000000000) (hby : By bs) (hc : ∀ j, j < bs.length → w.cell? ⟨b, off + j, none⟩ = some (.int .u8 ((limb bs j : Nat) : Int))) :
 Calls Tryz.prog 138 #[.slice (some ⟨b, off, none⟩) bs.length cap, .int .i64 (i : Int)] w (OnePost bs i w) := by
 by_cases a1 : limb bs i < 128
 . exact one_1 b off cap i bs w hi hlen hby hc a1
 by_cases a2 : limb bs i < 192
 . exact one_none1 b off cap i bs w hi hlen hby hc (by omega) a2
 by_cases a3 : limb bs i < 224
 . exact one_2 b off cap i bs w hi hlen hby hc (by omega) a3
 by_cases a4 : limb bs i < 240
 . exact one_3 b off cap i bs w hi hlen hby hc (by omega) a4
 by_cases a5 : limb bs i < 248
 . exact one_4 b off cap i bs w hi hlen hby hc (by omega) a5
 . exact one_none2 b off cap i bs w hi hlen hby hc (by omega)
end Go.Proofs.YtbfcbicbeagjkaaGreatDoor
namespace Go.Proofs.YtbfcbicbeagjkaaGreatDoor
open Go.RowKit
theorem limb_takeU (xs : List Nat) (n i : Nat) : limb (xs.take n) i = if i < n then limb xs i else 0 := by
 unfold limb
 simp only [List.getD_eq_getElem?_getD, List.getElem?_take]
 split <;> rfl
theorem limb_app (a b : List Nat) (i : Nat) : limb (a ++ b) i = if i < a.length then limb a i else limb b (i - a.length) := by
 unfold limb
 simp only [List.getD_eq_getElem?_getD, List.getElem?_append]
 split <;> rfl
theorem dc_shift (a b : List Nat) (j : Nat) : dc (a ++ b) (a.length + j) = dc b j := by
 have hq : ∀ t, limb (a ++ b) (a.length + j + t) = limb b (j + t) := fun t => by
  rw [limb_app, if_neg (by omega)]
  congr 1
  omega
 have hq0 := hq 0
 simp only [Nat.add_zero] at hq0
 unfold dc
 rw [hq0, hq 1, hq 2, hq 3]
 congr 1
 simp
 omega
theorem chars_shift (a b : List Nat) : ∀ (m j : Nat), b.length - j ≤ m → chars (a ++ b) (a.length + j) = ((chars b j).1, (chars b j).2.map (fun k => a.length + k)) := by
 intro m
 induction m with
 | zero =>
  intro j hj
  rw [chars_end (by simp; omega), chars_end (by omega)]
  rfl
 | succ m ih =>
  intro j hj
  by_cases hlt : j < b.length
  . have hd := dc_shift a b j
    cases hb : badB (dc b j)
    . have hz := dc_size b j
      rw [chars_step (by simp; omega) (by rw [hd]; exact hb), chars_step hlt hb, hd, Nat.add_assoc, ih _ (by omega)]
    . rw [chars_bad (by simp; omega) (by rw [hd]; exact hb), chars_bad hlt hb]
      rfl
  . rw [chars_end (by simp; omega), chars_end (by omega)]
    rfl
end Go.Proofs.YtbfcbicbeagjkaaGreatDoor
namespace Go.Proofs.YtbfcbicbeagjkaaGreatDoor
open Go.RowKit
def chA (bs : List Nat) : List Nat × Int := match chars bs 0 with
 | (cs, none) => (cs, -1)
 | (_, some k) => ([], (k : Int))
theorem chA_ok {bs cs : List Nat} (h : chars bs 0 = (cs, none)) : chA bs = (cs, -1) := by unfold chA; rw [h]
theorem chA_bad {bs : List Nat} {k : Nat} (h : (chars bs 0).2 = some k) : chA bs = ([], (k : Int)) := by
 unfold chA
 generalize chars bs 0 = p at *
 obtain ⟨a, b⟩ := p
 simp at h
 subst h
 rfl
def CharsPost (bs : List Nat) (w : World) (e : Ending) (w' : World) : Prop :=
 ∃ v, e = .returned (.tuple #[v, .int .i64 (chA bs).2]) ∧ Sl .i64 w' v (chA bs).1 ∧ Below w.heap.size w w'
theorem CharsPost.mk {bs : List Nat} {w w' : World} {v : Value} {cs : List Nat} {z : Int} (h : chA bs = (cs, z)) (hs : Sl .i64 w' v cs) (hb : Below w.heap.size w w') : CharsPost bs w (.returned (.tuple #[v, .int .i64 z])) w' := by
 refine ⟨v, by rw [h], by rw [h]; exact hs, hb⟩
set_option maxRecDepth 100000 in
set_option maxHeartbeats 1000000 in
theorem rchars_any (sv : Value) (bs : List Nat) (w : World) (hs : Sl .u8 w sv bs) (hby : By bs) (hl : bs.length ≤ 1000000000000) :
 Calls Tryz.prog 100 #[sv] w (CharsPost bs w) := by
 obtain ⟨i0, hi, hz0, hz1, hz2⟩ := info_parts infoInt
 have HS := Lib.hid hs
 obtain ⟨hm, ao, cap, rfl, hcap, h⟩ := hs
 unfold maxLen at hm
 have HY := Lib.hid hby; clear hby
 have HC : Hid (∀ j, j < bs.length → ∃ b off, ao = some ⟨b, off, none⟩ ∧ b < w.heap.size ∧ ∀ j, j < bs.length → w.cell? ⟨b, off + j, none⟩ = some (.int .u8 ((limb bs j : Nat) : Int))) := Lib.hid fun j hj => by
  rcases h with ⟨h, _⟩ | ⟨b, off, h1, h2, h3⟩
  . rw [h] at hj; simp at hj
  . exact ⟨b, off, h1, h2, h3⟩
 clear h
 go_enter Tryz.func100, Tryz.ntmps100
 go_wp2_with fail
 go_loopw [4, 5] (fun v i wr => ∃ cs k, i = .int .i64 (k : Nat) ∧ Chr bs cs k ∧ wr.ownsRow w.heap.size 3 1 v cs.length (cs.map fun (x : Nat) => Value.int .i64 (x : Int)) ∧ Below w.heap.size w wr) (fun _ i _ => bs.length - (intOf i).toNat)
 case atStart => exact ⟨[], 0, rfl, Chr.start bs, World.ownsRow_nil _ _ _ _, Below.refl _ _⟩
 case round =>
  obtain ⟨cs, k, rfl, hchr, hown, hbel⟩ := hrel
  have hk := hchr.le
  have hlen := hchr.len
  by_cases hkn : k < bs.length
  . obtain ⟨b, off, hao, hb, hc⟩ := HC.out k hkn
    subst hao
    have HCW : Hid (∀ j, j < bs.length → wr.cell? ⟨b, off + j, none⟩ = some (.int .u8 ((limb bs j : Nat) : Int))) := Lib.hid fun j hj => by
     rw [hbel.cell (p := ⟨b, off + j, none⟩) hb]; exact hc j hj
    clear hc
    have HCH := Lib.hid hchr; clear hchr
    have hz := dc_size bs k
    have hch := dc_char bs k
    have hin := dc_in hkn
    go_wp2_with fail
    refine (one_any b off cap k bs wr hkn (by omega) HY.out HCW.out).mono ?_
    rintro e w1 ⟨rfl, hb1⟩
    have hbw : Below w.heap.size w w1 := hbel.trans (hb1.mono hbel.size)
    have HOW := Lib.hid (owns_below hown hb1)
    cases hbad : badB (dc bs k)
    . have HB := Lib.hid hbad
      rw [oneA_ok hbad]
      clear hbad hb1 hown
      have hn0 : ((((dc bs k).2 : Nat) : Int) == 0) = false := by rw [beq_eq_false_iff_ne]; omega
      have hl2 : cs.length < 1000000000001 := by omega
      have HI := Lib.hid (HCH.out.step hkn HB.out)
      have hsz := hbw.size
      go_wp2_with (at_builtin; go_loud (refine wpList_append_own _ rfl _ _ 28 rfl w.heap.size 3 i0 (.int .i64 0) 1 8 Tryz.underlying28 hi hz0 hz1 hz2 rfl (by decide) _ cs.length (cs.map fun (x : Nat) => Value.int .i64 (x : Int)) rfl (HOW.out.alloc _) ⟨w1.heap.size, 0, none⟩ 1 1 [.int .i64 ((dc bs k).1 : Nat)] rfl (by simp) (cell_one_new _ _ _) (by intro u hu; rw [List.mem_singleton] at hu; subst hu; rfl) (by unfold maxLen; omega) (by omega) (by simp; omega) ?_); intro v' w2 hown1 hgrow hnil; clear hnil)
      go_roundw
      case rel =>
       have e1 : (List.map (fun (x : Nat) => Value.int .i64 (x : Int)) cs ++ [.int .i64 ((dc bs k).1 : Nat)]) = (cs ++ [(dc bs k).1]).map fun (x : Nat) => Value.int .i64 (x : Int) := by simp
       have e2 : cs.length + 1 = (cs ++ [(dc bs k).1]).length := by simp
       rw [e1, e2] at hown1
       have hlo := HOW.out.lt
       have hgrow' : World.grownBy _ w2 (Value.ownBlock _) := hgrow
       exact ⟨cs ++ [(dc bs k).1], k + (dc bs k).2, by go_num, HI.out, hown1, (hbw.alloc hbw.size _).grown hgrow' (by simp; omega) (fun k hk => by have := (hlo k hk).1; omega)⟩
      case measure => simp only [intOf]; omega
    . have HB := Lib.hid hbad
      rw [oneA_bad hbad]
      clear hbad hb1 hown
      go_wp2
      go_ret2
      exact CharsPost.mk (chA_bad (HCH.out.bad hkn HB.out)) (Sl.nil' _ _) hbw
  . obtain hkl : bs.length ≤ k := by omega
    have HD := Lib.hid (hchr.done hkl); clear hchr
    have hsl := owns_sl hown
    clear hown
    go_wp2
    go_ret2
    exact CharsPost.mk (chA_ok HD.out) hsl hbel
end Go.Proofs.YtbfcbicbeagjkaaGreatDoor
