/- The law PrintJoins, at any world. -/
import Derived.Test.YtpahfhjgcflifaaDoorPrTxt
namespace Go.Proofs.YtpahfhjgcflifaaDoor
open Go.RowKit

theorem okD_monoP : ∀ (f g : Nat) (d : Dm), f ≤ g → okD f d = true → okD g d = true := by
  intro f
  induction f with
  | zero => intro g d _ h; rw [okD_zero] at h; cases h
  | succ f ih =>
    intro g d hg h
    obtain ⟨g', rfl⟩ : ∃ g', g = g' + 1 := ⟨g - 1, by omega⟩
    obtain ⟨k, t, n, r, l, a⟩ := d
    by_cases hk : k = 1 ∨ k = 2 ∨ k = 3
    · rw [okD_node hk] at h ⊢
      simp only [Bool.and_eq_true, List.all_eq_true] at h ⊢
      exact ⟨h.1, fun d hd => ih g' d (by omega) (h.2 d hd)⟩
    · by_cases h7 : k = 7
      · subst h7
        rw [okD_int] at h ⊢
        exact h
      · rw [okD_leaf hk h7] at h ⊢
        exact h
/-- What stands in a list that may be, and the vector of the same, may be. -/
theorem in_snd {l : List Dm} (h : sndD (.mk 1 [] false [] l 0) = true) : sndD (.mk 3 [] false [] l 0) = true ∧ ∀ (i : Nat) (hi : i < l.length), okD 64 (l[i]'hi) = true ∧ (l[i]'hi).sz ≤ 8192 ∧ sndD (l[i]'hi) = true := by
  unfold sndD at h
  rw [Bool.and_eq_true, decide_eq_true_iff] at h
  obtain ⟨h1, h2⟩ := h
  rw [okD_node (.inl rfl)] at h1
  simp only [Bool.and_eq_true, List.all_eq_true] at h1
  have h4 : (Dm.mk 3 [] false [] l 0).sz = (Dm.mk 1 [] false [] l 0).sz := by rw [sz_sumA, sz_sumA]
  refine ⟨?_, fun i hi => ?_⟩
  · have h3 : okD 64 (.mk 3 [] false [] l 0) = true := by
      rw [okD_node (.inr (.inr rfl))]
      simp only [Bool.and_eq_true, List.all_eq_true]
      exact ⟨⟨h1.1.1, by unfold endA; rw [if_neg (by omega)]⟩, h1.2⟩
    unfold sndD
    rw [h3, h4, decide_eq_true h2]
    rfl
  · have a1 := okD_monoP 63 64 _ (by omega) (h1.2 _ (List.getElem_mem hi))
    have a2 : (l[i]'hi).sz ≤ 8192 := by
      have := Dm.sz_mem (d := .mk 1 [] false [] l 0) (x := l[i]'hi) (List.getElem_mem hi)
      omega
    refine ⟨a1, a2, ?_⟩
    unfold sndD
    rw [a1, decide_eq_true a2]
    rfl
theorem tb_list (l : List Dm) : (Dm.mk 1 [] false [] l 0).tb = 40 :: (preT false l.length (l.map (Dm.tg leafB)) l.length ++ [41]) := by
  unfold Dm.tb
  rw [tg_node (.inl rfl)]
  unfold lisT
  rw [List.length_map]
  rfl
theorem tb_vec (l : List Dm) : (Dm.mk 3 [] false [] l 0).tb = 35 :: 40 :: (preT false l.length (l.map (Dm.tg leafB)) l.length ++ [41]) := by
  unfold Dm.tb
  rw [tg_node (.inr (.inr rfl))]
  unfold lisT
  rw [List.length_map]
  rfl
theorem quo_plain {a b : Nat} (ha : 97 ≤ a ∧ a ≤ 122) (hb : 48 ≤ b ∧ b ≤ 57) : quoT [a, 32, b] = [34, a, 32, b, 34] := by
  unfold quoT
  simp only [List.flatMap_cons, List.flatMap_nil]
  rw [esc_plain (by omega) (by omega) (by omega) (by omega) (by omega) (by omega) (by omega), esc_plain (c := 32) (by omega) (by omega) (by omega) (by omega) (by omega) (by omega) (by omega), esc_plain (c := b) (by omega) (by omega) (by omega) (by omega) (by omega) (by omega) (by omega)]
  rfl
set_option maxRecDepth 100000 in
set_option maxHeartbeats 8000000 in
theorem pjoins_any (v : Value) (l : List Dm) (us : List Value) (x : Int) (w : World) (hrow : RowV w v l.length 6 us) (hin : ∀ (i : Nat) (h : i < l.length), Lay w (l[i]'h) ((us.drop (i * 6)).take 6)) (hl : l.length ≤ 1048576) (hsm : ∀ (i : Nat) (h : i < l.length), Sm 1048576 (l[i]'h)) (ht : PrT w) (hx0 : 0 ≤ x) (hx1 : x ≤ 255) :
    Calls Tryd.prog 7 #[v, .int .u8 x] w (TrueP w) := by
  have HRW := Lib.hid hrow
  obtain ⟨_, _, ao, cv0, rfl, _⟩ := hrow
  have HIN := Lib.hid hin
  have HT := Lib.hid ht
  have HLA : Hid (Lay w (.mk 1 [] false [] l 0) [.int .i64 1, .string ⟨#[]⟩, .bool false, .slice none 0 0, .slice ao l.length cv0, .int .i64 0]) := Lib.hid (Lay.mk By.nil (by simp) (fun i => by simp [limb]) (Sl.nil' _ _) HRW.out hin)
  have HLV : Hid (Lay w (.mk 3 [] false [] l 0) [.int .i64 3, .string ⟨#[]⟩, .bool false, .slice none 0 0, .slice ao l.length cv0, .int .i64 0]) := Lib.hid (Lay.mk By.nil (by simp) (fun i => by simp [limb]) (Sl.nil' _ _) HRW.out hin)
  have HSA : Hid (Sm 1048576 (.mk 1 [] false [] l 0)) := Lib.hid (.mk (by simp) (by simp) hl hsm)
  have HSV : Hid (Sm 1048576 (.mk 3 [] false [] l 0)) := Lib.hid (.mk (by simp) (by simp) hl hsm)
  have HSM := Lib.hid hsm
  have HLL : Hid (l.length ≤ 9223372036854775807) := Lib.hid (by omega)
  have HBB := Lib.hid (below1 w (.cells #[.int .i64 1, .string ⟨#[]⟩, .bool false, .slice none 0 0, .slice ao l.length cv0, .int .i64 0] 33))
  have HBX := Lib.hid (box1 w #[.int .i64 1, .string ⟨#[]⟩, .bool false, .slice none 0 0, .slice ao l.length cv0, .int .i64 0] 33)
  have HRB : Hid (∀ W, Below (w.heap.size + 1) (w.alloc (.cells #[.int .i64 1, .string ⟨#[]⟩, .bool false, .slice none 0 0, .slice ao l.length cv0, .int .i64 0] 33)) W → W.heap[w.heap.size]? = some (.cells #[.int .i64 1, .string ⟨#[]⟩, .bool false, .slice none 0 0, .slice ao l.length cv0, .int .i64 0] 33 (0, 0)) ∧ Below w.heap.size w W) := Lib.hid fun W h => ⟨(h.block w.heap.size (by omega)).trans HBX.out, HBB.out.trans (h.mono (by omega))⟩
  have hz0 : w.heap.size + 1 = (w.alloc (.cells #[.int .i64 1, .string ⟨#[]⟩, .bool false, .slice none 0 0, .slice ao l.length cv0, .int .i64 0] 33)).heap.size := by simp
  have HZ0 := Lib.hid hz0
  clear hin hl hsm ht hz0
  go_enter Tryd.func7, Tryd.ntmps7
  go_wp2_with fail
  refine (panswers_any _ (HT.out.below HBB.out)).mono ?_
  rintro e w1 ⟨rfl, hb⟩
  rw [← HZ0.out] at hb
  have HC := Lib.hid hb
  have HZ1 : Hid (w.heap.size + 1 ≤ w1.heap.size) := Lib.hid (by have := hb.size; rw [← HZ0.out] at this; exact this)
  clear hb
  obtain ⟨a0, a1, a2, a3, a4, a5⟩ := row6 (HRB.out _ HC.out).1
  go_wp2_with fail
  clear a0 a1 a2 a3 a4 a5
  refine (light5_dm 100 (.mk 1 [] false [] l 0) [.int .i64 1, .string ⟨#[]⟩, .bool false, .slice none 0 0, .slice ao l.length cv0, .int .i64 0] _ 1 (by omega) (by omega) (HLA.out.keep (HRB.out _ HC.out).2)).mono ?_
  rintro e w2 ⟨rfl, hb⟩
  have HC2 := Lib.hid (HC.out.trans (hb.mono HZ1.out))
  have HZ2 : Hid (w.heap.size + 1 ≤ w2.heap.size) := Lib.hid (Nat.le_trans HZ1.out hb.size)
  clear hb
  cases hq1 : lightA 100 (.mk 1 [] false [] l 0)
  case false =>
    go_wp2_with fail
    refine (panswers_any w2 (HT.out.below (HRB.out _ HC2.out).2)).mono ?_
    rintro e w3 ⟨rfl, hb⟩
    have H2 := Lib.hid (HC2.out.trans (hb.mono HZ2.out))
    clear hb
    go_wp2_with fail
    go_ret
    exact ⟨rfl, (HRB.out _ H2.out).2⟩
  clear hq1
  obtain ⟨a0, a1, a2, a3, a4, a5⟩ := row6 (HRB.out _ HC2.out).1
  go_wp2_with fail
  clear a0 a1 a2 a3 a4 a5
  refine (rdsound_any (.mk 1 [] false [] l 0) [.int .i64 1, .string ⟨#[]⟩, .bool false, .slice none 0 0, .slice ao l.length cv0, .int .i64 0] _ (HLA.out.keep (HRB.out _ HC2.out).2) (HSA.out.mono (by omega))).mono ?_
  rintro e w3 ⟨rfl, hb⟩
  have HC3 := Lib.hid (HC2.out.trans (hb.mono HZ2.out))
  have HZ3 : Hid (w.heap.size + 1 ≤ w3.heap.size) := Lib.hid (Nat.le_trans HZ2.out hb.size)
  clear hb
  cases hq : sndD (.mk 1 [] false [] l 0)
  case false =>
    go_wp2_with fail
    refine (panswers_any w3 (HT.out.below (HRB.out _ HC3.out).2)).mono ?_
    rintro e w4 ⟨rfl, hb⟩
    have H2 := Lib.hid (HC3.out.trans (hb.mono HZ3.out))
    clear hb
    go_wp2_with fail
    go_ret
    exact ⟨rfl, (HRB.out _ H2.out).2⟩
  have HQ := Lib.hid hq
  have HQI := Lib.hid (in_snd hq)
  clear hq
  obtain ⟨a0, a1, a2, a3, a4, a5⟩ := row6 (HRB.out _ HC3.out).1
  go_wp2_with fail
  clear a0 a1 a2 a3 a4 a5
  refine (own5_dm 1048576 (by omega) _ (.mk 1 [] false [] l 0) (Nat.le_refl _) HSA.out [.int .i64 1, .string ⟨#[]⟩, .bool false, .slice none 0 0, .slice ao l.length cv0, .int .i64 0] _ (HLA.out.keep (HRB.out _ HC3.out).2)).mono ?_
  rintro e w4 ⟨us4, rfl, hl4, hb⟩
  have HC4 := Lib.hid (HC3.out.trans (hb.mono HZ3.out))
  have HZ4 : Hid (w.heap.size + 1 ≤ w4.heap.size) := Lib.hid (Nat.le_trans HZ3.out hb.size)
  clear hb
  obtain ⟨k3, t3, n3, p3, q3, r3, p4, q4, r4, a3, rfl⟩ := hl4.lay.slots
  have HL4 := Lib.hid hl4.lay
  clear hl4
  go_wp2_with fail
  refine (print_any (.mk 1 [] false [] l 0) [.int .i64 k3, .string t3, .bool n3, .slice p3 q3 r3, .slice p4 q4 r4, .int .i64 a3] w4 HL4.out (HSA.out.mono (by omega)) (HT.out.below (HRB.out _ HC4.out).2)).mono ?_
  rintro e w5 ⟨⟨_, rfl⟩ | ⟨h, _⟩, hb⟩
  case inr => rw [HQ.out] at h; cases h
  have HC5 := Lib.hid (HC4.out.trans (hb.mono HZ4.out))
  have HZ5 : Hid (w.heap.size + 1 ≤ w5.heap.size) := Lib.hid (Nat.le_trans HZ4.out hb.size)
  clear hb HL4
  obtain ⟨S, hS⟩ : ∃ S, S = mkB (Dm.mk 1 [] false [] l 0).tb := ⟨_, rfl⟩
  rw [← hS]
  have HS := Lib.hid hS
  clear hS
  go_wp2_with fail
  refine (own5_dm 1048576 (by omega) _ (.mk 3 [] false [] l 0) (Nat.le_refl _) HSV.out [.int .i64 3, .string ⟨#[]⟩, .bool false, .slice none 0 0, .slice ao l.length cv0, .int .i64 0] _ (HLV.out.keep (HRB.out _ HC5.out).2)).mono ?_
  rintro e w6 ⟨us6, rfl, hl6, hb⟩
  have HC6 := Lib.hid (HC5.out.trans (hb.mono HZ5.out))
  have HZ6 : Hid (w.heap.size + 1 ≤ w6.heap.size) := Lib.hid (Nat.le_trans HZ5.out hb.size)
  clear hb
  obtain ⟨k5, t5, n5, p5, q5, r5, p6, q6, r6, a5, rfl⟩ := hl6.lay.slots
  have HL6 := Lib.hid hl6.lay
  clear hl6
  go_wp2_with fail
  refine (print_any (.mk 3 [] false [] l 0) [.int .i64 k5, .string t5, .bool n5, .slice p5 q5 r5, .slice p6 q6 r6, .int .i64 a5] w6 HL6.out (HSV.out.mono (by omega)) (HT.out.below (HRB.out _ HC6.out).2)).mono ?_
  rintro e w7 ⟨⟨_, rfl⟩ | ⟨h, _⟩, hb⟩
  case inr => rw [HQI.out.1] at h; cases h
  have HC7 := Lib.hid (HC6.out.trans (hb.mono HZ6.out))
  have HZ7 : Hid (w.heap.size + 1 ≤ w7.heap.size) := Lib.hid (Nat.le_trans HZ6.out hb.size)
  clear hb HL6
  obtain ⟨V, hV⟩ : ∃ V, V = mkB (Dm.mk 3 [] false [] l 0).tb := ⟨_, rfl⟩
  rw [← hV]
  have HV := Lib.hid hV
  clear hV
  have HLN : Hid (∀ (j : Nat) (hj : j < l.length), ((l[j]'hj).tb).length + 10 ≤ (l[j]'hj).sz * 6000000) := Lib.hid fun j hj => tb_len (N := 1048576) (by omega) _ _ (Nat.le_refl _) 64 (HQI.out.2 j hj).1 (HSM.out j hj)
  have HPL := Lib.hid (fun i (hi : i ≤ l.length) => preT_len (dot := false) (n := l.length) (g := leafB) (l := l) HLN.out i hi)
  have HSZ : Hid (szs l l.length ≤ 8192) := Lib.hid (by
    have h := HQ.out
    unfold sndD at h
    rw [Bool.and_eq_true, decide_eq_true_iff] at h
    have e := @sz_node 1 [] false [] l 0
    omega)
  have HTL := Lib.hid (tb_list l)
  have HTV := Lib.hid (tb_vec l)
  generalize hX : l.map (Dm.tg leafB) = X at *
  have HX : Hid (∀ (i : Nat) (h : i < l.length), X.getD i [] = (l[i]'h).tb) := Lib.hid fun i h => by rw [← hX]; exact getD_map h
  clear hX
  have hmx := HLL.out
  go_wp2_with fail
  go_loopw [10, 11] (fun s i wr => ∃ q : Nat, q ≤ l.length ∧ i = .int .i64 (q : Nat) ∧ s = .string (mkB (40 :: preT false l.length X q)) ∧ Below (w.heap.size + 1) w7 wr) (fun _ i _ => l.length - (intOf i).toNat)
  case atStart => exact ⟨0, Nat.zero_le _, rfl, rfl, Below.refl _ _⟩
  case round =>
    obtain ⟨q, hq, rfl, hv, hbel⟩ := hrel
    obtain ⟨O, hO⟩ : ∃ O, O = mkB (40 :: preT false l.length X q) := ⟨_, rfl⟩
    have hz : O.size ≤ 60000000000 := by
      have h1 := HPL.out q hq
      have h3 := szs_le (l := l) hq
      have h4 := HSZ.out
      rw [hO, mkB_size]
      simp only [List.length_cons]
      omega
    rw [← hO] at hv
    subst hv
    have HO := Lib.hid hO
    have HCR := Lib.hid (HC7.out.trans hbel)
    have HZR : Hid (w.heap.size + 1 ≤ wr.heap.size) := Lib.hid (Nat.le_trans HZ7.out hbel.size)
    have HBR := Lib.hid hbel
    clear hO hbel
    by_cases hqn : q < l.length
    · have hii : ((q : Nat) : Int) < ((l.length : Nat) : Int) := by omega
      obtain ⟨b, off, cap, v0, v1, v2, v3, v4, v5, hav, _, _, hly, p0, p1, p2, p3, p4, p5⟩ := row_datum (HRW.out.below (HRB.out _ HCR.out).2) (fun j h => (HIN.out j h).keep (HRB.out _ HCR.out).2) hqn
      simp only [Value.slice.injEq, true_and] at hav
      obtain ⟨rfl, rfl⟩ := hav
      have HY := Lib.hid hly
      clear hly
      go_wp2_with fail
      clear p0 p1 p2 p3 p4 p5
      refine (own5_dm 1048576 (by omega) _ (l[q]'hqn) (Nat.le_refl _) (HSM.out q hqn) [v0, v1, v2, v3, v4, v5] _ HY.out).mono ?_
      rintro e w8 ⟨us8, rfl, hl8, hb⟩
      have HC8 := Lib.hid (HBR.out.trans (hb.mono HZR.out))
      have HZ8 : Hid (w.heap.size + 1 ≤ w8.heap.size) := Lib.hid (Nat.le_trans HZR.out hb.size)
      clear hb
      obtain ⟨k7, t7, n7, p7, q7, r7, p8, q8, r8, a7, rfl⟩ := hl8.lay.slots
      have HL8 := Lib.hid hl8.lay
      clear hl8
      go_wp2_with fail
      refine (print_any (l[q]'hqn) [.int .i64 k7, .string t7, .bool n7, .slice p7 q7 r7, .slice p8 q8 r8, .int .i64 a7] w8 HL8.out ((HSM.out q hqn).mono (by omega)) (HT.out.below (HRB.out _ (HC7.out.trans HC8.out)).2)).mono ?_
      rintro e w9 ⟨⟨_, rfl⟩ | ⟨h, _⟩, hb⟩
      case inr => rw [(HQI.out.2 q hqn).2.2] at h; cases h
      have HC9 := Lib.hid (HC8.out.trans (hb.mono HZ8.out))
      clear hb HL8
      obtain ⟨U, hU⟩ : ∃ U, U = mkB (l[q]'hqn).tb := ⟨_, rfl⟩
      rw [← hU]
      have hzU : U.size ≤ 60000000000 := by
        have h1 := HLN.out q hqn
        have h3 := (HQI.out.2 q hqn).2.1
        rw [hU, mkB_size]
        omega
      have HU := Lib.hid hU
      clear hU
      have HPS := Lib.hid (preT_succ false l.length X q)
      have g1 : ¬ 9223372036854775807 < O.size + 1 := by omega
      have g2 : ¬ 9223372036854775807 < O.size + 1 + U.size := by omega
      have g3 : ¬ 9223372036854775807 < O.size + U.size := by omega
      by_cases hq0 : 0 < q
      · have hqi : (0 : Int) < ((q : Nat) : Int) := by omega
        have HSP : Hid (sepT false l.length q = [32]) := Lib.hid (by unfold sepT; rw [if_pos hq0, if_neg (by rintro ⟨h, _⟩; cases h)]; rfl)
        have HST : Hid (O ++ ByteArray.mk #[32] ++ U = mkB (40 :: preT false l.length X (q + 1))) := Lib.hid (by
          rw [HPS.out, HSP.out, HX.out q hqn, HO.out, HU.out]
          unfold mkB
          apply ByteArray.ext
          simp)
        clear hq0
        go_wp2_with fail
        go_roundw
        case measure => simp only [intOf]; omega
        case rel => exact ⟨q + 1, by omega, by go_num, by rw [← HST.out], HC9.out⟩
      · have hqi : ¬ (0 : Int) < ((q : Nat) : Int) := by omega
        have HSP : Hid (sepT false l.length q = []) := Lib.hid (by unfold sepT; rw [if_neg hq0, if_neg (by rintro ⟨h, _⟩; cases h)]; rfl)
        have HST : Hid (O ++ U = mkB (40 :: preT false l.length X (q + 1))) := Lib.hid (by
          rw [HPS.out, HSP.out, HX.out q hqn, HO.out, HU.out]
          unfold mkB
          apply ByteArray.ext
          simp)
        clear hq0
        go_wp2_with fail
        go_roundw
        case measure => simp only [intOf]; omega
        case rel => exact ⟨q + 1, by omega, by go_num, by rw [← HST.out], HC9.out⟩
    · obtain rfl : q = l.length := by omega
      have HSE : Hid (S = O ++ ByteArray.mk #[41]) := Lib.hid (by
        rw [HS.out, HTL.out, HO.out]
        unfold mkB
        apply ByteArray.ext
        simp)
      have HVE : Hid (V = ByteArray.mk #[35] ++ O ++ ByteArray.mk #[41]) := Lib.hid (by
        rw [HV.out, HTV.out, HO.out]
        unfold mkB
        apply ByteArray.ext
        simp)
      obtain ⟨A, hA⟩ : ∃ A : Nat, (A : Int) = 97 + x % 26 := ⟨(97 + x % 26).toNat, by omega⟩
      obtain ⟨B, hB⟩ : ∃ B : Nat, (B : Int) = 48 + x % 10 := ⟨(48 + x % 10).toNat, by omega⟩
      have hA2 : 97 ≤ A ∧ A ≤ 122 := by omega
      have hB2 : 48 ≤ B ∧ B ≤ 57 := by omega
      have HA2 := Lib.hid hA2
      have HB2 := Lib.hid hB2
      have HA := Lib.hid hA
      have HB := Lib.hid hB
      clear hA hB hA2 hB2
      have hse := HSE.out
      have hve := HVE.out
      subst hse hve
      clear HSE HVE
      go_wp2_with fail
      rw [← HA.out, ← HB.out]
      have hbx := heap_alloc_new wr (.cells #[.int .u8 ((A : Nat) : Int), .int .u8 32, .int .u8 ((B : Nat) : Int)] 5)
      have hsl : Sl .u8 (wr.alloc (.cells #[.int .u8 ((A : Nat) : Int), .int .u8 32, .int .u8 ((B : Nat) : Int)] 5)) (.slice (some ⟨wr.heap.size, 0, none⟩) 3 3) [A, 32, B] :=
        ⟨by unfold maxLen; simp, some ⟨wr.heap.size, 0, none⟩, 3, rfl, by simp, .inr ⟨wr.heap.size, 0, rfl, by simp, fun j hj => by
          match j, hj with
          | 0, _ => exact cell_heap hbx 0
          | 1, _ => exact cell_heap hbx 1
          | 2, _ => exact cell_heap hbx 2⟩⟩
      rw [conv_sl Tryd.underlying22 Tryd.underlying5 Tryd.underlying9 hsl]
      simp only [Result.andThen]
      rw [Oper.upon_value]
      obtain ⟨P, hP⟩ : ∃ P, P = strOf [A, 32, B] := ⟨_, rfl⟩
      rw [← hP]
      have HP : Hid (P = mkB [A, 32, B]) := Lib.hid hP
      have HBA := Lib.hid (HCR.out.trans ((below1 wr (.cells #[.int .u8 ((A : Nat) : Int), .int .u8 32, .int .u8 ((B : Nat) : Int)] 5)).mono HZR.out))
      have HBL : Hid (wr.heap.size ≤ (wr.alloc (.cells #[.int .u8 ((A : Nat) : Int), .int .u8 32, .int .u8 ((B : Nat) : Int)] 5)).heap.size) := Lib.hid (by simp)
      have HPB : Hid (byt P = [A, 32, B]) := Lib.hid (by
        rw [HP.out]
        exact byt_mk (By.consN' (by have := HA2.out; omega) (By.consN' (by omega) (By.consN' (by have := HB2.out; omega) By.nil))))
      have HPZ : Hid (P.size = 3) := Lib.hid (by rw [HP.out, mkB_size]; rfl)
      have HPE : Hid (mkB (quoT (byt P)) = ByteArray.mk #[34] ++ P ++ ByteArray.mk #[34]) := Lib.hid (by
        rw [HPB.out, quo_plain HA2.out HB2.out, HP.out]
        unfold mkB
        apply ByteArray.ext
        simp)
      clear hP hsl hbx
      have g1 : ¬ 9223372036854775807 < O.size + 1 := by omega
      have g2 : ¬ 9223372036854775807 < 1 + O.size := by omega
      have g3 : ¬ 9223372036854775807 < 1 + O.size + 1 := by omega
      have g4 : ¬ 9223372036854775807 < 1 + P.size := by have := HPZ.out; omega
      have g5 : ¬ 9223372036854775807 < 1 + P.size + 1 := by have := HPZ.out; omega
      go_wp2_with fail
      refine (pQuoted_any P _ (by have := HPZ.out; omega) (HT.out.below (HRB.out _ HBA.out).2)).mono ?_
      rw [HPE.out]
      rintro e w10 ⟨rfl, hb⟩
      have H10 := Lib.hid (HBA.out.trans (hb.mono (Nat.le_trans HZR.out HBL.out)))
      clear hb
      go_wp2_with fail
      go_ret
      exact ⟨rfl, (HRB.out _ H10.out).2⟩
end Go.Proofs.YtpahfhjgcflifaaDoor
