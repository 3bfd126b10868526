/- x -/
import Derived.Test.YtbfcbicbeagjkaaGreatDoorSxReg
import Derived.Test.YtbfcbicbeagjkaaGreatDoorSxAlk
import Derived.Test.YtbfcbicbeagjkaaGreatDoorSxRef
import Derived.Test.YtbfcbicbeagjkaaGreatDoorWpAssoc
import Derived.Test.YtbfcbicbeagjkaaGreatDoorSxOf
namespace Go.Proofs.YtbfcbicbeagjkaaGreatDoor
open Go.RowKit
theorem sam_opn {D : Sx} (h : sndX D = true) : samX (opnR D) D = true := by
 unfold opnR samX
 rw [if_pos h, opn_snd h, h, Bool.true_and, Bool.true_and]
 exact mean_of (opn_snd h) (opn_flt (sndX_parts h).2).2
theorem sam_flt {D : Sx} (h : sndX D = true) : samX D (fltR D) = true := by
 unfold fltR samX
 rw [if_pos h, flt_snd h, h, Bool.true_and, Bool.true_and]
 exact mean_of h (flt_idem 64 D (sndX_parts h).1 (sndX_parts h).2).2.symm
theorem mrk_yes {z : Int} (h0 : 0 ≤ z) (h1 : z ≤ 255) : mrkA (z + 1) = ([z + 1], [0]) := by
 unfold mrkA
 rw [if_pos]
 unfold markB
 simp
 omega
theorem sam_mark {D : Sx} {z : Int} (h0 : 0 ≤ z) (h1 : z ≤ 255) (h : sndX D = true) (he : pshE (mrkA (z + 1)).1 (mrkA (z + 1)).2 D = 0) : samX (pshR (mrkA (z + 1)).1 (mrkA (z + 1)).2 D) D = !symS 100 D := by
 rw [pshR_ok he]
 rw [mrk_yes h0 h1] at he ⊢
 have p := psh_snd he
 unfold samX
 rw [p.2.2.2, h, Bool.true_and, Bool.true_and]
 exact mark_push (by omega) h p.2.1 p.2.2.1
theorem ne_int' {z k : Int} (h : ¬ z = k) : (z != k) = true ∧ (z == k) = false := by
 constructor
 . rw [bne_iff_ne]; exact h
 . rw [beq_eq_false_iff_ne]; exact h
set_option maxRecDepth 100000 in
set_option maxHeartbeats 16000000 in
theorem stxsame_any (D E : Sx) (us vs : List Value) (z : Int) (w : World) (hd : SLay w D us) (he : SLay w E vs) (hsm : SmS 1100000 D) (hsm2 : SmS 1100000 E) (ht : Tabs w) (hz0 : 0 ≤ z) (hz1 : z ≤ 255) :
 Calls Tryz.prog 5 #[.agg us.toArray, .agg vs.toArray, .int .u8 z] w fun e w' => e = .returned (.bool true) ∧ Below w.heap.size w w' := by
 have HD := Lib.hid hd
 have HE := Lib.hid he
 have HSM := Lib.hid (And.intro hsm hsm2)
 have HT := Lib.hid ht
 have HZ := Lib.hid (And.intro hz0 hz1)
 obtain ⟨kx, tx, nx, xo, xn, xc, yo, yn, yc, ax, po, pn, pc, qo, qn, qc, rfl⟩ := sx_shapes hd
 obtain ⟨b_kx, b_tx, b_nx, b_xo, b_xn, b_xc, b_yo, b_yn, b_yc, b_ax, b_po, b_pn, b_pc, b_qo, b_qn, b_qc, rfl⟩ := sx_shapes he
 clear hd he hsm hsm2 ht
 have hb := below2 w (.cells #[.int .i64 kx, .string tx, .bool nx, .slice xo xn xc, .slice yo yn yc, .int .i64 ax, .slice po pn pc, .slice qo qn qc] 35) (.cells #[.int .i64 b_kx, .string b_tx, .bool b_nx, .slice b_xo b_xn b_xc, .slice b_yo b_yn b_yc, .int .i64 b_ax, .slice b_po b_pn b_pc, .slice b_qo b_qn b_qc] 35)
 have hn := @newsd2 w (.cells #[.int .i64 kx, .string tx, .bool nx, .slice xo xn xc, .slice yo yn yc, .int .i64 ax, .slice po pn pc, .slice qo qn qc] 35) (.cells #[.int .i64 b_kx, .string b_tx, .bool b_nx, .slice b_xo b_xn b_xc, .slice b_yo b_yn b_yc, .int .i64 b_ax, .slice b_po b_pn b_pc, .slice b_qo b_qn b_qc] 35)
 show Calls Tryz.prog 5 #[.agg #[.int .i64 kx, .string tx, .bool nx, .slice xo xn xc, .slice yo yn yc, .int .i64 ax, .slice po pn pc, .slice qo qn qc], .agg #[.int .i64 b_kx, .string b_tx, .bool b_nx, .slice b_xo b_xn b_xc, .slice b_yo b_yn b_yc, .int .i64 b_ax, .slice b_po b_pn b_pc, .slice b_qo b_qn b_qc], .int .u8 z] w _
 go_enter Tryz.func5, Tryz.ntmps5
 go_upto_region 1 with fail
 generalize (w.alloc (.cells #[.int .i64 kx, .string tx, .bool nx, .slice xo xn xc, .slice yo yn yc, .int .i64 ax, .slice po pn pc, .slice qo qn qc] 35)).alloc (.cells #[.int .i64 b_kx, .string b_tx, .bool b_nx, .slice b_xo b_xn b_xc, .slice b_yo b_yn b_yc, .int .i64 b_ax, .slice b_po b_pn b_pc, .slice b_qo b_qn b_qc] 35) = w1 at *
 have HB0 := Lib.hid hb
 have RX0 := Lib.hid hn.1
 have RY0 := Lib.hid hn.2
 clear hb hn
 go_wp2_with fail
 refine (answers10_any w1 (HT.out.below HB0.out (Nat.le_refl _))).mono ?_
 rintro e w2 ⟨rfl, hb⟩
 have HB1 := Lib.hid (HB0.out.trans (hb.mono HB0.out.size))
 have RX1 := Lib.hid ((hb.block _ (Array.getElem?_eq_some_iff.1 RX0.out).1).trans RX0.out)
 have RY1 := Lib.hid ((hb.block _ (Array.getElem?_eq_some_iff.1 RY0.out).1).trans RY0.out)
 clear RX0 RY0
 clear hb
 obtain ⟨c1_0, c1_1, c1_2, c1_3, c1_4, c1_5, c1_6, c1_7⟩ := rowS8 RX1.out
 go_wp2_with fail
 refine (light_sx 100 D _ w2 1 (by omega) (by omega) (HD.out.keep HB1.out)).mono ?_
 rintro e w3 ⟨rfl, hb⟩
 clear c1_0 c1_1 c1_2 c1_3 c1_4 c1_5 c1_6 c1_7
 have HB2 := Lib.hid (HB1.out.trans (hb.mono HB1.out.size))
 have RX2 := Lib.hid ((hb.block _ (Array.getElem?_eq_some_iff.1 RX1.out).1).trans RX1.out)
 have RY2 := Lib.hid ((hb.block _ (Array.getElem?_eq_some_iff.1 RY1.out).1).trans RY1.out)
 clear RX1 RY1
 clear hb
 cases hlX : lightS 100 D with
 | false =>
  clear hlX
  go_wp2_with fail
  refine (answers10_any w3 (HT.out.below HB2.out (Nat.le_refl _))).mono ?_
  rintro e wz ⟨rfl, hbz⟩
  have HBZ := Lib.hid (HB2.out.trans (hbz.mono HB2.out.size))
  clear hbz
  go_wp2_with fail
  go_ret
  exact ⟨rfl, HBZ.out⟩
 | true =>
  have HLX := Lib.hid hlX
  clear hlX
  obtain ⟨c2_0, c2_1, c2_2, c2_3, c2_4, c2_5, c2_6, c2_7⟩ := rowS8 RY2.out
  go_wp2_with fail
  refine (light_sx 100 E _ w3 1 (by omega) (by omega) (HE.out.keep HB2.out)).mono ?_
  rintro e w4 ⟨rfl, hb⟩
  clear c2_0 c2_1 c2_2 c2_3 c2_4 c2_5 c2_6 c2_7
  have HB3 := Lib.hid (HB2.out.trans (hb.mono HB2.out.size))
  have RX3 := Lib.hid ((hb.block _ (Array.getElem?_eq_some_iff.1 RX2.out).1).trans RX2.out)
  have RY3 := Lib.hid ((hb.block _ (Array.getElem?_eq_some_iff.1 RY2.out).1).trans RY2.out)
  clear RX2 RY2
  clear hb
  cases hlY : lightS 100 E with
  | false =>
   clear hlY
   go_wp2_with fail
   refine (answers10_any w4 (HT.out.below HB3.out (Nat.le_refl _))).mono ?_
   rintro e wz ⟨rfl, hbz⟩
   have HBZ := Lib.hid (HB3.out.trans (hbz.mono HB3.out.size))
   clear hbz
   go_wp2_with fail
   go_ret
   exact ⟨rfl, HBZ.out⟩
  | true =>
   have HLY := Lib.hid hlY
   clear hlY
   go_upto_region 3 with fail
   obtain ⟨sm, HS⟩ : ∃ b, Hid (samX D E = b) := ⟨_, Lib.hid rfl⟩
   have HLN := Lib.hid (And.intro (Array.getElem?_eq_some_iff.1 RX3.out).1 ((Array.getElem?_eq_some_iff.1 RY3.out).1))
   refine wp_region_slotsG (psi [isV (.agg #[.int .i64 kx, .string tx, .bool nx, .slice xo xn xc, .slice yo yn yc, .int .i64 ax, .slice po pn pc, .slice qo qn qc]), isOx D, isV (.agg #[.int .i64 b_kx, .string b_tx, .bool b_nx, .slice b_xo b_xn b_xc, .slice b_yo b_yn b_yc, .int .i64 b_ax, .slice b_po b_pn b_pc, .slice b_qo b_qn b_qc]), isOx E, isV (.bool sm), isV (.agg #[.int .i64 kx, .string tx, .bool nx, .slice xo xn xc, .slice yo yn yc, .int .i64 ax, .slice po pn pc, .slice qo qn qc]), isV (.agg #[.int .i64 b_kx, .string b_tx, .bool b_nx, .slice b_xo b_xn b_xc, .slice b_yo b_yn b_yc, .int .i64 b_ax, .slice b_po b_pn b_pc, .slice b_qo b_qn b_qc]), isV (.bool sm), isV (.bool false)]) (fun W => Below w4.heap.size w4 W) (by kernel_rfl) (Below.refl _ _).drew (psi_mono ?_) (by kernel_rfl) (by kernel_rfl) ?_ ?_
   . intro pq hp
     simp only [List.mem_cons, List.not_mem_nil, or_false] at hp
     (repeat' rcases hp with rfl | hp) <;> first | exact isV_stays _ | (subst hp; exact isV_stays _) | exact isOx_stays _ | (subst hp; exact isOx_stays _)
   . refine AllOps.cons ?_ ?_
     . intro ab W hC hB hdep
       refine .inl ⟨rfl, ?_⟩
       have b0 : ab.tmps.getD 3 undef = .pointer (some ⟨w.heap.size, 0, none⟩) := hB.off 3 (by kernel_rfl)
       obtain ⟨c0, c1, c2, c3, c4, c5, c6, c7⟩ := rowS8 ((hC.block _ HLN.out.1).trans RX3.out)
       clear hB hdep
       refine goes_value (v := .agg #[.int .i64 kx, .string tx, .bool nx, .slice xo xn xc, .slice yo yn yc, .int .i64 ax, .slice po pn pc, .slice qo qn qc]) ?_ hC rfl
       simp only [execOp, Act.eval, b0]
       go_simp
     refine AllOps.cons ?_ ?_
     . intro ab W hC hB hdep
       refine .inl ⟨rfl, ?_⟩
       obtain ⟨x0, (q0 : (isV (.agg #[.int .i64 kx, .string tx, .bool nx, .slice xo xn xc, .slice yo yn yc, .int .i64 ax, .slice po pn pc, .slice qo qn qc])) x0 W), e0⟩ := hdep 0 26 (by kernel_rfl)
       obtain rfl : x0 = .agg #[.int .i64 kx, .string tx, .bool nx, .slice xo xn xc, .slice yo yn yc, .int .i64 ax, .slice po pn pc, .slice qo qn qc] := q0
       clear hB hdep
       refine goes_call (f := 24) (args := #[.agg #[.int .i64 kx, .string tx, .bool nx, .slice xo xn xc, .slice yo yn yc, .int .i64 ax, .slice po pn pc, .slice qo qn qc]]) ?_ ?_
       . simp only [execOp]
         go_simp
       . exact (own_sxK D HSM.out.1.owk _ W (HD.out.keep (HB3.out.trans (hC.mono HB3.out.size)))).mono fun e w7 ⟨vs, he, hl, hb⟩ => ⟨_, he, hC.trans (hb.mono hC.size), hb, ⟨vs, rfl, hl.lay⟩⟩
     refine AllOps.cons ?_ ?_
     . intro ab W hC hB hdep
       refine .inl ⟨rfl, ?_⟩
       have b0 : ab.tmps.getD 4 undef = .pointer (some ⟨w.heap.size + 1, 0, none⟩) := hB.off 4 (by kernel_rfl)
       obtain ⟨c0, c1, c2, c3, c4, c5, c6, c7⟩ := rowS8 ((hC.block _ HLN.out.2).trans RY3.out)
       clear hB hdep
       refine goes_value (v := .agg #[.int .i64 b_kx, .string b_tx, .bool b_nx, .slice b_xo b_xn b_xc, .slice b_yo b_yn b_yc, .int .i64 b_ax, .slice b_po b_pn b_pc, .slice b_qo b_qn b_qc]) ?_ hC rfl
       simp only [execOp, Act.eval, b0]
       go_simp
     refine AllOps.cons ?_ ?_
     . intro ab W hC hB hdep
       refine .inl ⟨rfl, ?_⟩
       obtain ⟨x0, (q0 : (isV (.agg #[.int .i64 b_kx, .string b_tx, .bool b_nx, .slice b_xo b_xn b_xc, .slice b_yo b_yn b_yc, .int .i64 b_ax, .slice b_po b_pn b_pc, .slice b_qo b_qn b_qc])) x0 W), e0⟩ := hdep 2 28 (by kernel_rfl)
       obtain rfl : x0 = .agg #[.int .i64 b_kx, .string b_tx, .bool b_nx, .slice b_xo b_xn b_xc, .slice b_yo b_yn b_yc, .int .i64 b_ax, .slice b_po b_pn b_pc, .slice b_qo b_qn b_qc] := q0
       clear hB hdep
       refine goes_call (f := 24) (args := #[.agg #[.int .i64 b_kx, .string b_tx, .bool b_nx, .slice b_xo b_xn b_xc, .slice b_yo b_yn b_yc, .int .i64 b_ax, .slice b_po b_pn b_pc, .slice b_qo b_qn b_qc]]) ?_ ?_
       . simp only [execOp]
         go_simp
       . exact (own_sxK E HSM.out.2.owk _ W (HE.out.keep (HB3.out.trans (hC.mono HB3.out.size)))).mono fun e w7 ⟨vs, he, hl, hb⟩ => ⟨_, he, hC.trans (hb.mono hC.size), hb, ⟨vs, rfl, hl.lay⟩⟩
     refine AllOps.cons ?_ ?_
     . intro ab W hC hB hdep
       refine .inl ⟨rfl, ?_⟩
       obtain ⟨x0, (q0 : (isOx D) x0 W), e0⟩ := hdep 1 27 (by kernel_rfl)
       skip
       obtain ⟨x1, (q1 : (isOx E) x1 W), e1⟩ := hdep 3 29 (by kernel_rfl)
       skip
       clear hB hdep
       refine goes_call (f := 31) (args := #[x0, x1]) ?_ ?_
       . simp only [execOp]
         go_simp
       . obtain ⟨ua, rfl, hla⟩ := q0
         obtain ⟨ub, rfl, hlb⟩ := q1
         exact (xsame_any D E ua ub W hla hlb HSM.out.1 HSM.out.2 (HT.out.below (HB3.out.trans (hC.mono HB3.out.size)) (Nat.le_refl _))).mono fun e w7 ⟨he, hb⟩ => ⟨_, he, hC.trans (hb.mono hC.size), hb, by show Value.bool _ = _; rw [HS.out]⟩
     refine AllOps.cons ?_ ?_
     . intro ab W hC hB hdep
       refine .inl ⟨rfl, ?_⟩
       have b0 : ab.tmps.getD 3 undef = .pointer (some ⟨w.heap.size, 0, none⟩) := hB.off 3 (by kernel_rfl)
       obtain ⟨c0, c1, c2, c3, c4, c5, c6, c7⟩ := rowS8 ((hC.block _ HLN.out.1).trans RX3.out)
       clear hB hdep
       refine goes_value (v := .agg #[.int .i64 kx, .string tx, .bool nx, .slice xo xn xc, .slice yo yn yc, .int .i64 ax, .slice po pn pc, .slice qo qn qc]) ?_ hC rfl
       simp only [execOp, Act.eval, b0]
       go_simp
     refine AllOps.cons ?_ ?_
     . intro ab W hC hB hdep
       refine .inl ⟨rfl, ?_⟩
       have b0 : ab.tmps.getD 4 undef = .pointer (some ⟨w.heap.size + 1, 0, none⟩) := hB.off 4 (by kernel_rfl)
       obtain ⟨c0, c1, c2, c3, c4, c5, c6, c7⟩ := rowS8 ((hC.block _ HLN.out.2).trans RY3.out)
       clear hB hdep
       refine goes_value (v := .agg #[.int .i64 b_kx, .string b_tx, .bool b_nx, .slice b_xo b_xn b_xc, .slice b_yo b_yn b_yc, .int .i64 b_ax, .slice b_po b_pn b_pc, .slice b_qo b_qn b_qc]) ?_ hC rfl
       simp only [execOp, Act.eval, b0]
       go_simp
     refine AllOps.cons ?_ ?_
     . intro ab W hC hB hdep
       refine .inl ⟨rfl, ?_⟩
       obtain ⟨x0, (q0 : (isV (.agg #[.int .i64 kx, .string tx, .bool nx, .slice xo xn xc, .slice yo yn yc, .int .i64 ax, .slice po pn pc, .slice qo qn qc])) x0 W), e0⟩ := hdep 5 31 (by kernel_rfl)
       obtain rfl : x0 = .agg #[.int .i64 kx, .string tx, .bool nx, .slice xo xn xc, .slice yo yn yc, .int .i64 ax, .slice po pn pc, .slice qo qn qc] := q0
       obtain ⟨x1, (q1 : (isV (.agg #[.int .i64 b_kx, .string b_tx, .bool b_nx, .slice b_xo b_xn b_xc, .slice b_yo b_yn b_yc, .int .i64 b_ax, .slice b_po b_pn b_pc, .slice b_qo b_qn b_qc])) x1 W), e1⟩ := hdep 6 32 (by kernel_rfl)
       obtain rfl : x1 = .agg #[.int .i64 b_kx, .string b_tx, .bool b_nx, .slice b_xo b_xn b_xc, .slice b_yo b_yn b_yc, .int .i64 b_ax, .slice b_po b_pn b_pc, .slice b_qo b_qn b_qc] := q1
       clear hB hdep
       refine goes_call (f := 32) (args := #[.agg #[.int .i64 kx, .string tx, .bool nx, .slice xo xn xc, .slice yo yn yc, .int .i64 ax, .slice po pn pc, .slice qo qn qc], .agg #[.int .i64 b_kx, .string b_tx, .bool b_nx, .slice b_xo b_xn b_xc, .slice b_yo b_yn b_yc, .int .i64 b_ax, .slice b_po b_pn b_pc, .slice b_qo b_qn b_qc]]) ?_ ?_
       . simp only [execOp]
         go_simp
       . exact (rxsame_any D E _ _ W (HD.out.keep (HB3.out.trans (hC.mono HB3.out.size))) (HE.out.keep (HB3.out.trans (hC.mono HB3.out.size))) HSM.out.1 HSM.out.2 HLX.out).mono fun e w7 ⟨he, hb⟩ => ⟨_, he, hC.trans (hb.mono hC.size), hb, by show Value.bool _ = _; rw [HS.out]⟩
     refine AllOps.cons ?_ ?_
     . intro ab W hC hB hdep
       refine .inl ⟨rfl, ?_⟩
       obtain ⟨x0, (q0 : (isV (.bool sm)) x0 W), e0⟩ := hdep 4 30 (by kernel_rfl)
       obtain rfl : x0 = .bool sm := q0
       obtain ⟨x1, (q1 : (isV (.bool sm)) x1 W), e1⟩ := hdep 7 33 (by kernel_rfl)
       obtain rfl : x1 = .bool sm := q1
       clear hB hdep
       refine goes_value (v := .bool false) ?_ hC rfl
       simp only [execOp, Act.eval, e0, e1]
       go_simp
       try (cases sm <;> rfl)
     exact trivial
   . intro aa wC1 hC hB hall
     obtain ⟨v0, (k0 : v0 = .agg #[.int .i64 kx, .string tx, .bool nx, .slice xo xn xc, .slice yo yn yc, .int .i64 ax, .slice po pn pc, .slice qo qn qc]), e0⟩ := hall 0 _ rfl
     obtain ⟨v1, (k1 : (isOx D) v1 wC1), e1⟩ := hall 1 _ rfl
     obtain ⟨v2, (k2 : v2 = .agg #[.int .i64 b_kx, .string b_tx, .bool b_nx, .slice b_xo b_xn b_xc, .slice b_yo b_yn b_yc, .int .i64 b_ax, .slice b_po b_pn b_pc, .slice b_qo b_qn b_qc]), e2⟩ := hall 2 _ rfl
     obtain ⟨v3, (k3 : (isOx E) v3 wC1), e3⟩ := hall 3 _ rfl
     obtain ⟨v4, (k4 : v4 = .bool sm), e4⟩ := hall 4 _ rfl
     obtain ⟨v5, (k5 : v5 = .agg #[.int .i64 kx, .string tx, .bool nx, .slice xo xn xc, .slice yo yn yc, .int .i64 ax, .slice po pn pc, .slice qo qn qc]), e5⟩ := hall 5 _ rfl
     obtain ⟨v6, (k6 : v6 = .agg #[.int .i64 b_kx, .string b_tx, .bool b_nx, .slice b_xo b_xn b_xc, .slice b_yo b_yn b_yc, .int .i64 b_ax, .slice b_po b_pn b_pc, .slice b_qo b_qn b_qc]), e6⟩ := hall 6 _ rfl
     obtain ⟨v7, (k7 : v7 = .bool sm), e7⟩ := hall 7 _ rfl
     obtain ⟨v8, (k8 : v8 = .bool false), e8⟩ := hall 8 _ rfl
     subst k0 k2 k4 k5 k6 k7 k8
     have hv : ∀ pq ∈ [((26 : Nat), (.agg #[.int .i64 kx, .string tx, .bool nx, .slice xo xn xc, .slice yo yn yc, .int .i64 ax, .slice po pn pc, .slice qo qn qc] : Value)), ((27 : Nat), (v1 : Value)), ((28 : Nat), (.agg #[.int .i64 b_kx, .string b_tx, .bool b_nx, .slice b_xo b_xn b_xc, .slice b_yo b_yn b_yc, .int .i64 b_ax, .slice b_po b_pn b_pc, .slice b_qo b_qn b_qc] : Value)), ((29 : Nat), (v3 : Value)), ((30 : Nat), (.bool sm : Value)), ((31 : Nat), (.agg #[.int .i64 kx, .string tx, .bool nx, .slice xo xn xc, .slice yo yn yc, .int .i64 ax, .slice po pn pc, .slice qo qn qc] : Value)), ((32 : Nat), (.agg #[.int .i64 b_kx, .string b_tx, .bool b_nx, .slice b_xo b_xn b_xc, .slice b_yo b_yn b_yc, .int .i64 b_ax, .slice b_po b_pn b_pc, .slice b_qo b_qn b_qc] : Value)), ((33 : Nat), (.bool sm : Value)), ((34 : Nat), (.bool false : Value))], aa.tmps.getD pq.1 undef = pq.2 := by
      intro pq hp
      simp only [List.mem_cons, List.not_mem_nil, or_false] at hp
      rcases hp with rfl | rfl | rfl | rfl | rfl | rfl | rfl | rfl | rfl
      . exact e0 _ rfl
      . exact e1 _ rfl
      . exact e2 _ rfl
      . exact e3 _ rfl
      . exact e4 _ rfl
      . exact e5 _ rfl
      . exact e6 _ rfl
      . exact e7 _ rfl
      . exact e8 _ rfl
     have hact := act_fold _ hB hv (by kernel_rfl)
     subst hact
     clear hv hall hB e0 e1 e2 e3 e4 e5 e6 e7 e8
     refine (‹∀ (a : Act) (w : World), Code.wp Tryz.prog _ _ a w → _›) _ wC1 ?_
     simp only [List.foldl, List.setIfInBounds_toArray, List.set_cons_succ, List.set_cons_zero]
     clear HLN k1 k3
     have HB4 := Lib.hid (HB3.out.trans (hC.mono HB3.out.size))
     have RX4 := Lib.hid ((hC.block _ (Array.getElem?_eq_some_iff.1 RX3.out).1).trans RX3.out)
     have RY4 := Lib.hid ((hC.block _ (Array.getElem?_eq_some_iff.1 RY3.out).1).trans RY3.out)
     clear RX3 RY3
     clear hC
     obtain ⟨c3_0, c3_1, c3_2, c3_3, c3_4, c3_5, c3_6, c3_7⟩ := rowS8 RX4.out
     go_wp2_with fail
     refine (rxsound_any D _ wC1 (HD.out.keep HB4.out) HSM.out.1).mono ?_
     rintro e w6 ⟨rfl, hb⟩
     clear c3_0 c3_1 c3_2 c3_3 c3_4 c3_5 c3_6 c3_7
     have HB5 := Lib.hid (HB4.out.trans (hb.mono HB4.out.size))
     have RX5 := Lib.hid ((hb.block _ (Array.getElem?_eq_some_iff.1 RX4.out).1).trans RX4.out)
     have RY5 := Lib.hid ((hb.block _ (Array.getElem?_eq_some_iff.1 RY4.out).1).trans RY4.out)
     clear RX4 RY4
     clear hb
     cases hs : sndX D with
     | false =>
      have HSF : Hid (samX D D = false) := Lib.hid (by unfold samX; rw [hs]; rfl)
      clear hs
      go_upto_region 6 with fail
      have HLN := Lib.hid ((Array.getElem?_eq_some_iff.1 RX5.out).1)
      refine wp_region_slotsG (psi [isV (.agg #[.int .i64 kx, .string tx, .bool nx, .slice xo xn xc, .slice yo yn yc, .int .i64 ax, .slice po pn pc, .slice qo qn qc]), isOx D, isV (.agg #[.int .i64 kx, .string tx, .bool nx, .slice xo xn xc, .slice yo yn yc, .int .i64 ax, .slice po pn pc, .slice qo qn qc]), isOx D, isV (.bool false), isV (.bool true), isV (.bool true)]) (fun W => Below w6.heap.size w6 W) (by kernel_rfl) (Below.refl _ _).drew (psi_mono ?_) (by kernel_rfl) (by kernel_rfl) ?_ ?_
      . intro pq hp
        simp only [List.mem_cons, List.not_mem_nil, or_false] at hp
        (repeat' rcases hp with rfl | hp) <;> first | exact isV_stays _ | (subst hp; exact isV_stays _) | exact isOx_stays _ | (subst hp; exact isOx_stays _)
      . refine AllOps.cons ?_ ?_
        . intro ab W hC hB hdep
          refine .inl ⟨rfl, ?_⟩
          have b0 : ab.tmps.getD 3 undef = .pointer (some ⟨w.heap.size, 0, none⟩) := hB.off 3 (by kernel_rfl)
          obtain ⟨c0, c1, c2, c3, c4, c5, c6, c7⟩ := rowS8 ((hC.block _ HLN.out).trans RX5.out)
          clear hB hdep
          refine goes_value (v := .agg #[.int .i64 kx, .string tx, .bool nx, .slice xo xn xc, .slice yo yn yc, .int .i64 ax, .slice po pn pc, .slice qo qn qc]) ?_ hC rfl
          simp only [execOp, Act.eval, b0]
          go_simp
        refine AllOps.cons ?_ ?_
        . intro ab W hC hB hdep
          refine .inl ⟨rfl, ?_⟩
          obtain ⟨x0, (q0 : (isV (.agg #[.int .i64 kx, .string tx, .bool nx, .slice xo xn xc, .slice yo yn yc, .int .i64 ax, .slice po pn pc, .slice qo qn qc])) x0 W), e0⟩ := hdep 0 38 (by kernel_rfl)
          obtain rfl : x0 = .agg #[.int .i64 kx, .string tx, .bool nx, .slice xo xn xc, .slice yo yn yc, .int .i64 ax, .slice po pn pc, .slice qo qn qc] := q0
          clear hB hdep
          refine goes_call (f := 24) (args := #[.agg #[.int .i64 kx, .string tx, .bool nx, .slice xo xn xc, .slice yo yn yc, .int .i64 ax, .slice po pn pc, .slice qo qn qc]]) ?_ ?_
          . simp only [execOp]
            go_simp
          . exact (own_sxK D HSM.out.1.owk _ W (HD.out.keep (HB5.out.trans (hC.mono HB5.out.size)))).mono fun e w7 ⟨vs, he, hl, hb⟩ => ⟨_, he, hC.trans (hb.mono hC.size), hb, ⟨vs, rfl, hl.lay⟩⟩
        refine AllOps.cons ?_ ?_
        . intro ab W hC hB hdep
          refine .inl ⟨rfl, ?_⟩
          have b0 : ab.tmps.getD 3 undef = .pointer (some ⟨w.heap.size, 0, none⟩) := hB.off 3 (by kernel_rfl)
          obtain ⟨c0, c1, c2, c3, c4, c5, c6, c7⟩ := rowS8 ((hC.block _ HLN.out).trans RX5.out)
          clear hB hdep
          refine goes_value (v := .agg #[.int .i64 kx, .string tx, .bool nx, .slice xo xn xc, .slice yo yn yc, .int .i64 ax, .slice po pn pc, .slice qo qn qc]) ?_ hC rfl
          simp only [execOp, Act.eval, b0]
          go_simp
        refine AllOps.cons ?_ ?_
        . intro ab W hC hB hdep
          refine .inl ⟨rfl, ?_⟩
          obtain ⟨x0, (q0 : (isV (.agg #[.int .i64 kx, .string tx, .bool nx, .slice xo xn xc, .slice yo yn yc, .int .i64 ax, .slice po pn pc, .slice qo qn qc])) x0 W), e0⟩ := hdep 2 40 (by kernel_rfl)
          obtain rfl : x0 = .agg #[.int .i64 kx, .string tx, .bool nx, .slice xo xn xc, .slice yo yn yc, .int .i64 ax, .slice po pn pc, .slice qo qn qc] := q0
          clear hB hdep
          refine goes_call (f := 24) (args := #[.agg #[.int .i64 kx, .string tx, .bool nx, .slice xo xn xc, .slice yo yn yc, .int .i64 ax, .slice po pn pc, .slice qo qn qc]]) ?_ ?_
          . simp only [execOp]
            go_simp
          . exact (own_sxK D HSM.out.1.owk _ W (HD.out.keep (HB5.out.trans (hC.mono HB5.out.size)))).mono fun e w7 ⟨vs, he, hl, hb⟩ => ⟨_, he, hC.trans (hb.mono hC.size), hb, ⟨vs, rfl, hl.lay⟩⟩
        refine AllOps.cons ?_ ?_
        . intro ab W hC hB hdep
          refine .inl ⟨rfl, ?_⟩
          obtain ⟨x0, (q0 : (isOx D) x0 W), e0⟩ := hdep 1 39 (by kernel_rfl)
          skip
          obtain ⟨x1, (q1 : (isOx D) x1 W), e1⟩ := hdep 3 41 (by kernel_rfl)
          skip
          clear hB hdep
          refine goes_call (f := 31) (args := #[x0, x1]) ?_ ?_
          . simp only [execOp]
            go_simp
          . obtain ⟨ua, rfl, hla⟩ := q0
            obtain ⟨ub, rfl, hlb⟩ := q1
            exact (xsame_any D D ua ub W hla hlb HSM.out.1 HSM.out.1 (HT.out.below (HB5.out.trans (hC.mono HB5.out.size)) (Nat.le_refl _))).mono fun e w7 ⟨he, hb⟩ => ⟨_, he, hC.trans (hb.mono hC.size), hb, by show Value.bool _ = _; rw [HSF.out]⟩
        refine AllOps.cons ?_ ?_
        . intro ab W hC hB hdep
          refine .inl ⟨rfl, ?_⟩
          obtain ⟨x0, (q0 : (isV (.bool false)) x0 W), e0⟩ := hdep 4 42 (by kernel_rfl)
          obtain rfl : x0 = .bool false := q0
          clear hB hdep
          refine goes_value (v := .bool true) ?_ hC rfl
          simp only [execOp, Act.eval, e0]
          go_simp
        refine AllOps.cons ?_ ?_
        . intro ab W hC hB hdep
          refine .inl ⟨rfl, ?_⟩
          obtain ⟨x0, (q0 : (isV (.bool true)) x0 W), e0⟩ := hdep 5 43 (by kernel_rfl)
          obtain rfl : x0 = .bool true := q0
          clear hB hdep
          refine goes_value (v := .bool true) ?_ hC rfl
          simp only [execOp, Act.eval, e0]
          go_simp
        exact trivial
      . intro aa wC2 hC hB hall
        obtain ⟨v0, (k0 : v0 = .agg #[.int .i64 kx, .string tx, .bool nx, .slice xo xn xc, .slice yo yn yc, .int .i64 ax, .slice po pn pc, .slice qo qn qc]), e0⟩ := hall 0 _ rfl
        obtain ⟨v1, (k1 : (isOx D) v1 wC2), e1⟩ := hall 1 _ rfl
        obtain ⟨v2, (k2 : v2 = .agg #[.int .i64 kx, .string tx, .bool nx, .slice xo xn xc, .slice yo yn yc, .int .i64 ax, .slice po pn pc, .slice qo qn qc]), e2⟩ := hall 2 _ rfl
        obtain ⟨v3, (k3 : (isOx D) v3 wC2), e3⟩ := hall 3 _ rfl
        obtain ⟨v4, (k4 : v4 = .bool false), e4⟩ := hall 4 _ rfl
        obtain ⟨v5, (k5 : v5 = .bool true), e5⟩ := hall 5 _ rfl
        obtain ⟨v6, (k6 : v6 = .bool true), e6⟩ := hall 6 _ rfl
        subst k0 k2 k4 k5 k6
        have hv : ∀ pq ∈ [((38 : Nat), (.agg #[.int .i64 kx, .string tx, .bool nx, .slice xo xn xc, .slice yo yn yc, .int .i64 ax, .slice po pn pc, .slice qo qn qc] : Value)), ((39 : Nat), (v1 : Value)), ((40 : Nat), (.agg #[.int .i64 kx, .string tx, .bool nx, .slice xo xn xc, .slice yo yn yc, .int .i64 ax, .slice po pn pc, .slice qo qn qc] : Value)), ((41 : Nat), (v3 : Value)), ((42 : Nat), (.bool false : Value)), ((43 : Nat), (.bool true : Value)), ((6 : Nat), (.bool true : Value))], aa.tmps.getD pq.1 undef = pq.2 := by
         intro pq hp
         simp only [List.mem_cons, List.not_mem_nil, or_false] at hp
         rcases hp with rfl | rfl | rfl | rfl | rfl | rfl | rfl
         . exact e0 _ rfl
         . exact e1 _ rfl
         . exact e2 _ rfl
         . exact e3 _ rfl
         . exact e4 _ rfl
         . exact e5 _ rfl
         . exact e6 _ rfl
        have hact := act_fold _ hB hv (by kernel_rfl)
        subst hact
        clear hv hall hB e0 e1 e2 e3 e4 e5 e6
        refine (‹∀ (a : Act) (w : World), Code.wp Tryz.prog _ _ a w → _›) _ wC2 ?_
        simp only [List.foldl, List.setIfInBounds_toArray, List.set_cons_succ, List.set_cons_zero]
        clear HLN k1 k3
        have HB6 := Lib.hid (HB5.out.trans (hC.mono HB5.out.size))
        have RX6 := Lib.hid ((hC.block _ (Array.getElem?_eq_some_iff.1 RX5.out).1).trans RX5.out)
        have RY6 := Lib.hid ((hC.block _ (Array.getElem?_eq_some_iff.1 RY5.out).1).trans RY5.out)
        clear RX5 RY5
        clear hC
        go_wp2_with fail
        go_ret
        exact ⟨rfl, HB6.out⟩
     | true =>
      have HS1 := Lib.hid hs
      clear hs
      obtain ⟨e0, HE0⟩ : ∃ y, Hid (sndE D = y) := ⟨_, Lib.hid rfl⟩
      obtain ⟨c4_0, c4_1, c4_2, c4_3, c4_4, c4_5, c4_6, c4_7⟩ := rowS8 RX5.out
      go_wp2_with fail
      refine (own_sxK D HSM.out.1.owk _ w6 (HD.out.keep HB5.out)).mono ?_
      rintro e w7 ⟨vs, rfl, hl, hb⟩
      clear c4_0 c4_1 c4_2 c4_3 c4_4 c4_5 c4_6 c4_7
      have hlv := hl.lay
      clear hl
      have HB6 := Lib.hid (HB5.out.trans (hb.mono HB5.out.size))
      have RX6 := Lib.hid ((hb.block _ (Array.getElem?_eq_some_iff.1 RX5.out).1).trans RX5.out)
      have RY6 := Lib.hid ((hb.block _ (Array.getElem?_eq_some_iff.1 RY5.out).1).trans RY5.out)
      clear RX5 RY5
      clear hb
      have FV7 := Lib.hid hlv
      clear hlv
      go_wp2_with fail
      refine (open1_any D _ w7 FV7.out HSM.out.1 (HT.out.below HB6.out (Nat.le_refl _))).mono ?_
      rintro e w8 ⟨us7, rfl, hso7, hb⟩
      obtain ⟨o_kx, o_tx, o_nx, o_xo, o_xn, o_xc, o_yo, o_yn, o_yc, o_ax, o_po, o_pn, o_pc, o_qo, o_qn, o_qc, rfl⟩ := sx_shapes hso7.lay
      have hly7 := hso7.lay
      have HB8 := Lib.hid (HB6.out.trans (hb.mono HB6.out.size))
      have RX8 := Lib.hid ((hb.block _ (Array.getElem?_eq_some_iff.1 RX6.out).1).trans RX6.out)
      have RY8 := Lib.hid ((hb.block _ (Array.getElem?_eq_some_iff.1 RY6.out).1).trans RY6.out)
      have FV8 := Lib.hid (FV7.out.keep hb)
      clear RX6 RY6 FV7
      clear hb
      clear FV8
      have FO9 := Lib.hid hly7
      clear hly7 hso7
      have hbx := below1 w8 (.cells #[.int .i64 o_kx, .string o_tx, .bool o_nx, .slice o_xo o_xn o_xc, .slice o_yo o_yn o_yc, .int .i64 o_ax, .slice o_po o_pn o_pc, .slice o_qo o_qn o_qc] 35)
      have hnx := heap_alloc_new w8 (.cells #[.int .i64 o_kx, .string o_tx, .bool o_nx, .slice o_xo o_xn o_xc, .slice o_yo o_yn o_yc, .int .i64 o_ax, .slice o_po o_pn o_pc, .slice o_qo o_qn o_qc] 35)
      go_upto_region 8 with fail
      obtain ⟨bkO, hbk⟩ : ∃ b, w8.heap.size = b := ⟨_, rfl⟩
      generalize w8.alloc (.cells #[.int .i64 o_kx, .string o_tx, .bool o_nx, .slice o_xo o_xn o_xc, .slice o_yo o_yn o_yc, .int .i64 o_ax, .slice o_po o_pn o_pc, .slice o_qo o_qn o_qc] 35) = w9 at *
      have HB10 := Lib.hid (HB8.out.trans (hbx.mono HB8.out.size))
      have RX10 := Lib.hid ((hbx.block _ (Array.getElem?_eq_some_iff.1 RX8.out).1).trans RX8.out)
      have RY10 := Lib.hid ((hbx.block _ (Array.getElem?_eq_some_iff.1 RY8.out).1).trans RY8.out)
      have FO10 := Lib.hid (FO9.out.keep hbx)
      clear RX8 RY8 FO9
      rw [hbk] at hnx ⊢
      have RO10 := Lib.hid hnx
      clear hbx hnx hbk
      obtain ⟨c5_0, c5_1, c5_2, c5_3, c5_4, c5_5, c5_6, c5_7⟩ := rowS8 RX10.out
      go_wp2_with fail
      refine (own_sxK D HSM.out.1.owk _ w9 (HD.out.keep HB10.out)).mono ?_
      rintro e w10 ⟨vs, rfl, hl, hb⟩
      clear c5_0 c5_1 c5_2 c5_3 c5_4 c5_5 c5_6 c5_7
      have hlv := hl.lay
      clear hl
      have HB11 := Lib.hid (HB10.out.trans (hb.mono HB10.out.size))
      have RX11 := Lib.hid ((hb.block _ (Array.getElem?_eq_some_iff.1 RX10.out).1).trans RX10.out)
      have RY11 := Lib.hid ((hb.block _ (Array.getElem?_eq_some_iff.1 RY10.out).1).trans RY10.out)
      have RO11 := Lib.hid ((hb.block _ (Array.getElem?_eq_some_iff.1 RO10.out).1).trans RO10.out)
      have FO11 := Lib.hid (FO10.out.keep hb)
      clear RX10 RY10 RO10 FO10
      clear hb
      have FV12 := Lib.hid hlv
      clear hlv
      go_wp2_with fail
      refine (flat_any D _ w10 FV12.out HSM.out.1 (HT.out.below HB11.out (Nat.le_refl _))).mono ?_
      rintro e w11 ⟨us7, rfl, hso7, hb⟩
      obtain ⟨f_kx, f_tx, f_nx, f_xo, f_xn, f_xc, f_yo, f_yn, f_yc, f_ax, f_po, f_pn, f_pc, f_qo, f_qn, f_qc, rfl⟩ := sx_shapes hso7.lay
      have hly7 := hso7.lay
      have HB13 := Lib.hid (HB11.out.trans (hb.mono HB11.out.size))
      have RX13 := Lib.hid ((hb.block _ (Array.getElem?_eq_some_iff.1 RX11.out).1).trans RX11.out)
      have RY13 := Lib.hid ((hb.block _ (Array.getElem?_eq_some_iff.1 RY11.out).1).trans RY11.out)
      have RO13 := Lib.hid ((hb.block _ (Array.getElem?_eq_some_iff.1 RO11.out).1).trans RO11.out)
      have FO13 := Lib.hid (FO11.out.keep hb)
      have FV13 := Lib.hid (FV12.out.keep hb)
      clear RX11 RY11 RO11 FO11 FV12
      clear hb
      clear FV13
      have FF14 := Lib.hid hly7
      clear hly7 hso7
      have hbx := below1 w11 (.cells #[.int .i64 f_kx, .string f_tx, .bool f_nx, .slice f_xo f_xn f_xc, .slice f_yo f_yn f_yc, .int .i64 f_ax, .slice f_po f_pn f_pc, .slice f_qo f_qn f_qc] 35)
      have hnx := heap_alloc_new w11 (.cells #[.int .i64 f_kx, .string f_tx, .bool f_nx, .slice f_xo f_xn f_xc, .slice f_yo f_yn f_yc, .int .i64 f_ax, .slice f_po f_pn f_pc, .slice f_qo f_qn f_qc] 35)
      go_upto_region 9 with fail
      obtain ⟨bkF, hbk⟩ : ∃ b, w11.heap.size = b := ⟨_, rfl⟩
      generalize w11.alloc (.cells #[.int .i64 f_kx, .string f_tx, .bool f_nx, .slice f_xo f_xn f_xc, .slice f_yo f_yn f_yc, .int .i64 f_ax, .slice f_po f_pn f_pc, .slice f_qo f_qn f_qc] 35) = w12 at *
      have HB15 := Lib.hid (HB13.out.trans (hbx.mono HB13.out.size))
      have RX15 := Lib.hid ((hbx.block _ (Array.getElem?_eq_some_iff.1 RX13.out).1).trans RX13.out)
      have RY15 := Lib.hid ((hbx.block _ (Array.getElem?_eq_some_iff.1 RY13.out).1).trans RY13.out)
      have RO15 := Lib.hid ((hbx.block _ (Array.getElem?_eq_some_iff.1 RO13.out).1).trans RO13.out)
      have FO15 := Lib.hid (FO13.out.keep hbx)
      have FF15 := Lib.hid (FF14.out.keep hbx)
      clear RX13 RY13 RO13 FO13 FF14
      rw [hbk] at hnx ⊢
      have RF15 := Lib.hid hnx
      clear hbx hnx hbk
      obtain ⟨c6_0, c6_1, c6_2, c6_3, c6_4, c6_5, c6_6, c6_7⟩ := rowS8 RX15.out
      go_wp2_with fail
      refine (own_sxK D HSM.out.1.owk _ w12 (HD.out.keep HB15.out)).mono ?_
      rintro e w13 ⟨vs, rfl, hl, hb⟩
      clear c6_0 c6_1 c6_2 c6_3 c6_4 c6_5 c6_6 c6_7
      have hlv := hl.lay
      clear hl
      have HB16 := Lib.hid (HB15.out.trans (hb.mono HB15.out.size))
      have RX16 := Lib.hid ((hb.block _ (Array.getElem?_eq_some_iff.1 RX15.out).1).trans RX15.out)
      have RY16 := Lib.hid ((hb.block _ (Array.getElem?_eq_some_iff.1 RY15.out).1).trans RY15.out)
      have RO16 := Lib.hid ((hb.block _ (Array.getElem?_eq_some_iff.1 RO15.out).1).trans RO15.out)
      have RF16 := Lib.hid ((hb.block _ (Array.getElem?_eq_some_iff.1 RF15.out).1).trans RF15.out)
      have FO16 := Lib.hid (FO15.out.keep hb)
      have FF16 := Lib.hid (FF15.out.keep hb)
      clear RX15 RY15 RO15 RF15 FO15 FF15
      clear hb
      have FV17 := Lib.hid hlv
      clear hlv
      go_wp2_with fail
      have hzz := HZ.out
      refine (mark_any (z + 1) w13).mono ?_
      rintro e w14 ⟨⟨xm, rfl, hm⟩, hb⟩
      have HB18 := Lib.hid (HB16.out.trans (hb.mono HB16.out.size))
      have RX18 := Lib.hid ((hb.block _ (Array.getElem?_eq_some_iff.1 RX16.out).1).trans RX16.out)
      have RY18 := Lib.hid ((hb.block _ (Array.getElem?_eq_some_iff.1 RY16.out).1).trans RY16.out)
      have RO18 := Lib.hid ((hb.block _ (Array.getElem?_eq_some_iff.1 RO16.out).1).trans RO16.out)
      have RF18 := Lib.hid ((hb.block _ (Array.getElem?_eq_some_iff.1 RF16.out).1).trans RF16.out)
      have FO18 := Lib.hid (FO16.out.keep hb)
      have FF18 := Lib.hid (FF16.out.keep hb)
      have FV18 := Lib.hid (FV17.out.keep hb)
      clear RX16 RY16 RO16 RF16 FO16 FF16 FV17
      clear hb
      have FM19 := Lib.hid hm
      clear hm hzz
      go_wp2_with fail
      have FWM := Lib.hid FM19.out
      refine (push_any D _ xm (mrkA (z + 1)).1 (mrkA (z + 1)).2 w14 FV18.out HSM.out.1 FWM.out (HT.out.below HB18.out (Nat.le_refl _))).mono ?_
      rintro e w15 ⟨us7, rfl, hso7, hb⟩
      obtain ⟨p_kx, p_tx, p_nx, p_xo, p_xn, p_xc, p_yo, p_yn, p_yc, p_ax, p_po, p_pn, p_pc, p_qo, p_qn, p_qc, rfl⟩ := sx_shapes hso7.lay
      have hly7 := hso7.lay
      have HB20 := Lib.hid (HB18.out.trans (hb.mono HB18.out.size))
      have RX20 := Lib.hid ((hb.block _ (Array.getElem?_eq_some_iff.1 RX18.out).1).trans RX18.out)
      have RY20 := Lib.hid ((hb.block _ (Array.getElem?_eq_some_iff.1 RY18.out).1).trans RY18.out)
      have RO20 := Lib.hid ((hb.block _ (Array.getElem?_eq_some_iff.1 RO18.out).1).trans RO18.out)
      have RF20 := Lib.hid ((hb.block _ (Array.getElem?_eq_some_iff.1 RF18.out).1).trans RF18.out)
      have FO20 := Lib.hid (FO18.out.keep hb)
      have FF20 := Lib.hid (FF18.out.keep hb)
      have FV20 := Lib.hid (FV18.out.keep hb)
      have FM20 := Lib.hid (FM19.out.below hb)
      clear RX18 RY18 RO18 RF18 FO18 FF18 FV18 FM19
      clear hb
      clear FV20
      have FP21 := Lib.hid hly7
      clear hly7 hso7
      have hbx := below1 w15 (.cells #[.int .i64 p_kx, .string p_tx, .bool p_nx, .slice p_xo p_xn p_xc, .slice p_yo p_yn p_yc, .int .i64 p_ax, .slice p_po p_pn p_pc, .slice p_qo p_qn p_qc] 35)
      have hnx := heap_alloc_new w15 (.cells #[.int .i64 p_kx, .string p_tx, .bool p_nx, .slice p_xo p_xn p_xc, .slice p_yo p_yn p_yc, .int .i64 p_ax, .slice p_po p_pn p_pc, .slice p_qo p_qn p_qc] 35)
      go_upto_region 10 with fail
      obtain ⟨bkP, hbk⟩ : ∃ b, w15.heap.size = b := ⟨_, rfl⟩
      generalize w15.alloc (.cells #[.int .i64 p_kx, .string p_tx, .bool p_nx, .slice p_xo p_xn p_xc, .slice p_yo p_yn p_yc, .int .i64 p_ax, .slice p_po p_pn p_pc, .slice p_qo p_qn p_qc] 35) = w16 at *
      have HB22 := Lib.hid (HB20.out.trans (hbx.mono HB20.out.size))
      have RX22 := Lib.hid ((hbx.block _ (Array.getElem?_eq_some_iff.1 RX20.out).1).trans RX20.out)
      have RY22 := Lib.hid ((hbx.block _ (Array.getElem?_eq_some_iff.1 RY20.out).1).trans RY20.out)
      have RO22 := Lib.hid ((hbx.block _ (Array.getElem?_eq_some_iff.1 RO20.out).1).trans RO20.out)
      have RF22 := Lib.hid ((hbx.block _ (Array.getElem?_eq_some_iff.1 RF20.out).1).trans RF20.out)
      have FO22 := Lib.hid (FO20.out.keep hbx)
      have FF22 := Lib.hid (FF20.out.keep hbx)
      have FM22 := Lib.hid (FM20.out.below hbx)
      have FP22 := Lib.hid (FP21.out.keep hbx)
      clear RX20 RY20 RO20 RF20 FO20 FF20 FM20 FP21
      rw [hbk] at hnx ⊢
      have RP22 := Lib.hid hnx
      clear hbx hnx hbk
      clear FWM
      obtain ⟨sy, HSY⟩ : ∃ b, Hid (symS 100 D = b) := ⟨_, Lib.hid rfl⟩
      obtain ⟨er, HER⟩ : ∃ y, Hid (pshE (mrkA (z + 1)).1 (mrkA (z + 1)).2 D = y) := ⟨_, Lib.hid rfl⟩
      rw [HER.out]
      have HLN := Lib.hid (And.intro (Array.getElem?_eq_some_iff.1 RX22.out).1 (And.intro (Array.getElem?_eq_some_iff.1 RO22.out).1 (And.intro (Array.getElem?_eq_some_iff.1 RF22.out).1 ((Array.getElem?_eq_some_iff.1 RP22.out).1))))
      by_cases hz1 : er = 0
      case neg =>
       obtain ⟨hq1, hq2⟩ := ne_int' hz1
       refine wp_region_slotsG (psi [isV (.agg #[.int .i64 o_kx, .string o_tx, .bool o_nx, .slice o_xo o_xn o_xc, .slice o_yo o_yn o_yc, .int .i64 o_ax, .slice o_po o_pn o_pc, .slice o_qo o_qn o_qc]), isV (.agg #[.int .i64 kx, .string tx, .bool nx, .slice xo xn xc, .slice yo yn yc, .int .i64 ax, .slice po pn pc, .slice qo qn qc]), isV (.bool true), isV (.bool true), isV (.agg #[.int .i64 kx, .string tx, .bool nx, .slice xo xn xc, .slice yo yn yc, .int .i64 ax, .slice po pn pc, .slice qo qn qc]), isV (.agg #[.int .i64 f_kx, .string f_tx, .bool f_nx, .slice f_xo f_xn f_xc, .slice f_yo f_yn f_yc, .int .i64 f_ax, .slice f_po f_pn f_pc, .slice f_qo f_qn f_qc]), isV (.bool true), isV (.bool true), isV (.bool true), isV (.int .i64 er), isV (.bool true), isV (.bool true), isV undef, isV undef, isV undef, isV undef, isV undef, isV undef, isV undef, isV (.bool true), isV (.bool true), isV (.bool true)]) (fun W => Below w16.heap.size w16 W) (by kernel_rfl) (Below.refl _ _).drew (psi_mono ?_) (by kernel_rfl) (by kernel_rfl) ?_ ?_
       . intro pq hp
         simp only [List.mem_cons, List.not_mem_nil, or_false] at hp
         (repeat' rcases hp with rfl | hp) <;> first | exact isV_stays _ | (subst hp; exact isV_stays _)
       . refine AllOps.cons ?_ ?_
         . intro ab W hC hB hdep
           refine .inl ⟨rfl, ?_⟩
           have b0 : ab.tmps.getD 7 undef = .pointer (some ⟨bkO, 0, none⟩) := hB.off 7 (by kernel_rfl)
           obtain ⟨c0, c1, c2, c3, c4, c5, c6, c7⟩ := rowS8 ((hC.block _ HLN.out.2.1).trans RO22.out)
           clear hB hdep
           refine goes_value (v := .agg #[.int .i64 o_kx, .string o_tx, .bool o_nx, .slice o_xo o_xn o_xc, .slice o_yo o_yn o_yc, .int .i64 o_ax, .slice o_po o_pn o_pc, .slice o_qo o_qn o_qc]) ?_ hC rfl
           simp only [execOp, Act.eval, b0]
           go_simp
         refine AllOps.cons ?_ ?_
         . intro ab W hC hB hdep
           refine .inl ⟨rfl, ?_⟩
           have b0 : ab.tmps.getD 3 undef = .pointer (some ⟨w.heap.size, 0, none⟩) := hB.off 3 (by kernel_rfl)
           obtain ⟨c0, c1, c2, c3, c4, c5, c6, c7⟩ := rowS8 ((hC.block _ HLN.out.1).trans RX22.out)
           clear hB hdep
           refine goes_value (v := .agg #[.int .i64 kx, .string tx, .bool nx, .slice xo xn xc, .slice yo yn yc, .int .i64 ax, .slice po pn pc, .slice qo qn qc]) ?_ hC rfl
           simp only [execOp, Act.eval, b0]
           go_simp
         refine AllOps.cons ?_ ?_
         . intro ab W hC hB hdep
           refine .inl ⟨rfl, ?_⟩
           obtain ⟨x0, (q0 : (isV (.agg #[.int .i64 o_kx, .string o_tx, .bool o_nx, .slice o_xo o_xn o_xc, .slice o_yo o_yn o_yc, .int .i64 o_ax, .slice o_po o_pn o_pc, .slice o_qo o_qn o_qc])) x0 W), e0⟩ := hdep 0 66 (by kernel_rfl)
           obtain rfl : x0 = .agg #[.int .i64 o_kx, .string o_tx, .bool o_nx, .slice o_xo o_xn o_xc, .slice o_yo o_yn o_yc, .int .i64 o_ax, .slice o_po o_pn o_pc, .slice o_qo o_qn o_qc] := q0
           obtain ⟨x1, (q1 : (isV (.agg #[.int .i64 kx, .string tx, .bool nx, .slice xo xn xc, .slice yo yn yc, .int .i64 ax, .slice po pn pc, .slice qo qn qc])) x1 W), e1⟩ := hdep 1 67 (by kernel_rfl)
           obtain rfl : x1 = .agg #[.int .i64 kx, .string tx, .bool nx, .slice xo xn xc, .slice yo yn yc, .int .i64 ax, .slice po pn pc, .slice qo qn qc] := q1
           clear hB hdep
           refine goes_call (f := 31) (args := #[.agg #[.int .i64 o_kx, .string o_tx, .bool o_nx, .slice o_xo o_xn o_xc, .slice o_yo o_yn o_yc, .int .i64 o_ax, .slice o_po o_pn o_pc, .slice o_qo o_qn o_qc], .agg #[.int .i64 kx, .string tx, .bool nx, .slice xo xn xc, .slice yo yn yc, .int .i64 ax, .slice po pn pc, .slice qo qn qc]]) ?_ ?_
           . simp only [execOp]
             go_simp
           . exact (xsame_any (opnR D) D _ _ W (FO22.out.keep hC) (HD.out.keep (HB22.out.trans (hC.mono HB22.out.size))) (opnR_sms HSM.out.1 (by omega)) HSM.out.1 (HT.out.below (HB22.out.trans (hC.mono HB22.out.size)) (Nat.le_refl _))).mono fun e w7 ⟨he, hb⟩ => ⟨_, he, hC.trans (hb.mono hC.size), hb, by show Value.bool _ = _; rw [sam_opn HS1.out]⟩
         refine AllOps.cons ?_ ?_
         . intro ab W hC hB hdep
           refine .inl ⟨rfl, ?_⟩
           obtain ⟨x0, (q0 : (isV (.bool true)) x0 W), e0⟩ := hdep 2 68 (by kernel_rfl)
           obtain rfl : x0 = .bool true := q0
           clear hB hdep
           refine goes_value (v := .bool true) ?_ hC rfl
           simp only [execOp, Act.eval, e0]
           go_simp
         refine AllOps.cons ?_ ?_
         . intro ab W hC hB hdep
           obtain ⟨xg, (qg : xg = .bool true), eg⟩ := hdep 3 69 (by kernel_rfl)
           subst qg
           refine .inl ⟨((wanted_is (g := 3) (t := 69) (b := true) (c := true) rfl rfl (by rw [hB.size]; exact Nat.le_of_ble_eq_true rfl) eg).trans rfl), ?_⟩
           have b0 : ab.tmps.getD 3 undef = .pointer (some ⟨w.heap.size, 0, none⟩) := hB.off 3 (by kernel_rfl)
           obtain ⟨c0, c1, c2, c3, c4, c5, c6, c7⟩ := rowS8 ((hC.block _ HLN.out.1).trans RX22.out)
           clear hB hdep
           refine goes_value (v := .agg #[.int .i64 kx, .string tx, .bool nx, .slice xo xn xc, .slice yo yn yc, .int .i64 ax, .slice po pn pc, .slice qo qn qc]) ?_ hC rfl
           simp only [execOp, Act.eval, b0]
           go_simp
         refine AllOps.cons ?_ ?_
         . intro ab W hC hB hdep
           obtain ⟨xg, (qg : xg = .bool true), eg⟩ := hdep 3 69 (by kernel_rfl)
           subst qg
           refine .inl ⟨((wanted_is (g := 3) (t := 69) (b := true) (c := true) rfl rfl (by rw [hB.size]; exact Nat.le_of_ble_eq_true rfl) eg).trans rfl), ?_⟩
           have b0 : ab.tmps.getD 9 undef = .pointer (some ⟨bkF, 0, none⟩) := hB.off 9 (by kernel_rfl)
           obtain ⟨c0, c1, c2, c3, c4, c5, c6, c7⟩ := rowS8 ((hC.block _ HLN.out.2.2.1).trans RF22.out)
           clear hB hdep
           refine goes_value (v := .agg #[.int .i64 f_kx, .string f_tx, .bool f_nx, .slice f_xo f_xn f_xc, .slice f_yo f_yn f_yc, .int .i64 f_ax, .slice f_po f_pn f_pc, .slice f_qo f_qn f_qc]) ?_ hC rfl
           simp only [execOp, Act.eval, b0]
           go_simp
         refine AllOps.cons ?_ ?_
         . intro ab W hC hB hdep
           obtain ⟨xg, (qg : xg = .bool true), eg⟩ := hdep 3 69 (by kernel_rfl)
           subst qg
           refine .inl ⟨((wanted_is (g := 3) (t := 69) (b := true) (c := true) rfl rfl (by rw [hB.size]; exact Nat.le_of_ble_eq_true rfl) eg).trans rfl), ?_⟩
           obtain ⟨x0, (q0 : (isV (.agg #[.int .i64 kx, .string tx, .bool nx, .slice xo xn xc, .slice yo yn yc, .int .i64 ax, .slice po pn pc, .slice qo qn qc])) x0 W), e0⟩ := hdep 4 70 (by kernel_rfl)
           obtain rfl : x0 = .agg #[.int .i64 kx, .string tx, .bool nx, .slice xo xn xc, .slice yo yn yc, .int .i64 ax, .slice po pn pc, .slice qo qn qc] := q0
           obtain ⟨x1, (q1 : (isV (.agg #[.int .i64 f_kx, .string f_tx, .bool f_nx, .slice f_xo f_xn f_xc, .slice f_yo f_yn f_yc, .int .i64 f_ax, .slice f_po f_pn f_pc, .slice f_qo f_qn f_qc])) x1 W), e1⟩ := hdep 5 71 (by kernel_rfl)
           obtain rfl : x1 = .agg #[.int .i64 f_kx, .string f_tx, .bool f_nx, .slice f_xo f_xn f_xc, .slice f_yo f_yn f_yc, .int .i64 f_ax, .slice f_po f_pn f_pc, .slice f_qo f_qn f_qc] := q1
           clear hB hdep
           refine goes_call (f := 31) (args := #[.agg #[.int .i64 kx, .string tx, .bool nx, .slice xo xn xc, .slice yo yn yc, .int .i64 ax, .slice po pn pc, .slice qo qn qc], .agg #[.int .i64 f_kx, .string f_tx, .bool f_nx, .slice f_xo f_xn f_xc, .slice f_yo f_yn f_yc, .int .i64 f_ax, .slice f_po f_pn f_pc, .slice f_qo f_qn f_qc]]) ?_ ?_
           . simp only [execOp]
             go_simp
           . exact (xsame_any D (fltR D) _ _ W (HD.out.keep (HB22.out.trans (hC.mono HB22.out.size))) (FF22.out.keep hC) HSM.out.1 (fltR_sms HSM.out.1 (by omega)) (HT.out.below (HB22.out.trans (hC.mono HB22.out.size)) (Nat.le_refl _))).mono fun e w7 ⟨he, hb⟩ => ⟨_, he, hC.trans (hb.mono hC.size), hb, by show Value.bool _ = _; rw [sam_flt HS1.out]⟩
         refine AllOps.cons ?_ ?_
         . intro ab W hC hB hdep
           refine .inl ⟨rfl, ?_⟩
           obtain ⟨x0, (q0 : (isV (.bool true)) x0 W), e0⟩ := hdep 3 69 (by kernel_rfl)
           obtain rfl : x0 = .bool true := q0
           obtain ⟨x1, (q1 : (isV (.bool true)) x1 W), e1⟩ := hdep 6 72 (by kernel_rfl)
           obtain rfl : x1 = .bool true := q1
           clear hB hdep
           refine goes_value (v := .bool true) ?_ hC rfl
           simp only [execOp, Act.eval, e0, e1]
           go_simp
         refine AllOps.cons ?_ ?_
         . intro ab W hC hB hdep
           refine .inl ⟨rfl, ?_⟩
           obtain ⟨x0, (q0 : (isV (.bool true)) x0 W), e0⟩ := hdep 7 73 (by kernel_rfl)
           obtain rfl : x0 = .bool true := q0
           clear hB hdep
           refine goes_value (v := .bool true) ?_ hC rfl
           simp only [execOp, Act.eval, e0]
           go_simp
         refine AllOps.cons ?_ ?_
         . intro ab W hC hB hdep
           obtain ⟨xg, (qg : xg = .bool true), eg⟩ := hdep 8 74 (by kernel_rfl)
           subst qg
           refine .inl ⟨((wanted_is (g := 8) (t := 74) (b := true) (c := true) rfl rfl (by rw [hB.size]; exact Nat.le_of_ble_eq_true rfl) eg).trans rfl), ?_⟩
           have b0 : ab.tmps.getD 12 undef = .int .i64 er := hB.off 12 (by kernel_rfl)
           clear hB hdep
           refine goes_value (v := .int .i64 er) ?_ hC rfl
           simp only [execOp, Act.eval, b0]
           go_simp
         refine AllOps.cons ?_ ?_
         . intro ab W hC hB hdep
           obtain ⟨xg, (qg : xg = .bool true), eg⟩ := hdep 8 74 (by kernel_rfl)
           subst qg
           refine .inl ⟨((wanted_is (g := 8) (t := 74) (b := true) (c := true) rfl rfl (by rw [hB.size]; exact Nat.le_of_ble_eq_true rfl) eg).trans rfl), ?_⟩
           obtain ⟨x0, (q0 : (isV (.int .i64 er)) x0 W), e0⟩ := hdep 9 75 (by kernel_rfl)
           obtain rfl : x0 = .int .i64 er := q0
           clear hB hdep
           refine goes_value (v := .bool true) ?_ hC rfl
           simp only [execOp, Act.eval, e0]
           go_simp
         refine AllOps.cons ?_ ?_
         . intro ab W hC hB hdep
           obtain ⟨xg, (qg : xg = .bool true), eg⟩ := hdep 8 74 (by kernel_rfl)
           subst qg
           refine .inl ⟨((wanted_is (g := 8) (t := 74) (b := true) (c := true) rfl rfl (by rw [hB.size]; exact Nat.le_of_ble_eq_true rfl) eg).trans rfl), ?_⟩
           obtain ⟨x0, (q0 : (isV (.bool true)) x0 W), e0⟩ := hdep 10 76 (by kernel_rfl)
           obtain rfl : x0 = .bool true := q0
           clear hB hdep
           refine goes_value (v := .bool true) ?_ hC rfl
           simp only [execOp, Act.eval, e0]
           go_simp
         refine AllOps.cons ?_ ?_
         . intro ab W hC hB hdep
           obtain ⟨xg, (qg : xg = .bool true), eg⟩ := hdep 11 77 (by kernel_rfl)
           subst qg
           exact .inr ⟨((wanted_is (g := 11) (t := 77) (b := false) (c := true) rfl rfl (by rw [hB.size]; exact Nat.le_of_ble_eq_true rfl) eg).trans rfl), rfl⟩
         refine AllOps.cons ?_ ?_
         . intro ab W hC hB hdep
           obtain ⟨xg, (qg : xg = .bool true), eg⟩ := hdep 11 77 (by kernel_rfl)
           subst qg
           exact .inr ⟨((wanted_is (g := 11) (t := 77) (b := false) (c := true) rfl rfl (by rw [hB.size]; exact Nat.le_of_ble_eq_true rfl) eg).trans rfl), rfl⟩
         refine AllOps.cons ?_ ?_
         . intro ab W hC hB hdep
           obtain ⟨xg, (qg : xg = .bool true), eg⟩ := hdep 11 77 (by kernel_rfl)
           subst qg
           exact .inr ⟨((wanted_is (g := 11) (t := 77) (b := false) (c := true) rfl rfl (by rw [hB.size]; exact Nat.le_of_ble_eq_true rfl) eg).trans rfl), rfl⟩
         refine AllOps.cons ?_ ?_
         . intro ab W hC hB hdep
           obtain ⟨xg, (qg : xg = .bool true), eg⟩ := hdep 11 77 (by kernel_rfl)
           subst qg
           exact .inr ⟨((wanted_is (g := 11) (t := 77) (b := false) (c := true) rfl rfl (by rw [hB.size]; exact Nat.le_of_ble_eq_true rfl) eg).trans rfl), rfl⟩
         refine AllOps.cons ?_ ?_
         . intro ab W hC hB hdep
           obtain ⟨xg, (qg : xg = .bool true), eg⟩ := hdep 11 77 (by kernel_rfl)
           subst qg
           exact .inr ⟨((wanted_is (g := 11) (t := 77) (b := false) (c := true) rfl rfl (by rw [hB.size]; exact Nat.le_of_ble_eq_true rfl) eg).trans rfl), rfl⟩
         refine AllOps.cons ?_ ?_
         . intro ab W hC hB hdep
           obtain ⟨xg, (qg : xg = .bool true), eg⟩ := hdep 11 77 (by kernel_rfl)
           subst qg
           exact .inr ⟨((wanted_is (g := 11) (t := 77) (b := false) (c := true) rfl rfl (by rw [hB.size]; exact Nat.le_of_ble_eq_true rfl) eg).trans rfl), rfl⟩
         refine AllOps.cons ?_ ?_
         . intro ab W hC hB hdep
           obtain ⟨xg, (qg : xg = .bool true), eg⟩ := hdep 11 77 (by kernel_rfl)
           subst qg
           exact .inr ⟨((wanted_is (g := 11) (t := 77) (b := false) (c := true) rfl rfl (by rw [hB.size]; exact Nat.le_of_ble_eq_true rfl) eg).trans rfl), rfl⟩
         refine AllOps.cons ?_ ?_
         . intro ab W hC hB hdep
           obtain ⟨xg, (qg : xg = .bool true), eg⟩ := hdep 8 74 (by kernel_rfl)
           subst qg
           refine .inl ⟨((wanted_is (g := 8) (t := 74) (b := true) (c := true) rfl rfl (by rw [hB.size]; exact Nat.le_of_ble_eq_true rfl) eg).trans rfl), ?_⟩
           obtain ⟨x0, (q0 : (isV (.bool true)) x0 W), e0⟩ := hdep 11 77 (by kernel_rfl)
           obtain rfl : x0 = .bool true := q0
           obtain ⟨x1, (q1 : (isV undef) x1 W), e1⟩ := hdep 18 84 (by kernel_rfl)
           obtain rfl : x1 = undef := q1
           clear hB hdep
           refine goes_value (v := .bool true) ?_ hC rfl
           simp only [execOp, Act.eval, e0, e1]
           go_simp
         refine AllOps.cons ?_ ?_
         . intro ab W hC hB hdep
           refine .inl ⟨rfl, ?_⟩
           obtain ⟨x0, (q0 : (isV (.bool true)) x0 W), e0⟩ := hdep 8 74 (by kernel_rfl)
           obtain rfl : x0 = .bool true := q0
           obtain ⟨x1, (q1 : (isV (.bool true)) x1 W), e1⟩ := hdep 19 85 (by kernel_rfl)
           obtain rfl : x1 = .bool true := q1
           clear hB hdep
           refine goes_value (v := .bool true) ?_ hC rfl
           simp only [execOp, Act.eval, e0, e1]
           go_simp
         refine AllOps.cons ?_ ?_
         . intro ab W hC hB hdep
           refine .inl ⟨rfl, ?_⟩
           obtain ⟨x0, (q0 : (isV (.bool true)) x0 W), e0⟩ := hdep 20 86 (by kernel_rfl)
           obtain rfl : x0 = .bool true := q0
           clear hB hdep
           refine goes_value (v := .bool true) ?_ hC rfl
           simp only [execOp, Act.eval, e0]
           go_simp
         exact trivial
       . intro aa wC3 hC hB hall
         obtain ⟨v0, (k0 : v0 = .agg #[.int .i64 o_kx, .string o_tx, .bool o_nx, .slice o_xo o_xn o_xc, .slice o_yo o_yn o_yc, .int .i64 o_ax, .slice o_po o_pn o_pc, .slice o_qo o_qn o_qc]), e0⟩ := hall 0 _ rfl
         obtain ⟨v1, (k1 : v1 = .agg #[.int .i64 kx, .string tx, .bool nx, .slice xo xn xc, .slice yo yn yc, .int .i64 ax, .slice po pn pc, .slice qo qn qc]), e1⟩ := hall 1 _ rfl
         obtain ⟨v2, (k2 : v2 = .bool true), e2⟩ := hall 2 _ rfl
         obtain ⟨v3, (k3 : v3 = .bool true), e3⟩ := hall 3 _ rfl
         obtain ⟨v4, (k4 : v4 = .agg #[.int .i64 kx, .string tx, .bool nx, .slice xo xn xc, .slice yo yn yc, .int .i64 ax, .slice po pn pc, .slice qo qn qc]), e4⟩ := hall 4 _ rfl
         obtain ⟨v5, (k5 : v5 = .agg #[.int .i64 f_kx, .string f_tx, .bool f_nx, .slice f_xo f_xn f_xc, .slice f_yo f_yn f_yc, .int .i64 f_ax, .slice f_po f_pn f_pc, .slice f_qo f_qn f_qc]), e5⟩ := hall 5 _ rfl
         obtain ⟨v6, (k6 : v6 = .bool true), e6⟩ := hall 6 _ rfl
         obtain ⟨v7, (k7 : v7 = .bool true), e7⟩ := hall 7 _ rfl
         obtain ⟨v8, (k8 : v8 = .bool true), e8⟩ := hall 8 _ rfl
         obtain ⟨v9, (k9 : v9 = .int .i64 er), e9⟩ := hall 9 _ rfl
         obtain ⟨v10, (k10 : v10 = .bool true), e10⟩ := hall 10 _ rfl
         obtain ⟨v11, (k11 : v11 = .bool true), e11⟩ := hall 11 _ rfl
         obtain ⟨v12, (k12 : v12 = undef), e12⟩ := hall 12 _ rfl
         obtain ⟨v13, (k13 : v13 = undef), e13⟩ := hall 13 _ rfl
         obtain ⟨v14, (k14 : v14 = undef), e14⟩ := hall 14 _ rfl
         obtain ⟨v15, (k15 : v15 = undef), e15⟩ := hall 15 _ rfl
         obtain ⟨v16, (k16 : v16 = undef), e16⟩ := hall 16 _ rfl
         obtain ⟨v17, (k17 : v17 = undef), e17⟩ := hall 17 _ rfl
         obtain ⟨v18, (k18 : v18 = undef), e18⟩ := hall 18 _ rfl
         obtain ⟨v19, (k19 : v19 = .bool true), e19⟩ := hall 19 _ rfl
         obtain ⟨v20, (k20 : v20 = .bool true), e20⟩ := hall 20 _ rfl
         obtain ⟨v21, (k21 : v21 = .bool true), e21⟩ := hall 21 _ rfl
         subst k0 k1 k2 k3 k4 k5 k6 k7 k8 k9 k10 k11 k12 k13 k14 k15 k16 k17 k18 k19 k20 k21
         have hv : ∀ pq ∈ [((66 : Nat), (.agg #[.int .i64 o_kx, .string o_tx, .bool o_nx, .slice o_xo o_xn o_xc, .slice o_yo o_yn o_yc, .int .i64 o_ax, .slice o_po o_pn o_pc, .slice o_qo o_qn o_qc] : Value)), ((67 : Nat), (.agg #[.int .i64 kx, .string tx, .bool nx, .slice xo xn xc, .slice yo yn yc, .int .i64 ax, .slice po pn pc, .slice qo qn qc] : Value)), ((68 : Nat), (.bool true : Value)), ((69 : Nat), (.bool true : Value)), ((70 : Nat), (.agg #[.int .i64 kx, .string tx, .bool nx, .slice xo xn xc, .slice yo yn yc, .int .i64 ax, .slice po pn pc, .slice qo qn qc] : Value)), ((71 : Nat), (.agg #[.int .i64 f_kx, .string f_tx, .bool f_nx, .slice f_xo f_xn f_xc, .slice f_yo f_yn f_yc, .int .i64 f_ax, .slice f_po f_pn f_pc, .slice f_qo f_qn f_qc] : Value)), ((72 : Nat), (.bool true : Value)), ((73 : Nat), (.bool true : Value)), ((74 : Nat), (.bool true : Value)), ((75 : Nat), (.int .i64 er : Value)), ((76 : Nat), (.bool true : Value)), ((77 : Nat), (.bool true : Value)), ((78 : Nat), (undef : Value)), ((79 : Nat), (undef : Value)), ((80 : Nat), (undef : Value)), ((81 : Nat), (undef : Value)), ((82 : Nat), (undef : Value)), ((83 : Nat), (undef : Value)), ((84 : Nat), (undef : Value)), ((85 : Nat), (.bool true : Value)), ((86 : Nat), (.bool true : Value)), ((6 : Nat), (.bool true : Value))], aa.tmps.getD pq.1 undef = pq.2 := by
          intro pq hp
          simp only [List.mem_cons, List.not_mem_nil, or_false] at hp
          rcases hp with rfl | rfl | rfl | rfl | rfl | rfl | rfl | rfl | rfl | rfl | rfl | rfl | rfl | rfl | rfl | rfl | rfl | rfl | rfl | rfl | rfl | rfl
          . exact e0 _ rfl
          . exact e1 _ rfl
          . exact e2 _ rfl
          . exact e3 _ rfl
          . exact e4 _ rfl
          . exact e5 _ rfl
          . exact e6 _ rfl
          . exact e7 _ rfl
          . exact e8 _ rfl
          . exact e9 _ rfl
          . exact e10 _ rfl
          . exact e11 _ rfl
          . exact e12 _ rfl
          . exact e13 _ rfl
          . exact e14 _ rfl
          . exact e15 _ rfl
          . exact e16 _ rfl
          . exact e17 _ rfl
          . exact e18 _ rfl
          . exact e19 _ rfl
          . exact e20 _ rfl
          . exact e21 _ rfl
         have hact := act_fold _ hB hv (by kernel_rfl)
         subst hact
         clear hv hall hB e0 e1 e2 e3 e4 e5 e6 e7 e8 e9 e10 e11 e12 e13 e14 e15 e16 e17 e18 e19 e20 e21
         refine (‹∀ (a : Act) (w : World), Code.wp Tryz.prog _ _ a w → _›) _ wC3 ?_
         simp only [List.foldl, List.setIfInBounds_toArray, List.set_cons_succ, List.set_cons_zero]
         clear HLN
         have HB23 := Lib.hid (HB22.out.trans (hC.mono HB22.out.size))
         have RX23 := Lib.hid ((hC.block _ (Array.getElem?_eq_some_iff.1 RX22.out).1).trans RX22.out)
         have RY23 := Lib.hid ((hC.block _ (Array.getElem?_eq_some_iff.1 RY22.out).1).trans RY22.out)
         have RO23 := Lib.hid ((hC.block _ (Array.getElem?_eq_some_iff.1 RO22.out).1).trans RO22.out)
         have RF23 := Lib.hid ((hC.block _ (Array.getElem?_eq_some_iff.1 RF22.out).1).trans RF22.out)
         have RP23 := Lib.hid ((hC.block _ (Array.getElem?_eq_some_iff.1 RP22.out).1).trans RP22.out)
         have FO23 := Lib.hid (FO22.out.keep hC)
         have FF23 := Lib.hid (FF22.out.keep hC)
         have FM23 := Lib.hid (FM22.out.below hC)
         have FP23 := Lib.hid (FP22.out.keep hC)
         clear RX22 RY22 RO22 RF22 RP22 FO22 FF22 FM22 FP22
         clear hC
         go_wp2_with fail
         go_ret
         exact ⟨rfl, HB23.out⟩
      subst hz1
      refine wp_region_slotsG (psi [isV (.agg #[.int .i64 o_kx, .string o_tx, .bool o_nx, .slice o_xo o_xn o_xc, .slice o_yo o_yn o_yc, .int .i64 o_ax, .slice o_po o_pn o_pc, .slice o_qo o_qn o_qc]), isV (.agg #[.int .i64 kx, .string tx, .bool nx, .slice xo xn xc, .slice yo yn yc, .int .i64 ax, .slice po pn pc, .slice qo qn qc]), isV (.bool true), isV (.bool true), isV (.agg #[.int .i64 kx, .string tx, .bool nx, .slice xo xn xc, .slice yo yn yc, .int .i64 ax, .slice po pn pc, .slice qo qn qc]), isV (.agg #[.int .i64 f_kx, .string f_tx, .bool f_nx, .slice f_xo f_xn f_xc, .slice f_yo f_yn f_yc, .int .i64 f_ax, .slice f_po f_pn f_pc, .slice f_qo f_qn f_qc]), isV (.bool true), isV (.bool true), isV (.bool true), isV (.int .i64 0), isV (.bool false), isV (.bool false), isV (.agg #[.int .i64 p_kx, .string p_tx, .bool p_nx, .slice p_xo p_xn p_xc, .slice p_yo p_yn p_yc, .int .i64 p_ax, .slice p_po p_pn p_pc, .slice p_qo p_qn p_qc]), isV (.agg #[.int .i64 kx, .string tx, .bool nx, .slice xo xn xc, .slice yo yn yc, .int .i64 ax, .slice po pn pc, .slice qo qn qc]), isV (.bool (!sy)), isV (.agg #[.int .i64 kx, .string tx, .bool nx, .slice xo xn xc, .slice yo yn yc, .int .i64 ax, .slice po pn pc, .slice qo qn qc]), isV (.bool sy), isV (.bool (!sy)), isV (.bool true), isV (.bool true), isV (.bool true), isV (.bool true)]) (fun W => Below w16.heap.size w16 W) (by kernel_rfl) (Below.refl _ _).drew (psi_mono ?_) (by kernel_rfl) (by kernel_rfl) ?_ ?_
      . intro pq hp
        simp only [List.mem_cons, List.not_mem_nil, or_false] at hp
        (repeat' rcases hp with rfl | hp) <;> first | exact isV_stays _ | (subst hp; exact isV_stays _)
      . refine AllOps.cons ?_ ?_
        . intro ab W hC hB hdep
          refine .inl ⟨rfl, ?_⟩
          have b0 : ab.tmps.getD 7 undef = .pointer (some ⟨bkO, 0, none⟩) := hB.off 7 (by kernel_rfl)
          obtain ⟨c0, c1, c2, c3, c4, c5, c6, c7⟩ := rowS8 ((hC.block _ HLN.out.2.1).trans RO22.out)
          clear hB hdep
          refine goes_value (v := .agg #[.int .i64 o_kx, .string o_tx, .bool o_nx, .slice o_xo o_xn o_xc, .slice o_yo o_yn o_yc, .int .i64 o_ax, .slice o_po o_pn o_pc, .slice o_qo o_qn o_qc]) ?_ hC rfl
          simp only [execOp, Act.eval, b0]
          go_simp
        refine AllOps.cons ?_ ?_
        . intro ab W hC hB hdep
          refine .inl ⟨rfl, ?_⟩
          have b0 : ab.tmps.getD 3 undef = .pointer (some ⟨w.heap.size, 0, none⟩) := hB.off 3 (by kernel_rfl)
          obtain ⟨c0, c1, c2, c3, c4, c5, c6, c7⟩ := rowS8 ((hC.block _ HLN.out.1).trans RX22.out)
          clear hB hdep
          refine goes_value (v := .agg #[.int .i64 kx, .string tx, .bool nx, .slice xo xn xc, .slice yo yn yc, .int .i64 ax, .slice po pn pc, .slice qo qn qc]) ?_ hC rfl
          simp only [execOp, Act.eval, b0]
          go_simp
        refine AllOps.cons ?_ ?_
        . intro ab W hC hB hdep
          refine .inl ⟨rfl, ?_⟩
          obtain ⟨x0, (q0 : (isV (.agg #[.int .i64 o_kx, .string o_tx, .bool o_nx, .slice o_xo o_xn o_xc, .slice o_yo o_yn o_yc, .int .i64 o_ax, .slice o_po o_pn o_pc, .slice o_qo o_qn o_qc])) x0 W), e0⟩ := hdep 0 66 (by kernel_rfl)
          obtain rfl : x0 = .agg #[.int .i64 o_kx, .string o_tx, .bool o_nx, .slice o_xo o_xn o_xc, .slice o_yo o_yn o_yc, .int .i64 o_ax, .slice o_po o_pn o_pc, .slice o_qo o_qn o_qc] := q0
          obtain ⟨x1, (q1 : (isV (.agg #[.int .i64 kx, .string tx, .bool nx, .slice xo xn xc, .slice yo yn yc, .int .i64 ax, .slice po pn pc, .slice qo qn qc])) x1 W), e1⟩ := hdep 1 67 (by kernel_rfl)
          obtain rfl : x1 = .agg #[.int .i64 kx, .string tx, .bool nx, .slice xo xn xc, .slice yo yn yc, .int .i64 ax, .slice po pn pc, .slice qo qn qc] := q1
          clear hB hdep
          refine goes_call (f := 31) (args := #[.agg #[.int .i64 o_kx, .string o_tx, .bool o_nx, .slice o_xo o_xn o_xc, .slice o_yo o_yn o_yc, .int .i64 o_ax, .slice o_po o_pn o_pc, .slice o_qo o_qn o_qc], .agg #[.int .i64 kx, .string tx, .bool nx, .slice xo xn xc, .slice yo yn yc, .int .i64 ax, .slice po pn pc, .slice qo qn qc]]) ?_ ?_
          . simp only [execOp]
            go_simp
          . exact (xsame_any (opnR D) D _ _ W (FO22.out.keep hC) (HD.out.keep (HB22.out.trans (hC.mono HB22.out.size))) (opnR_sms HSM.out.1 (by omega)) HSM.out.1 (HT.out.below (HB22.out.trans (hC.mono HB22.out.size)) (Nat.le_refl _))).mono fun e w7 ⟨he, hb⟩ => ⟨_, he, hC.trans (hb.mono hC.size), hb, by show Value.bool _ = _; rw [sam_opn HS1.out]⟩
        refine AllOps.cons ?_ ?_
        . intro ab W hC hB hdep
          refine .inl ⟨rfl, ?_⟩
          obtain ⟨x0, (q0 : (isV (.bool true)) x0 W), e0⟩ := hdep 2 68 (by kernel_rfl)
          obtain rfl : x0 = .bool true := q0
          clear hB hdep
          refine goes_value (v := .bool true) ?_ hC rfl
          simp only [execOp, Act.eval, e0]
          go_simp
        refine AllOps.cons ?_ ?_
        . intro ab W hC hB hdep
          obtain ⟨xg, (qg : xg = .bool true), eg⟩ := hdep 3 69 (by kernel_rfl)
          subst qg
          refine .inl ⟨((wanted_is (g := 3) (t := 69) (b := true) (c := true) rfl rfl (by rw [hB.size]; exact Nat.le_of_ble_eq_true rfl) eg).trans rfl), ?_⟩
          have b0 : ab.tmps.getD 3 undef = .pointer (some ⟨w.heap.size, 0, none⟩) := hB.off 3 (by kernel_rfl)
          obtain ⟨c0, c1, c2, c3, c4, c5, c6, c7⟩ := rowS8 ((hC.block _ HLN.out.1).trans RX22.out)
          clear hB hdep
          refine goes_value (v := .agg #[.int .i64 kx, .string tx, .bool nx, .slice xo xn xc, .slice yo yn yc, .int .i64 ax, .slice po pn pc, .slice qo qn qc]) ?_ hC rfl
          simp only [execOp, Act.eval, b0]
          go_simp
        refine AllOps.cons ?_ ?_
        . intro ab W hC hB hdep
          obtain ⟨xg, (qg : xg = .bool true), eg⟩ := hdep 3 69 (by kernel_rfl)
          subst qg
          refine .inl ⟨((wanted_is (g := 3) (t := 69) (b := true) (c := true) rfl rfl (by rw [hB.size]; exact Nat.le_of_ble_eq_true rfl) eg).trans rfl), ?_⟩
          have b0 : ab.tmps.getD 9 undef = .pointer (some ⟨bkF, 0, none⟩) := hB.off 9 (by kernel_rfl)
          obtain ⟨c0, c1, c2, c3, c4, c5, c6, c7⟩ := rowS8 ((hC.block _ HLN.out.2.2.1).trans RF22.out)
          clear hB hdep
          refine goes_value (v := .agg #[.int .i64 f_kx, .string f_tx, .bool f_nx, .slice f_xo f_xn f_xc, .slice f_yo f_yn f_yc, .int .i64 f_ax, .slice f_po f_pn f_pc, .slice f_qo f_qn f_qc]) ?_ hC rfl
          simp only [execOp, Act.eval, b0]
          go_simp
        refine AllOps.cons ?_ ?_
        . intro ab W hC hB hdep
          obtain ⟨xg, (qg : xg = .bool true), eg⟩ := hdep 3 69 (by kernel_rfl)
          subst qg
          refine .inl ⟨((wanted_is (g := 3) (t := 69) (b := true) (c := true) rfl rfl (by rw [hB.size]; exact Nat.le_of_ble_eq_true rfl) eg).trans rfl), ?_⟩
          obtain ⟨x0, (q0 : (isV (.agg #[.int .i64 kx, .string tx, .bool nx, .slice xo xn xc, .slice yo yn yc, .int .i64 ax, .slice po pn pc, .slice qo qn qc])) x0 W), e0⟩ := hdep 4 70 (by kernel_rfl)
          obtain rfl : x0 = .agg #[.int .i64 kx, .string tx, .bool nx, .slice xo xn xc, .slice yo yn yc, .int .i64 ax, .slice po pn pc, .slice qo qn qc] := q0
          obtain ⟨x1, (q1 : (isV (.agg #[.int .i64 f_kx, .string f_tx, .bool f_nx, .slice f_xo f_xn f_xc, .slice f_yo f_yn f_yc, .int .i64 f_ax, .slice f_po f_pn f_pc, .slice f_qo f_qn f_qc])) x1 W), e1⟩ := hdep 5 71 (by kernel_rfl)
          obtain rfl : x1 = .agg #[.int .i64 f_kx, .string f_tx, .bool f_nx, .slice f_xo f_xn f_xc, .slice f_yo f_yn f_yc, .int .i64 f_ax, .slice f_po f_pn f_pc, .slice f_qo f_qn f_qc] := q1
          clear hB hdep
          refine goes_call (f := 31) (args := #[.agg #[.int .i64 kx, .string tx, .bool nx, .slice xo xn xc, .slice yo yn yc, .int .i64 ax, .slice po pn pc, .slice qo qn qc], .agg #[.int .i64 f_kx, .string f_tx, .bool f_nx, .slice f_xo f_xn f_xc, .slice f_yo f_yn f_yc, .int .i64 f_ax, .slice f_po f_pn f_pc, .slice f_qo f_qn f_qc]]) ?_ ?_
          . simp only [execOp]
            go_simp
          . exact (xsame_any D (fltR D) _ _ W (HD.out.keep (HB22.out.trans (hC.mono HB22.out.size))) (FF22.out.keep hC) HSM.out.1 (fltR_sms HSM.out.1 (by omega)) (HT.out.below (HB22.out.trans (hC.mono HB22.out.size)) (Nat.le_refl _))).mono fun e w7 ⟨he, hb⟩ => ⟨_, he, hC.trans (hb.mono hC.size), hb, by show Value.bool _ = _; rw [sam_flt HS1.out]⟩
        refine AllOps.cons ?_ ?_
        . intro ab W hC hB hdep
          refine .inl ⟨rfl, ?_⟩
          obtain ⟨x0, (q0 : (isV (.bool true)) x0 W), e0⟩ := hdep 3 69 (by kernel_rfl)
          obtain rfl : x0 = .bool true := q0
          obtain ⟨x1, (q1 : (isV (.bool true)) x1 W), e1⟩ := hdep 6 72 (by kernel_rfl)
          obtain rfl : x1 = .bool true := q1
          clear hB hdep
          refine goes_value (v := .bool true) ?_ hC rfl
          simp only [execOp, Act.eval, e0, e1]
          go_simp
        refine AllOps.cons ?_ ?_
        . intro ab W hC hB hdep
          refine .inl ⟨rfl, ?_⟩
          obtain ⟨x0, (q0 : (isV (.bool true)) x0 W), e0⟩ := hdep 7 73 (by kernel_rfl)
          obtain rfl : x0 = .bool true := q0
          clear hB hdep
          refine goes_value (v := .bool true) ?_ hC rfl
          simp only [execOp, Act.eval, e0]
          go_simp
        refine AllOps.cons ?_ ?_
        . intro ab W hC hB hdep
          obtain ⟨xg, (qg : xg = .bool true), eg⟩ := hdep 8 74 (by kernel_rfl)
          subst qg
          refine .inl ⟨((wanted_is (g := 8) (t := 74) (b := true) (c := true) rfl rfl (by rw [hB.size]; exact Nat.le_of_ble_eq_true rfl) eg).trans rfl), ?_⟩
          have b0 : ab.tmps.getD 12 undef = .int .i64 0 := hB.off 12 (by kernel_rfl)
          clear hB hdep
          refine goes_value (v := .int .i64 0) ?_ hC rfl
          simp only [execOp, Act.eval, b0]
          go_simp
        refine AllOps.cons ?_ ?_
        . intro ab W hC hB hdep
          obtain ⟨xg, (qg : xg = .bool true), eg⟩ := hdep 8 74 (by kernel_rfl)
          subst qg
          refine .inl ⟨((wanted_is (g := 8) (t := 74) (b := true) (c := true) rfl rfl (by rw [hB.size]; exact Nat.le_of_ble_eq_true rfl) eg).trans rfl), ?_⟩
          obtain ⟨x0, (q0 : (isV (.int .i64 0)) x0 W), e0⟩ := hdep 9 75 (by kernel_rfl)
          obtain rfl : x0 = .int .i64 0 := q0
          clear hB hdep
          refine goes_value (v := .bool false) ?_ hC rfl
          simp only [execOp, Act.eval, e0]
          go_simp
        refine AllOps.cons ?_ ?_
        . intro ab W hC hB hdep
          obtain ⟨xg, (qg : xg = .bool true), eg⟩ := hdep 8 74 (by kernel_rfl)
          subst qg
          refine .inl ⟨((wanted_is (g := 8) (t := 74) (b := true) (c := true) rfl rfl (by rw [hB.size]; exact Nat.le_of_ble_eq_true rfl) eg).trans rfl), ?_⟩
          obtain ⟨x0, (q0 : (isV (.bool false)) x0 W), e0⟩ := hdep 10 76 (by kernel_rfl)
          obtain rfl : x0 = .bool false := q0
          clear hB hdep
          refine goes_value (v := .bool false) ?_ hC rfl
          simp only [execOp, Act.eval, e0]
          go_simp
        refine AllOps.cons ?_ ?_
        . intro ab W hC hB hdep
          obtain ⟨xg, (qg : xg = .bool false), eg⟩ := hdep 11 77 (by kernel_rfl)
          subst qg
          refine .inl ⟨((wanted_is (g := 11) (t := 77) (b := false) (c := false) rfl rfl (by rw [hB.size]; exact Nat.le_of_ble_eq_true rfl) eg).trans rfl), ?_⟩
          have b0 : ab.tmps.getD 11 undef = .pointer (some ⟨bkP, 0, none⟩) := hB.off 11 (by kernel_rfl)
          obtain ⟨c0, c1, c2, c3, c4, c5, c6, c7⟩ := rowS8 ((hC.block _ HLN.out.2.2.2).trans RP22.out)
          clear hB hdep
          refine goes_value (v := .agg #[.int .i64 p_kx, .string p_tx, .bool p_nx, .slice p_xo p_xn p_xc, .slice p_yo p_yn p_yc, .int .i64 p_ax, .slice p_po p_pn p_pc, .slice p_qo p_qn p_qc]) ?_ hC rfl
          simp only [execOp, Act.eval, b0]
          go_simp
        refine AllOps.cons ?_ ?_
        . intro ab W hC hB hdep
          obtain ⟨xg, (qg : xg = .bool false), eg⟩ := hdep 11 77 (by kernel_rfl)
          subst qg
          refine .inl ⟨((wanted_is (g := 11) (t := 77) (b := false) (c := false) rfl rfl (by rw [hB.size]; exact Nat.le_of_ble_eq_true rfl) eg).trans rfl), ?_⟩
          have b0 : ab.tmps.getD 3 undef = .pointer (some ⟨w.heap.size, 0, none⟩) := hB.off 3 (by kernel_rfl)
          obtain ⟨c0, c1, c2, c3, c4, c5, c6, c7⟩ := rowS8 ((hC.block _ HLN.out.1).trans RX22.out)
          clear hB hdep
          refine goes_value (v := .agg #[.int .i64 kx, .string tx, .bool nx, .slice xo xn xc, .slice yo yn yc, .int .i64 ax, .slice po pn pc, .slice qo qn qc]) ?_ hC rfl
          simp only [execOp, Act.eval, b0]
          go_simp
        refine AllOps.cons ?_ ?_
        . intro ab W hC hB hdep
          obtain ⟨xg, (qg : xg = .bool false), eg⟩ := hdep 11 77 (by kernel_rfl)
          subst qg
          refine .inl ⟨((wanted_is (g := 11) (t := 77) (b := false) (c := false) rfl rfl (by rw [hB.size]; exact Nat.le_of_ble_eq_true rfl) eg).trans rfl), ?_⟩
          obtain ⟨x0, (q0 : (isV (.agg #[.int .i64 p_kx, .string p_tx, .bool p_nx, .slice p_xo p_xn p_xc, .slice p_yo p_yn p_yc, .int .i64 p_ax, .slice p_po p_pn p_pc, .slice p_qo p_qn p_qc])) x0 W), e0⟩ := hdep 12 78 (by kernel_rfl)
          obtain rfl : x0 = .agg #[.int .i64 p_kx, .string p_tx, .bool p_nx, .slice p_xo p_xn p_xc, .slice p_yo p_yn p_yc, .int .i64 p_ax, .slice p_po p_pn p_pc, .slice p_qo p_qn p_qc] := q0
          obtain ⟨x1, (q1 : (isV (.agg #[.int .i64 kx, .string tx, .bool nx, .slice xo xn xc, .slice yo yn yc, .int .i64 ax, .slice po pn pc, .slice qo qn qc])) x1 W), e1⟩ := hdep 13 79 (by kernel_rfl)
          obtain rfl : x1 = .agg #[.int .i64 kx, .string tx, .bool nx, .slice xo xn xc, .slice yo yn yc, .int .i64 ax, .slice po pn pc, .slice qo qn qc] := q1
          clear hB hdep
          refine goes_call (f := 31) (args := #[.agg #[.int .i64 p_kx, .string p_tx, .bool p_nx, .slice p_xo p_xn p_xc, .slice p_yo p_yn p_yc, .int .i64 p_ax, .slice p_po p_pn p_pc, .slice p_qo p_qn p_qc], .agg #[.int .i64 kx, .string tx, .bool nx, .slice xo xn xc, .slice yo yn yc, .int .i64 ax, .slice po pn pc, .slice qo qn qc]]) ?_ ?_
          . simp only [execOp]
            go_simp
          . exact (xsame_any (pshR (mrkA (z + 1)).1 (mrkA (z + 1)).2 D) D _ _ W (FP22.out.keep hC) (HD.out.keep (HB22.out.trans (hC.mono HB22.out.size))) (pshR_sms HSM.out.1 (by omega)) HSM.out.1 (HT.out.below (HB22.out.trans (hC.mono HB22.out.size)) (Nat.le_refl _))).mono fun e w7 ⟨he, hb⟩ => ⟨_, he, hC.trans (hb.mono hC.size), hb, by show Value.bool _ = _; rw [sam_mark HZ.out.1 HZ.out.2 HS1.out HER.out, HSY.out]⟩
        refine AllOps.cons ?_ ?_
        . intro ab W hC hB hdep
          obtain ⟨xg, (qg : xg = .bool false), eg⟩ := hdep 11 77 (by kernel_rfl)
          subst qg
          refine .inl ⟨((wanted_is (g := 11) (t := 77) (b := false) (c := false) rfl rfl (by rw [hB.size]; exact Nat.le_of_ble_eq_true rfl) eg).trans rfl), ?_⟩
          have b0 : ab.tmps.getD 3 undef = .pointer (some ⟨w.heap.size, 0, none⟩) := hB.off 3 (by kernel_rfl)
          obtain ⟨c0, c1, c2, c3, c4, c5, c6, c7⟩ := rowS8 ((hC.block _ HLN.out.1).trans RX22.out)
          clear hB hdep
          refine goes_value (v := .agg #[.int .i64 kx, .string tx, .bool nx, .slice xo xn xc, .slice yo yn yc, .int .i64 ax, .slice po pn pc, .slice qo qn qc]) ?_ hC rfl
          simp only [execOp, Act.eval, b0]
          go_simp
        refine AllOps.cons ?_ ?_
        . intro ab W hC hB hdep
          obtain ⟨xg, (qg : xg = .bool false), eg⟩ := hdep 11 77 (by kernel_rfl)
          subst qg
          refine .inl ⟨((wanted_is (g := 11) (t := 77) (b := false) (c := false) rfl rfl (by rw [hB.size]; exact Nat.le_of_ble_eq_true rfl) eg).trans rfl), ?_⟩
          obtain ⟨x0, (q0 : (isV (.agg #[.int .i64 kx, .string tx, .bool nx, .slice xo xn xc, .slice yo yn yc, .int .i64 ax, .slice po pn pc, .slice qo qn qc])) x0 W), e0⟩ := hdep 15 81 (by kernel_rfl)
          obtain rfl : x0 = .agg #[.int .i64 kx, .string tx, .bool nx, .slice xo xn xc, .slice yo yn yc, .int .i64 ax, .slice po pn pc, .slice qo qn qc] := q0
          clear hB hdep
          refine goes_call (f := 34) (args := #[.agg #[.int .i64 kx, .string tx, .bool nx, .slice xo xn xc, .slice yo yn yc, .int .i64 ax, .slice po pn pc, .slice qo qn qc]]) ?_ ?_
          . simp only [execOp]
            go_simp
          . exact (symbols_sx 100 D _ W HLX.out (HD.out.keep (HB22.out.trans (hC.mono HB22.out.size)))).mono fun e w7 ⟨he, hb⟩ => ⟨_, he, hC.trans (hb.mono hC.size), hb, by show Value.bool _ = _; rw [HSY.out]⟩
        refine AllOps.cons ?_ ?_
        . intro ab W hC hB hdep
          obtain ⟨xg, (qg : xg = .bool false), eg⟩ := hdep 11 77 (by kernel_rfl)
          subst qg
          refine .inl ⟨((wanted_is (g := 11) (t := 77) (b := false) (c := false) rfl rfl (by rw [hB.size]; exact Nat.le_of_ble_eq_true rfl) eg).trans rfl), ?_⟩
          obtain ⟨x0, (q0 : (isV (.bool sy)) x0 W), e0⟩ := hdep 16 82 (by kernel_rfl)
          obtain rfl : x0 = .bool sy := q0
          clear hB hdep
          refine goes_value (v := .bool (!sy)) ?_ hC rfl
          simp only [execOp, Act.eval, e0]
          go_simp
        refine AllOps.cons ?_ ?_
        . intro ab W hC hB hdep
          obtain ⟨xg, (qg : xg = .bool false), eg⟩ := hdep 11 77 (by kernel_rfl)
          subst qg
          refine .inl ⟨((wanted_is (g := 11) (t := 77) (b := false) (c := false) rfl rfl (by rw [hB.size]; exact Nat.le_of_ble_eq_true rfl) eg).trans rfl), ?_⟩
          obtain ⟨x0, (q0 : (isV (.bool (!sy))) x0 W), e0⟩ := hdep 14 80 (by kernel_rfl)
          obtain rfl : x0 = .bool (!sy) := q0
          obtain ⟨x1, (q1 : (isV (.bool (!sy))) x1 W), e1⟩ := hdep 17 83 (by kernel_rfl)
          obtain rfl : x1 = .bool (!sy) := q1
          clear hB hdep
          refine goes_value (v := .bool true) ?_ hC rfl
          simp only [execOp, Act.eval, e0, e1]
          go_simp
        refine AllOps.cons ?_ ?_
        . intro ab W hC hB hdep
          obtain ⟨xg, (qg : xg = .bool true), eg⟩ := hdep 8 74 (by kernel_rfl)
          subst qg
          refine .inl ⟨((wanted_is (g := 8) (t := 74) (b := true) (c := true) rfl rfl (by rw [hB.size]; exact Nat.le_of_ble_eq_true rfl) eg).trans rfl), ?_⟩
          obtain ⟨x0, (q0 : (isV (.bool false)) x0 W), e0⟩ := hdep 11 77 (by kernel_rfl)
          obtain rfl : x0 = .bool false := q0
          obtain ⟨x1, (q1 : (isV (.bool true)) x1 W), e1⟩ := hdep 18 84 (by kernel_rfl)
          obtain rfl : x1 = .bool true := q1
          clear hB hdep
          refine goes_value (v := .bool true) ?_ hC rfl
          simp only [execOp, Act.eval, e0, e1]
          go_simp
        refine AllOps.cons ?_ ?_
        . intro ab W hC hB hdep
          refine .inl ⟨rfl, ?_⟩
          obtain ⟨x0, (q0 : (isV (.bool true)) x0 W), e0⟩ := hdep 8 74 (by kernel_rfl)
          obtain rfl : x0 = .bool true := q0
          obtain ⟨x1, (q1 : (isV (.bool true)) x1 W), e1⟩ := hdep 19 85 (by kernel_rfl)
          obtain rfl : x1 = .bool true := q1
          clear hB hdep
          refine goes_value (v := .bool true) ?_ hC rfl
          simp only [execOp, Act.eval, e0, e1]
          go_simp
        refine AllOps.cons ?_ ?_
        . intro ab W hC hB hdep
          refine .inl ⟨rfl, ?_⟩
          obtain ⟨x0, (q0 : (isV (.bool true)) x0 W), e0⟩ := hdep 20 86 (by kernel_rfl)
          obtain rfl : x0 = .bool true := q0
          clear hB hdep
          refine goes_value (v := .bool true) ?_ hC rfl
          simp only [execOp, Act.eval, e0]
          go_simp
        exact trivial
      . intro aa wC4 hC hB hall
        obtain ⟨v0, (k0 : v0 = .agg #[.int .i64 o_kx, .string o_tx, .bool o_nx, .slice o_xo o_xn o_xc, .slice o_yo o_yn o_yc, .int .i64 o_ax, .slice o_po o_pn o_pc, .slice o_qo o_qn o_qc]), e0⟩ := hall 0 _ rfl
        obtain ⟨v1, (k1 : v1 = .agg #[.int .i64 kx, .string tx, .bool nx, .slice xo xn xc, .slice yo yn yc, .int .i64 ax, .slice po pn pc, .slice qo qn qc]), e1⟩ := hall 1 _ rfl
        obtain ⟨v2, (k2 : v2 = .bool true), e2⟩ := hall 2 _ rfl
        obtain ⟨v3, (k3 : v3 = .bool true), e3⟩ := hall 3 _ rfl
        obtain ⟨v4, (k4 : v4 = .agg #[.int .i64 kx, .string tx, .bool nx, .slice xo xn xc, .slice yo yn yc, .int .i64 ax, .slice po pn pc, .slice qo qn qc]), e4⟩ := hall 4 _ rfl
        obtain ⟨v5, (k5 : v5 = .agg #[.int .i64 f_kx, .string f_tx, .bool f_nx, .slice f_xo f_xn f_xc, .slice f_yo f_yn f_yc, .int .i64 f_ax, .slice f_po f_pn f_pc, .slice f_qo f_qn f_qc]), e5⟩ := hall 5 _ rfl
        obtain ⟨v6, (k6 : v6 = .bool true), e6⟩ := hall 6 _ rfl
        obtain ⟨v7, (k7 : v7 = .bool true), e7⟩ := hall 7 _ rfl
        obtain ⟨v8, (k8 : v8 = .bool true), e8⟩ := hall 8 _ rfl
        obtain ⟨v9, (k9 : v9 = .int .i64 0), e9⟩ := hall 9 _ rfl
        obtain ⟨v10, (k10 : v10 = .bool false), e10⟩ := hall 10 _ rfl
        obtain ⟨v11, (k11 : v11 = .bool false), e11⟩ := hall 11 _ rfl
        obtain ⟨v12, (k12 : v12 = .agg #[.int .i64 p_kx, .string p_tx, .bool p_nx, .slice p_xo p_xn p_xc, .slice p_yo p_yn p_yc, .int .i64 p_ax, .slice p_po p_pn p_pc, .slice p_qo p_qn p_qc]), e12⟩ := hall 12 _ rfl
        obtain ⟨v13, (k13 : v13 = .agg #[.int .i64 kx, .string tx, .bool nx, .slice xo xn xc, .slice yo yn yc, .int .i64 ax, .slice po pn pc, .slice qo qn qc]), e13⟩ := hall 13 _ rfl
        obtain ⟨v14, (k14 : v14 = .bool (!sy)), e14⟩ := hall 14 _ rfl
        obtain ⟨v15, (k15 : v15 = .agg #[.int .i64 kx, .string tx, .bool nx, .slice xo xn xc, .slice yo yn yc, .int .i64 ax, .slice po pn pc, .slice qo qn qc]), e15⟩ := hall 15 _ rfl
        obtain ⟨v16, (k16 : v16 = .bool sy), e16⟩ := hall 16 _ rfl
        obtain ⟨v17, (k17 : v17 = .bool (!sy)), e17⟩ := hall 17 _ rfl
        obtain ⟨v18, (k18 : v18 = .bool true), e18⟩ := hall 18 _ rfl
        obtain ⟨v19, (k19 : v19 = .bool true), e19⟩ := hall 19 _ rfl
        obtain ⟨v20, (k20 : v20 = .bool true), e20⟩ := hall 20 _ rfl
        obtain ⟨v21, (k21 : v21 = .bool true), e21⟩ := hall 21 _ rfl
        subst k0 k1 k2 k3 k4 k5 k6 k7 k8 k9 k10 k11 k12 k13 k14 k15 k16 k17 k18 k19 k20 k21
        have hv : ∀ pq ∈ [((66 : Nat), (.agg #[.int .i64 o_kx, .string o_tx, .bool o_nx, .slice o_xo o_xn o_xc, .slice o_yo o_yn o_yc, .int .i64 o_ax, .slice o_po o_pn o_pc, .slice o_qo o_qn o_qc] : Value)), ((67 : Nat), (.agg #[.int .i64 kx, .string tx, .bool nx, .slice xo xn xc, .slice yo yn yc, .int .i64 ax, .slice po pn pc, .slice qo qn qc] : Value)), ((68 : Nat), (.bool true : Value)), ((69 : Nat), (.bool true : Value)), ((70 : Nat), (.agg #[.int .i64 kx, .string tx, .bool nx, .slice xo xn xc, .slice yo yn yc, .int .i64 ax, .slice po pn pc, .slice qo qn qc] : Value)), ((71 : Nat), (.agg #[.int .i64 f_kx, .string f_tx, .bool f_nx, .slice f_xo f_xn f_xc, .slice f_yo f_yn f_yc, .int .i64 f_ax, .slice f_po f_pn f_pc, .slice f_qo f_qn f_qc] : Value)), ((72 : Nat), (.bool true : Value)), ((73 : Nat), (.bool true : Value)), ((74 : Nat), (.bool true : Value)), ((75 : Nat), (.int .i64 0 : Value)), ((76 : Nat), (.bool false : Value)), ((77 : Nat), (.bool false : Value)), ((78 : Nat), (.agg #[.int .i64 p_kx, .string p_tx, .bool p_nx, .slice p_xo p_xn p_xc, .slice p_yo p_yn p_yc, .int .i64 p_ax, .slice p_po p_pn p_pc, .slice p_qo p_qn p_qc] : Value)), ((79 : Nat), (.agg #[.int .i64 kx, .string tx, .bool nx, .slice xo xn xc, .slice yo yn yc, .int .i64 ax, .slice po pn pc, .slice qo qn qc] : Value)), ((80 : Nat), (.bool (!sy) : Value)), ((81 : Nat), (.agg #[.int .i64 kx, .string tx, .bool nx, .slice xo xn xc, .slice yo yn yc, .int .i64 ax, .slice po pn pc, .slice qo qn qc] : Value)), ((82 : Nat), (.bool sy : Value)), ((83 : Nat), (.bool (!sy) : Value)), ((84 : Nat), (.bool true : Value)), ((85 : Nat), (.bool true : Value)), ((86 : Nat), (.bool true : Value)), ((6 : Nat), (.bool true : Value))], aa.tmps.getD pq.1 undef = pq.2 := by
         intro pq hp
         simp only [List.mem_cons, List.not_mem_nil, or_false] at hp
         rcases hp with rfl | rfl | rfl | rfl | rfl | rfl | rfl | rfl | rfl | rfl | rfl | rfl | rfl | rfl | rfl | rfl | rfl | rfl | rfl | rfl | rfl | rfl
         . exact e0 _ rfl
         . exact e1 _ rfl
         . exact e2 _ rfl
         . exact e3 _ rfl
         . exact e4 _ rfl
         . exact e5 _ rfl
         . exact e6 _ rfl
         . exact e7 _ rfl
         . exact e8 _ rfl
         . exact e9 _ rfl
         . exact e10 _ rfl
         . exact e11 _ rfl
         . exact e12 _ rfl
         . exact e13 _ rfl
         . exact e14 _ rfl
         . exact e15 _ rfl
         . exact e16 _ rfl
         . exact e17 _ rfl
         . exact e18 _ rfl
         . exact e19 _ rfl
         . exact e20 _ rfl
         . exact e21 _ rfl
        have hact := act_fold _ hB hv (by kernel_rfl)
        subst hact
        clear hv hall hB e0 e1 e2 e3 e4 e5 e6 e7 e8 e9 e10 e11 e12 e13 e14 e15 e16 e17 e18 e19 e20 e21
        refine (‹∀ (a : Act) (w : World), Code.wp Tryz.prog _ _ a w → _›) _ wC4 ?_
        simp only [List.foldl, List.setIfInBounds_toArray, List.set_cons_succ, List.set_cons_zero]
        clear HLN
        have HB23 := Lib.hid (HB22.out.trans (hC.mono HB22.out.size))
        have RX23 := Lib.hid ((hC.block _ (Array.getElem?_eq_some_iff.1 RX22.out).1).trans RX22.out)
        have RY23 := Lib.hid ((hC.block _ (Array.getElem?_eq_some_iff.1 RY22.out).1).trans RY22.out)
        have RO23 := Lib.hid ((hC.block _ (Array.getElem?_eq_some_iff.1 RO22.out).1).trans RO22.out)
        have RF23 := Lib.hid ((hC.block _ (Array.getElem?_eq_some_iff.1 RF22.out).1).trans RF22.out)
        have RP23 := Lib.hid ((hC.block _ (Array.getElem?_eq_some_iff.1 RP22.out).1).trans RP22.out)
        have FO23 := Lib.hid (FO22.out.keep hC)
        have FF23 := Lib.hid (FF22.out.keep hC)
        have FM23 := Lib.hid (FM22.out.below hC)
        have FP23 := Lib.hid (FP22.out.keep hC)
        clear RX22 RY22 RO22 RF22 RP22 FO22 FF22 FM22 FP22
        clear hC
        go_wp2_with fail
        go_ret
        exact ⟨rfl, HB23.out⟩
end Go.Proofs.YtbfcbicbeagjkaaGreatDoor
