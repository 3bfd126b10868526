/- A mark around a piece changes what its Symbols mean; to push two wraps means to push their join. No walk here. | StxOf: a datum with a wrap is the piece that the document makes of them. Of any datum and wrap. -/
import Derived.Test.YtbfcbicbeagjkaaGreatDoorSxTree
import Derived.Test.YtbfcbicbeagjkaaGreatDoorSxOfA
namespace Go.Proofs.YtbfcbicbeagjkaaGreatDoor
open Go.RowKit

end Go.Proofs.YtbfcbicbeagjkaaGreatDoor
namespace Go.Proofs.YtbfcbicbeagjkaaGreatDoor
open Go.RowKit

theorem SLayP.kb {P : Nat → Prop} {w w' : World} {D : Sx} {us : List Value} (h : SLayP P w D us) (hb : Below w.heap.size w w') : SLayP P w' D us := h.move (Keeps.of_below hb)
theorem of_same {m s : List Int} {D : Sx} (h : lightS 100 D = true) (hm : m.length ≤ 600) (hs : s.length ≤ 600) : sameS 100 (reS m s D) (reS m s D) = true := sameS_refl (light_dp (re_light h hm hs))

set_option maxRecDepth 100000 in
set_option maxHeartbeats 4000000 in
/-- law10's plain. -/
theorem plain_any (D : Dm) (us : List Value) (w : World) (hd : Lay w D us) (hsm : Sm 1100000 D) :
    Calls Tryz.prog 15 #[.agg us.toArray] w fun e w' => e = .returned (.bool (lightS 100 (ofS D))) ∧ Below w.heap.size w w' := by
  have HD := Lib.hid hd
  have HSM := Lib.hid hsm
  obtain ⟨y0, y1, y2, lo, ln, lc, ao, an, ac, y5, rfl⟩ := dm_shapes hd
  clear hd hsm
  obtain ⟨res, HRES⟩ : ∃ b, Hid (lightS 100 (ofS D) = b) := ⟨_, Lib.hid rfl⟩
  rw [HRES.out]
  have hb1 := below1 w (.cells #[.int .i64 y0, .string y1, .bool y2, .slice lo ln lc, .slice ao an ac, .int .i64 y5] 27)
  have hn1 := heap_alloc_new w (.cells #[.int .i64 y0, .string y1, .bool y2, .slice lo ln lc, .slice ao an ac, .int .i64 y5] 27)
  show Calls Tryz.prog 15 #[.agg #[.int .i64 y0, .string y1, .bool y2, .slice lo ln lc, .slice ao an ac, .int .i64 y5]] w _
  go_enter Tryz.func15, Tryz.ntmps15
  go_upto_region 1 with fail
  generalize w.alloc (.cells #[.int .i64 y0, .string y1, .bool y2, .slice lo ln lc, .slice ao an ac, .int .i64 y5] 27) = w1 at *
  have HB1 := Lib.hid hb1
  obtain ⟨c0, c1, c2, c3, c4, c5⟩ := row6d hn1
  clear hb1 hn1
  go_wp2_with fail
  refine (rof_any D.sz D (Nat.le_refl _) HSM.out w1.heap.size _ w1 (HD.out.keep HB1.out).layP (Nat.le_refl _)).mono ?_
  rintro e w2 ⟨vs, rfl, hl, hb2⟩
  have HL2 := Lib.hid hl.lay
  have HB2 := Lib.hid (HB1.out.trans (hb2.mono HB1.out.size))
  clear hl hb2 c0 c1 c2 c3 c4 c5
  go_wp2_with fail
  refine (light_sx 100 (ofS D) _ w2 1 (by omega) (by omega) HL2.out).mono ?_
  rintro e w3 ⟨rfl, hb3⟩
  have HB3 := Lib.hid (HB2.out.trans (hb3.mono HB2.out.size))
  clear hb3
  go_wp2_with fail
  go_ret
  exact ⟨ret_bl HRES.out, HB3.out⟩

set_option maxRecDepth 100000 in
set_option maxHeartbeats 16000000 in
theorem stxof_any (D : Dm) (us : List Value) (x : Value) (m s : List Int) (w : World) (hd : Lay w D us) (hsm : Sm 1100000 D) (hx : Wr w x m s) (ht : Tabs w) :
    Calls Tryz.prog 3 #[.agg us.toArray, x] w fun e w' => e = .returned (.bool true) ∧ Below w.heap.size w w' := by
  have HD := Lib.hid hd
  have HSM := Lib.hid hsm
  have HT := Lib.hid ht
  have HX := Lib.hid hx
  obtain ⟨y0, y1, y2, lo, ln, lc, ao, an, ac, y5, rfl⟩ := dm_shapes hd
  obtain ⟨wm, ws, rfl, hwm, hws⟩ := hx.cells
  have HWM := Lib.hid (And.intro hwm hws)
  obtain ⟨_, amo, amc, rfl, _, _⟩ := hwm.cases
  obtain ⟨_, aso, asc, rfl, _, _⟩ := hws.cases
  clear hd hsm ht hx hwm hws
  have hb := below2 w (.cells #[.int .i64 y0, .string y1, .bool y2, .slice lo ln lc, .slice ao an ac, .int .i64 y5] 27) (.cells #[.slice amo m.length amc, .slice aso s.length asc] 30)
  have hn := @newsd2 w (.cells #[.int .i64 y0, .string y1, .bool y2, .slice lo ln lc, .slice ao an ac, .int .i64 y5] 27) (.cells #[.slice amo m.length amc, .slice aso s.length asc] 30)
  show Calls Tryz.prog 3 #[.agg #[.int .i64 y0, .string y1, .bool y2, .slice lo ln lc, .slice ao an ac, .int .i64 y5], .agg #[.slice amo m.length amc, .slice aso s.length asc]] w _
  go_enter Tryz.func3, Tryz.ntmps3
  go_upto_region 1 with fail
  generalize (w.alloc (.cells #[.int .i64 y0, .string y1, .bool y2, .slice lo ln lc, .slice ao an ac, .int .i64 y5] 27)).alloc (.cells #[.slice amo m.length amc, .slice aso s.length asc] 30) = w1 at *
  have HB0 := Lib.hid hb
  have RX0 := Lib.hid hn.1
  have RA0 := Lib.hid hn.2
  clear hb hn
  go_wp2_with fail
  refine (answers10_any w1 (HT.out.below HB0.out (Nat.le_refl _))).mono ?_
  rintro e w2 ⟨rfl, hb⟩
  have HB1 := Lib.hid (HB0.out.trans (hb.mono HB0.out.size))
  have RX1 := Lib.hid ((hb.block _ (Array.getElem?_eq_some_iff.1 RX0.out).1).trans RX0.out)
  have RA1 := Lib.hid ((hb.block _ (Array.getElem?_eq_some_iff.1 RA0.out).1).trans RA0.out)
  clear RX0 RA0
  clear hb
  obtain ⟨c1_0, c1_1, c1_2, c1_3, c1_4, c1_5⟩ := row6d RX1.out
  go_wp2_with fail
  refine (plain_any D _ w2 (HD.out.keep HB1.out) HSM.out).mono ?_
  rintro e w3 ⟨rfl, hb⟩
  clear c1_0 c1_1 c1_2 c1_3 c1_4 c1_5
  have HB2 := Lib.hid (HB1.out.trans (hb.mono HB1.out.size))
  have RX2 := Lib.hid ((hb.block _ (Array.getElem?_eq_some_iff.1 RX1.out).1).trans RX1.out)
  have RA2 := Lib.hid ((hb.block _ (Array.getElem?_eq_some_iff.1 RA1.out).1).trans RA1.out)
  clear RX1 RA1
  clear hb
  cases hl : lightS 100 (ofS D) with
  | false =>
    clear hl
    go_wp2_with fail
    refine (answers10_any w3 (HT.out.below HB2.out (Nat.le_refl _))).mono ?_
    rintro e wz ⟨rfl, hbz⟩
    have HBZ := Lib.hid (HB2.out.trans (hbz.mono HB2.out.size))
    clear hbz
    go_wp2_with fail
    go_ret
    exact ⟨rfl, HBZ.out⟩
  | true =>
    have HLX := Lib.hid hl
    clear hl
    by_cases hlen : m.length ≤ 600 ∧ s.length ≤ 600
    case neg =>
      have h4 : 600 < m.length ∨ (m.length ≤ 600 ∧ 600 < s.length) := by omega
      clear hlen
      rcases h4 with h4 | ⟨h4, h5⟩
      all_goals
        obtain ⟨c2_0, c2_1, _, _⟩ := rowp2d RA2.out
        go_wp2_with fail
        clear c2_0 c2_1
        refine (answers10_any w3 (HT.out.below HB2.out (Nat.le_refl _))).mono ?_
        rintro e wz ⟨rfl, hbz⟩
        have HBZ := Lib.hid (HB2.out.trans (hbz.mono HB2.out.size))
        clear hbz
        go_wp2_with fail
        go_ret
        exact ⟨rfl, HBZ.out⟩
    have HLEN := Lib.hid hlen
    obtain ⟨h4, h5⟩ := hlen
    obtain ⟨c2_0, c2_1, c2_2, c2_3, c2_4, c2_5⟩ := row6d RX2.out
    obtain ⟨c3_0, c3_1, _, _⟩ := rowp2d RA2.out
    go_wp2_with fail
    clear h4 h5
    obtain ⟨er, HERP⟩ : ∃ z, Hid (ofE m s D = z) := ⟨_, Lib.hid rfl⟩
    refine (sxof_any D _ _ m s w3 (HD.out.keep HB2.out) HSM.out (HX.out.below HB2.out) (HT.out.below HB2.out (Nat.le_refl _))).mono ?_
    rintro e w4 ⟨p_kx, p_tx, p_nx, p_xo, p_xn, p_xc, p_yo, p_yn, p_yc, p_ax, p_po, p_pn, p_pc, p_qo, p_qn, p_qc, rfl, hl7, hb⟩
    clear c2_0 c2_1 c2_2 c2_3 c2_4 c2_5 c3_0 c3_1
    rw [HERP.out]
    have HB3 := Lib.hid (HB2.out.trans (hb.mono HB2.out.size))
    have RX3 := Lib.hid ((hb.block _ (Array.getElem?_eq_some_iff.1 RX2.out).1).trans RX2.out)
    have RA3 := Lib.hid ((hb.block _ (Array.getElem?_eq_some_iff.1 RA2.out).1).trans RA2.out)
    clear RX2 RA2
    clear hb
    have FP4 := Lib.hid hl7
    clear hl7
    have hbx := below1 w4 (.cells #[.int .i64 p_kx, .string p_tx, .bool p_nx, .slice p_xo p_xn p_xc, .slice p_yo p_yn p_yc, .int .i64 p_ax, .slice p_po p_pn p_pc, .slice p_qo p_qn p_qc] 35)
    have hnx := heap_alloc_new w4 (.cells #[.int .i64 p_kx, .string p_tx, .bool p_nx, .slice p_xo p_xn p_xc, .slice p_yo p_yn p_yc, .int .i64 p_ax, .slice p_po p_pn p_pc, .slice p_qo p_qn p_qc] 35)
    go_upto_region 4 with fail
    obtain ⟨bkP, hbk⟩ : ∃ b, w4.heap.size = b := ⟨_, rfl⟩
    generalize w4.alloc (.cells #[.int .i64 p_kx, .string p_tx, .bool p_nx, .slice p_xo p_xn p_xc, .slice p_yo p_yn p_yc, .int .i64 p_ax, .slice p_po p_pn p_pc, .slice p_qo p_qn p_qc] 35) = w5 at *
    have HB5 := Lib.hid (HB3.out.trans (hbx.mono HB3.out.size))
    have RX5 := Lib.hid ((hbx.block _ (Array.getElem?_eq_some_iff.1 RX3.out).1).trans RX3.out)
    have RA5 := Lib.hid ((hbx.block _ (Array.getElem?_eq_some_iff.1 RA3.out).1).trans RA3.out)
    have FP5 := Lib.hid (FP4.out.keep hbx)
    clear RX3 RA3 FP4
    rw [hbk] at hnx ⊢
    have RP5 := Lib.hid hnx
    clear hbx hnx hbk
    obtain ⟨c4_0, c4_1, c4_2, c4_3, c4_4, c4_5⟩ := row6d RX5.out
    go_wp2_with fail
    refine (rdsound_any D _ w5 (HD.out.keep HB5.out) HSM.out).mono ?_
    rintro e w6 ⟨rfl, hb⟩
    clear c4_0 c4_1 c4_2 c4_3 c4_4 c4_5
    have HB6 := Lib.hid (HB5.out.trans (hb.mono HB5.out.size))
    have RX6 := Lib.hid ((hb.block _ (Array.getElem?_eq_some_iff.1 RX5.out).1).trans RX5.out)
    have RA6 := Lib.hid ((hb.block _ (Array.getElem?_eq_some_iff.1 RA5.out).1).trans RA5.out)
    have RP6 := Lib.hid ((hb.block _ (Array.getElem?_eq_some_iff.1 RP5.out).1).trans RP5.out)
    have FP6 := Lib.hid (FP5.out.keep hb)
    clear RX5 RA5 RP5 FP5
    clear hb
    cases hs : sndD D with
    | false =>
      have h0 : (sndD D && !othB D) = false := by rw [hs]; rfl
      clear hs
      obtain rfl : er = 2 := HERP.out.symm.trans (by unfold ofE; rw [if_neg (by rw [h0]; decide)])
      go_wp2_with fail
      go_ret
      exact ⟨rfl, HB6.out⟩
    | true =>
      obtain ⟨c5_0, c5_1, c5_2, c5_3, c5_4, c5_5⟩ := row6d RX6.out
      go_wp2_with fail
      refine (others_any D.sz D (Nat.le_refl _) _ w6 (HD.out.keep HB6.out)).mono ?_
      rintro e w7 ⟨rfl, hb⟩
      clear c5_0 c5_1 c5_2 c5_3 c5_4 c5_5
      have HB7 := Lib.hid (HB6.out.trans (hb.mono HB6.out.size))
      have RX7 := Lib.hid ((hb.block _ (Array.getElem?_eq_some_iff.1 RX6.out).1).trans RX6.out)
      have RA7 := Lib.hid ((hb.block _ (Array.getElem?_eq_some_iff.1 RA6.out).1).trans RA6.out)
      have RP7 := Lib.hid ((hb.block _ (Array.getElem?_eq_some_iff.1 RP6.out).1).trans RP6.out)
      have FP7 := Lib.hid (FP6.out.keep hb)
      clear RX6 RA6 RP6 FP6
      clear hb
      cases ho : othB D with
      | true =>
        have h0 : (sndD D && !othB D) = false := by rw [hs, ho]; rfl
        clear hs ho
        obtain rfl : er = 2 := HERP.out.symm.trans (by unfold ofE; rw [if_neg (by rw [h0]; decide)])
        go_wp2_with fail
        go_ret
        exact ⟨rfl, HB7.out⟩
      | false =>
        have h0 : (sndD D && !othB D) = true := by rw [hs, ho]; rfl
        clear hs ho
        obtain ⟨c6_0, c6_1, _, _⟩ := rowp2d RA7.out
        go_wp2_with fail
        clear c6_0 c6_1
        refine (wrsound_any _ _ m s w7 (HWM.out.1.below HB7.out) (HWM.out.2.below HB7.out)).mono ?_
        rintro e _ ⟨rfl, rfl⟩
        cases hw : sndW m s with
        | false =>
          obtain rfl : er = 2 := HERP.out.symm.trans (by unfold ofE; rw [if_pos h0, if_neg (by rw [hw]; decide)])
          go_wp2_with fail
          go_ret
          exact ⟨rfl, HB7.out⟩
        | true =>
          obtain rfl : er = 0 := HERP.out.symm.trans (by unfold ofE; rw [if_pos h0, if_pos hw])
          have hr0 : ofR m s D = reS m s (ofS D) := by unfold ofR; rw [if_pos h0, if_pos hw]
          have GP := FP7.out
          rw [hr0] at GP
          clear FP7
          have FP8 := Lib.hid GP
          clear GP hr0 h0 hw
          obtain ⟨c7_0, c7_1, c7_2, c7_3, c7_4, c7_5⟩ := row6d RX7.out
          go_wp2_with fail
          refine (rof_any D.sz D (Nat.le_refl _) HSM.out w7.heap.size _ w7 (HD.out.keep HB7.out).layP (Nat.le_refl _)).mono ?_
          rintro e w8 ⟨vs, rfl, hl, hb⟩
          clear c7_0 c7_1 c7_2 c7_3 c7_4 c7_5
          obtain ⟨q_kx, q_tx, q_nx, q_xo, q_xn, q_xc, q_yo, q_yn, q_yc, q_ax, q_po, q_pn, q_pc, q_qo, q_qn, q_qc, rfl⟩ := sx_shapes hl.lay
          have hll := hl.lay
          clear hl
          have HB9 := Lib.hid (HB7.out.trans (hb.mono HB7.out.size))
          have RX9 := Lib.hid ((hb.block _ (Array.getElem?_eq_some_iff.1 RX7.out).1).trans RX7.out)
          have RA9 := Lib.hid ((hb.block _ (Array.getElem?_eq_some_iff.1 RA7.out).1).trans RA7.out)
          have RP9 := Lib.hid ((hb.block _ (Array.getElem?_eq_some_iff.1 RP7.out).1).trans RP7.out)
          have FP9 := Lib.hid (FP8.out.keep hb)
          clear RX7 RA7 RP7 FP8
          clear hb
          have FQ10 := Lib.hid hll
          clear hll
          have GP := (FP9.out).layP
          have GQ := (FQ10.out).layP
          clear FP9 FQ10
          have hbx := below1 w8 (.cells #[.int .i64 q_kx, .string q_tx, .bool q_nx, .slice q_xo q_xn q_xc, .slice q_yo q_yn q_yc, .int .i64 q_ax, .slice q_po q_pn q_pc, .slice q_qo q_qn q_qc] 35)
          have hnx := heap_alloc_new w8 (.cells #[.int .i64 q_kx, .string q_tx, .bool q_nx, .slice q_xo q_xn q_xc, .slice q_yo q_yn q_yc, .int .i64 q_ax, .slice q_po q_pn q_pc, .slice q_qo q_qn q_qc] 35)
          go_upto_region 7 with fail
          have hge := HB9.out.size
          have hlb : w.heap.size < w8.heap.size ∧ w.heap.size + 1 < w8.heap.size ∧ bkP < w8.heap.size := ⟨(Array.getElem?_eq_some_iff.1 RX9.out).1, (Array.getElem?_eq_some_iff.1 RA9.out).1, (Array.getElem?_eq_some_iff.1 RP9.out).1⟩
          obtain ⟨bkQ, hbk⟩ : ∃ b, w8.heap.size = b := ⟨_, rfl⟩
          generalize w8.alloc (.cells #[.int .i64 q_kx, .string q_tx, .bool q_nx, .slice q_xo q_xn q_xc, .slice q_yo q_yn q_yc, .int .i64 q_ax, .slice q_po q_pn q_pc, .slice q_qo q_qn q_qc] 35) = w9 at *
          have HBX := Lib.hid hbx
          rw [hbk] at hnx GP GQ hge hlb ⊢
          have HGE := Lib.hid (And.intro hge hlb)
          have FP11 := Lib.hid GP
          have FQ12 := Lib.hid GQ
          clear GP GQ hge hlb
          have HB13 := Lib.hid (HB9.out.trans (hbx.mono HB9.out.size))
          have RX13 := Lib.hid ((hbx.block _ (Array.getElem?_eq_some_iff.1 RX9.out).1).trans RX9.out)
          have RA13 := Lib.hid ((hbx.block _ (Array.getElem?_eq_some_iff.1 RA9.out).1).trans RA9.out)
          have RP13 := Lib.hid ((hbx.block _ (Array.getElem?_eq_some_iff.1 RP9.out).1).trans RP9.out)
          have FP13 := Lib.hid (FP11.out.kb hbx)
          have FQ13 := Lib.hid (FQ12.out.kb hbx)
          clear RX9 RA9 RP9 FP11 FQ12
          have RQ0 := Lib.hid hnx
          clear hbx hnx HBX hbk
          obtain ⟨c8_0, c8_1, _, _⟩ := rowp2d RA13.out
          obtain ⟨c9_0, c9_1, c9_2, c9_3, c9_4, c9_5, c9_6, c9_7⟩ := rowS8 RQ0.out
          have z6 := frozen_heap RQ0.out 6
          have z7 := frozen_heap RQ0.out 7
          have hrow := put2w_row RQ0.out (.slice amo m.length amc) (.slice aso s.length asc)
          have hkf := put2w_keep (fun b => b ≠ bkQ) w9 bkQ (by simp) (.slice amo m.length amc) (.slice aso s.length asc)
          have hbf := put2w_below HB13.out HGE.out.1 (.slice amo m.length amc) (.slice aso s.length asc)
          have HF := Lib.hid (And.intro hrow (And.intro hkf hbf))
          clear hrow hkf hbf
          go_upto_region 9 with fail
          clear c8_0 c8_1 c9_0 c9_1 c9_2 c9_3 c9_4 c9_5 c9_6 c9_7
          clear z6 z7
          unfold put2w at HF
          generalize World.setCell _ ⟨bkQ, 7, none⟩ (.slice aso s.length asc) = wA at *
          have HBA := Lib.hid HF.out.2.2
          have RQA := Lib.hid HF.out.1
          have RPA := Lib.hid ((HF.out.2.1.2 _ (Array.getElem?_eq_some_iff.1 RP13.out).1 (by have := HGE.out.2.2.2; omega)).trans RP13.out)
          have FPA := Lib.hid (FP13.out.move (HF.out.2.1.mono fun b _ hb => by omega)).lay
          have FQA := Lib.hid ((FQ13.out.move (HF.out.2.1.mono fun b _ hb => by omega)).lay.re (HWM.out.1.below HBA.out) (HWM.out.2.below HBA.out))
          clear HF
          obtain ⟨c10_0, c10_1, c10_2, c10_3, c10_4, c10_5, c10_6, c10_7⟩ := rowS8 RPA.out
          obtain ⟨c11_0, c11_1, c11_2, c11_3, c11_4, c11_5, c11_6, c11_7⟩ := rowS8 RQA.out
          go_wp2_with fail
          refine (exact_sx 100 (reS m s (ofS D)) (reS m s (ofS D)) (re_light HLX.out HLEN.out.1 HLEN.out.2) _ _ wA FPA.out FQA.out).mono ?_
          rintro e wB ⟨rfl, hb⟩
          clear c10_0 c10_1 c10_2 c10_3 c10_4 c10_5 c10_6 c10_7 c11_0 c11_1 c11_2 c11_3 c11_4 c11_5 c11_6 c11_7
          rw [of_same HLX.out HLEN.out.1 HLEN.out.2]
          have HB14 := Lib.hid (HBA.out.trans (hb.mono HBA.out.size))
          have RP14 := Lib.hid ((hb.block _ (Array.getElem?_eq_some_iff.1 RPA.out).1).trans RPA.out)
          have RQ14 := Lib.hid ((hb.block _ (Array.getElem?_eq_some_iff.1 RQA.out).1).trans RQA.out)
          have FP14 := Lib.hid (FPA.out.keep hb)
          have FQ14 := Lib.hid (FQA.out.keep hb)
          clear RPA RQA FPA FQA
          clear hb
          go_wp2_with fail
          go_ret
          exact ⟨rfl, HB14.out⟩
end Go.Proofs.YtbfcbicbeagjkaaGreatDoor
