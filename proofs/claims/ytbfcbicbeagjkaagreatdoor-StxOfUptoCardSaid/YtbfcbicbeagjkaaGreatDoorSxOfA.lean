/- stx.Of of any datum and wrap; law10's plain. -/
import Derived.Test.YtbfcbicbeagjkaaGreatDoorSxROf
namespace Go.Proofs.YtbfcbicbeagjkaaGreatDoor
open Go.RowKit

noncomputable def ofE (m s : List Int) (D : Dm) : Int := if (sndD D && !othB D) = true then (if sndW m s = true then 0 else 2) else 2
noncomputable def ofR (m s : List Int) (D : Dm) : Sx := if (sndD D && !othB D) = true then (if sndW m s = true then reS m s (ofS D) else zeroS) else zeroS

set_option maxRecDepth 100000 in
set_option maxHeartbeats 8000000 in
/-- stx.Of. -/
theorem sxof_any (D : Dm) (us : List Value) (x : Value) (ms ss : List Int) (w : World) (hd : Lay w D us) (hsm : Sm 1100000 D) (hx : Wr w x ms ss) (ht : Tabs w) :
    Calls Tryz.prog 16 #[.agg us.toArray, x] w (RsR (ofE ms ss D) (ofR ms ss D) w) := by
  have HD := Lib.hid hd
  have HSM := Lib.hid hsm
  have HT := Lib.hid ht
  obtain ⟨y0, y1, y2, lo, ln, lc, ao, an, ac, y5, rfl⟩ := dm_shapes hd
  obtain ⟨wm, ws, rfl, hwm, hws⟩ := hx.cells
  have HM := Lib.hid hwm
  have HS := Lib.hid hws
  obtain ⟨_, mo, mc, rfl, _, _⟩ := hwm.cases
  obtain ⟨_, so, sc, rfl, _, _⟩ := hws.cases
  clear hd hsm hx hwm hws ht
  obtain ⟨er, HER⟩ : ∃ y, Hid (ofE ms ss D = y) := ⟨_, Lib.hid rfl⟩
  obtain ⟨E, HRE⟩ : ∃ y, Hid (ofR ms ss D = y) := ⟨_, Lib.hid rfl⟩
  rw [HER.out, HRE.out]
  have hb1 := below3 w (.cells #[.int .i64 y0, .string y1, .bool y2, .slice lo ln lc, .slice ao an ac, .int .i64 y5] 27) (.cells #[.slice mo ms.length mc, .slice so ss.length sc] 30) (.cells #[.int .i64 0, .string ⟨#[]⟩, .bool false, .slice none 0 0, .slice none 0 0, .int .i64 0, .slice none 0 0, .slice none 0 0] 35)
  have hn1 := @newsp3d w (.cells #[.int .i64 y0, .string y1, .bool y2, .slice lo ln lc, .slice ao an ac, .int .i64 y5] 27) (.cells #[.slice mo ms.length mc, .slice so ss.length sc] 30) (.cells #[.int .i64 0, .string ⟨#[]⟩, .bool false, .slice none 0 0, .slice none 0 0, .int .i64 0, .slice none 0 0, .slice none 0 0] 35)
  show Calls Tryz.prog 16 #[.agg #[.int .i64 y0, .string y1, .bool y2, .slice lo ln lc, .slice ao an ac, .int .i64 y5], .agg #[.slice mo ms.length mc, .slice so ss.length sc]] w _
  go_enter Tryz.func16, Tryz.ntmps16
  go_upto_region 1 with fail
  generalize ((w.alloc (.cells #[.int .i64 y0, .string y1, .bool y2, .slice lo ln lc, .slice ao an ac, .int .i64 y5] 27)).alloc (.cells #[.slice mo ms.length mc, .slice so ss.length sc] 30)).alloc (.cells #[.int .i64 0, .string ⟨#[]⟩, .bool false, .slice none 0 0, .slice none 0 0, .int .i64 0, .slice none 0 0, .slice none 0 0] 35) = w1 at *
  have HB1 := Lib.hid hb1
  have HD1 := Lib.hid hn1.1
  have HW1 := Lib.hid hn1.2.1
  have HR1 := Lib.hid hn1.2.2
  clear hb1 hn1
  obtain ⟨c0, c1, c2, c3, c4, c5⟩ := row6d HD1.out
  go_wp2_with fail
  refine (may_any D _ w1 (HD.out.keep HB1.out) HSM.out (HT.out.below HB1.out (Nat.le_refl _))).mono ?_
  rintro e w2 ⟨rfl, hb2⟩
  have HB2 := Lib.hid (HB1.out.trans (hb2.mono HB1.out.size))
  have HD2 := Lib.hid ((hb2.block _ (Array.getElem?_eq_some_iff.1 HD1.out).1).trans HD1.out)
  have HW2 := Lib.hid ((hb2.block _ (Array.getElem?_eq_some_iff.1 HW1.out).1).trans HW1.out)
  have HR2 := Lib.hid ((hb2.block _ (Array.getElem?_eq_some_iff.1 HR1.out).1).trans HR1.out)
  clear hb2 c0 c1 c2 c3 c4 c5 HB1 HD1 HW1 HR1
  cases hm0 : (sndD D && !othB D) with
  | false =>
    obtain rfl : er = 2 := HER.out.symm.trans (by unfold ofE; rw [if_neg (by rw [hm0]; decide)])
    obtain rfl : E = zeroS := HRE.out.symm.trans (by unfold ofR; rw [if_neg (by rw [hm0]; decide)])
    clear hm0
    have hz := HR2.out
    obtain ⟨d0, d1, d2, d3, d4, d5, d6, d7⟩ := rowS8 hz
    have z0 := frozen_heap hz 0
    have z1 := frozen_heap hz 1
    have z2 := frozen_heap hz 2
    have z3 := frozen_heap hz 3
    have z4 := frozen_heap hz 4
    have z5 := frozen_heap hz 5
    have z6 := frozen_heap hz 6
    have z7 := frozen_heap hz 7
    have hrow := put8w_row hz (.int .i64 0) (.string ⟨#[]⟩) (.bool false) (.slice none 0 0) (.slice none 0 0) (.int .i64 0) (.slice none 0 0) (.slice none 0 0)
    have hbf := put8w_below HB2.out (show w.heap.size ≤ w.heap.size + 2 by omega) (.int .i64 0) (.string ⟨#[]⟩) (.bool false) (.slice none 0 0) (.slice none 0 0) (.int .i64 0) (.slice none 0 0) (.slice none 0 0)
    have HF9 := Lib.hid (And.intro hrow hbf)
    clear hrow hbf hz
    go_wp2_with fail
    clear d0 d1 d2 d3 d4 d5 d6 d7 z0 z1 z2 z3 z4 z5 z6 z7
    unfold put8w at HF9
    generalize World.setCell _ ⟨w.heap.size + 2, 7, none⟩ (.slice none 0 0) = W9 at *
    obtain ⟨g0, g1, g2, g3, g4, g5, g6, g7⟩ := rowS8 HF9.out.1
    refine bodyPost_ret (v := .tuple #[.agg #[.int .i64 0, .string ⟨#[]⟩, .bool false, .slice none 0 0, .slice none 0 0, .int .i64 0, .slice none 0 0, .slice none 0 0], .int .i64 2]) (by simp [results, Tryz.results16, go_sem, g0, g1, g2, g3, g4, g5, g6, g7]) rfl ?_

    exact ⟨_, _, _, _, _, _, _, _, _, _, _, _, _, _, _, _, rfl, slay_zero _, HF9.out.2⟩
  | true =>
    obtain ⟨c0, c1, _, _⟩ := rowp2d HW2.out
    go_wp2_with fail
    refine (wsound_any (.agg #[.slice mo ms.length mc, .slice so ss.length sc]) ms ss w2 ⟨_, _, rfl, HM.out.below HB2.out, HS.out.below HB2.out⟩).mono ?_
    rintro e w3 ⟨rfl, hb3⟩
    have HB3 := Lib.hid (HB2.out.trans (hb3.mono HB2.out.size))
    have HD3 := Lib.hid ((hb3.block _ (Array.getElem?_eq_some_iff.1 HD2.out).1).trans HD2.out)
    have HW3 := Lib.hid ((hb3.block _ (Array.getElem?_eq_some_iff.1 HW2.out).1).trans HW2.out)
    have HR3 := Lib.hid ((hb3.block _ (Array.getElem?_eq_some_iff.1 HR2.out).1).trans HR2.out)
    clear hb3 c0 c1 HB2 HD2 HW2 HR2
    cases hw : sndW ms ss with
    | false =>
      obtain rfl : er = 2 := HER.out.symm.trans (by unfold ofE; rw [if_pos hm0, if_neg (by rw [hw]; decide)])
      obtain rfl : E = zeroS := HRE.out.symm.trans (by unfold ofR; rw [if_pos hm0, if_neg (by rw [hw]; decide)])
      clear hm0 hw
      have hz := HR3.out
      obtain ⟨d0, d1, d2, d3, d4, d5, d6, d7⟩ := rowS8 hz
      have z0 := frozen_heap hz 0
      have z1 := frozen_heap hz 1
      have z2 := frozen_heap hz 2
      have z3 := frozen_heap hz 3
      have z4 := frozen_heap hz 4
      have z5 := frozen_heap hz 5
      have z6 := frozen_heap hz 6
      have z7 := frozen_heap hz 7
      have hrow := put8w_row hz (.int .i64 0) (.string ⟨#[]⟩) (.bool false) (.slice none 0 0) (.slice none 0 0) (.int .i64 0) (.slice none 0 0) (.slice none 0 0)
      have hbf := put8w_below HB3.out (show w.heap.size ≤ w.heap.size + 2 by omega) (.int .i64 0) (.string ⟨#[]⟩) (.bool false) (.slice none 0 0) (.slice none 0 0) (.int .i64 0) (.slice none 0 0) (.slice none 0 0)
      have HF9 := Lib.hid (And.intro hrow hbf)
      clear hrow hbf hz
      go_wp2_with fail
      clear d0 d1 d2 d3 d4 d5 d6 d7 z0 z1 z2 z3 z4 z5 z6 z7
      unfold put8w at HF9
      generalize World.setCell _ ⟨w.heap.size + 2, 7, none⟩ (.slice none 0 0) = W9 at *
      obtain ⟨g0, g1, g2, g3, g4, g5, g6, g7⟩ := rowS8 HF9.out.1
      refine bodyPost_ret (v := .tuple #[.agg #[.int .i64 0, .string ⟨#[]⟩, .bool false, .slice none 0 0, .slice none 0 0, .int .i64 0, .slice none 0 0, .slice none 0 0], .int .i64 2]) (by simp [results, Tryz.results16, go_sem, g0, g1, g2, g3, g4, g5, g6, g7]) rfl ?_

      exact ⟨_, _, _, _, _, _, _, _, _, _, _, _, _, _, _, _, rfl, slay_zero _, HF9.out.2⟩
    | true =>
      obtain rfl : er = 0 := HER.out.symm.trans (by unfold ofE; rw [if_pos hm0, if_pos hw])
      obtain rfl : E = reS ms ss (ofS D) := HRE.out.symm.trans (by unfold ofR; rw [if_pos hm0, if_pos hw])
      have HLN : Hid (ms.length ≤ 2000000 ∧ ss.length ≤ 2000000) := Lib.hid (by have := sndW_len hw; omega)
      clear hm0 hw HER HRE
      obtain ⟨c0, c1, c2, c3, c4, c5⟩ := row6d HD3.out
      go_wp2_with fail
      refine (piece_any D.sz D (Nat.le_refl _) HSM.out _ w3 (HD.out.keep HB3.out)).mono ?_
      rintro e w3b ⟨vs, rfl, hl, hb3⟩
      obtain ⟨kx, tx, nx, xo, xn, xc, yo, yn, yc, ax, po, pn, pc, qo, qn, qc, rfl⟩ := sx_shapes hl.lay
      have ha := below1 w3b (.cells #[.int .i64 kx, .string tx, .bool nx, .slice xo xn xc, .slice yo yn yc, .int .i64 ax, .slice po pn pc, .slice qo qn qc] 35)
      have hx := heap_alloc_new w3b (.cells #[.int .i64 kx, .string tx, .bool nx, .slice xo xn xc, .slice yo yn yc, .int .i64 ax, .slice po pn pc, .slice qo qn qc] 35)
      have HXL0 : Hid (w.heap.size + 2 < w3b.heap.size ∧ w.heap.size + 1 < w3b.heap.size ∧ w.heap.size + 2 < w3.heap.size) := Lib.hid (by have := (Array.getElem?_eq_some_iff.1 HR3.out).1; have := hb3.size; omega)
      have hbb := hb3.trans (ha.mono hb3.size)
      have HB4 := Lib.hid (HB3.out.trans (hbb.mono HB3.out.size))
      have HW4 := Lib.hid ((hbb.block _ (Array.getElem?_eq_some_iff.1 HW3.out).1).trans HW3.out)
      have HR4 := Lib.hid ((hbb.block _ (Array.getElem?_eq_some_iff.1 HR3.out).1).trans HR3.out)
      have HL4 := Lib.hid ((hl.mono (Q := fun b => b < w3b.heap.size ∧ w3.heap.size ≤ b) fun b h1 h2 => ⟨h1, h2⟩).move (Keeps.of_below ha))
      have HXS : Hid ((w3b.alloc (.cells #[.int .i64 kx, .string tx, .bool nx, .slice xo xn xc, .slice yo yn yc, .int .i64 ax, .slice po pn pc, .slice qo qn qc] 35)).heap.size = w3b.heap.size + 1) := Lib.hid (by simp)
      have HXB := Lib.hid hx
      clear hb3 hbb ha hx hl c0 c1 c2 c3 c4 c5 HB3 HD3 HW3 HR3
      go_upto_region 4 with fail
      generalize w3b.alloc (.cells #[.int .i64 kx, .string tx, .bool nx, .slice xo xn xc, .slice yo yn yc, .int .i64 ax, .slice po pn pc, .slice qo qn qc] 35) = w4 at *
      obtain ⟨xb, hxb⟩ : ∃ xb, w3b.heap.size = xb := ⟨_, rfl⟩
      rw [hxb] at HXB HXL0 HXS HL4 ⊢
      clear hxb
      have HXL : Hid (xb < w4.heap.size) := Lib.hid (by have := HXS.out; omega)
      have HWL : Hid (w.heap.size + 1 < w4.heap.size) := Lib.hid (Array.getElem?_eq_some_iff.1 HW4.out).1
      have HWB := Lib.hid HW4.out
      have HMR := Lib.hid (HM.out.below HB4.out)
      have HSR := Lib.hid (HS.out.below HB4.out)
      clear HW4
      refine wp_region_vals (fun L vals W => AllV [some (.pointer (some ⟨w.heap.size + 1, 0, none⟩)), some (.slice mo ms.length mc), none, some (.pointer (some ⟨w.heap.size + 1, 1, none⟩)), some (.slice so ss.length sc), none, none, some (.tuple #[])] L vals ∧ Ph 6 7 (fun W => Below w4.heap.size w4 W) (fun v W => Below w4.heap.size w4 W ∧ ∃ mo2 mc2 so2 sc2, v = .agg #[.slice mo2 ms.length mc2, .slice so2 ss.length sc2] ∧ W.ownsRow w4.heap.size 3 1 (.slice mo2 ms.length mc2) ms.length (ics .i64 ms) ∧ W.ownsRow w4.heap.size 3 1 (.slice so2 ss.length sc2) ss.length (ics .i64 ss)) (fun _ W' => ∃ W mo2 mc2 so2 sc2, Below w4.heap.size w4 W ∧ W.ownsRow w4.heap.size 3 1 (.slice mo2 ms.length mc2) ms.length (ics .i64 ms) ∧ W.ownsRow w4.heap.size 3 1 (.slice so2 ss.length sc2) ss.length (ics .i64 ss) ∧ W'.heap[xb]? = some (.cells #[.int .i64 kx, .string tx, .bool nx, .slice xo xn xc, .slice yo yn yc, .int .i64 ax, .slice mo2 ms.length mc2, .slice so2 ss.length sc2] 35 (0, 0)) ∧ Keeps (fun b => b ≠ xb) W W' ∧ ∀ B, B ≤ xb → B ≤ W.heap.size → Below B W W') L vals W ∧ Ph 2 6 (fun _ => True) (isRw w4.heap.size ms) (fun _ _ => True) L vals W ∧ Ph 5 6 (fun _ => True) (isRw w4.heap.size ss) (fun _ _ => True) L vals W) (by kernel_rfl) ?_ (by kernel_rfl) (by kernel_rfl) ?_ ?_
      · exact ⟨AllV.start _ _, Ph.start (Below.refl _ _).drew, Ph.start trivial, Ph.start trivial⟩
      · refine AllOps.cons ?_ ?_
        · intro L vals aa W hC hB hL hD hdep
          obtain ⟨hV, hP0, hP1, hP2⟩ := hC
          refine .inl ⟨rfl, ?_⟩
          have b0 : aa.tmps.getD 3 undef = .pointer (some ⟨w.heap.size + 1, 0, none⟩) := hB.off 3 (by kernel_rfl)
          refine goesV_value (v := .pointer (some ⟨w.heap.size + 1, 0, none⟩)) ?_ ⟨hV.fix rfl, hP0.idle (by decide) (by decide) _, hP1.idle (by decide) (by decide) _, hP2.idle (by decide) (by decide) _⟩
          simp only [execOp, Act.eval, b0]
          go_simp
        refine AllOps.cons ?_ ?_
        · intro L vals aa W hC hB hL hD hdep
          obtain ⟨hV, hP0, hP1, hP2⟩ := hC
          refine .inl ⟨rfl, ?_⟩
          have e0 : aa.tmps.getD 18 undef = .pointer (some ⟨w.heap.size + 1, 0, none⟩) := hV.at (j := 0) rfl (hdep 0 18 (by kernel_rfl))
          have hpre := hP0.pre (hD 6 (by kernel_rfl))
          obtain ⟨c0, c1, _, _⟩ := rowp2d ((hpre.block _ HWL.out).trans HWB.out)
          refine goesV_value (v := .slice mo ms.length mc) ?_ ⟨hV.fix rfl, hP0.idle (by decide) (by decide) _, hP1.idle (by decide) (by decide) _, hP2.idle (by decide) (by decide) _⟩
          simp only [execOp, Act.eval, e0]
          go_simp
        refine AllOps.cons ?_ ?_
        · intro L vals aa W hC hB hL hD hdep
          obtain ⟨hV, hP0, hP1, hP2⟩ := hC
          refine .inl ⟨rfl, ?_⟩
          have e0 : aa.tmps.getD 19 undef = .slice mo ms.length mc := hV.at (j := 1) rfl (hdep 1 19 (by kernel_rfl))
          have hpre := hP0.pre (hD 6 (by kernel_rfl))
          refine goesV_call (f := 57) (args := #[.slice mo ms.length mc]) ?_ ?_
          · simp only [execOp]
            go_simp
          · exact (scli_any _ ms.length (ics .i64 ms) W (HMR.out.below hpre) (icsone ms) HLN.out.1).mono fun e w7 ⟨v7, he, ho, hb⟩ => ⟨_, he, hV.free rfl, hP0.ahead (hD 6 (by kernel_rfl)) (by decide) (by decide) _ (hpre.trans (hb.mono hpre.size)), hP1.first hL (by decide) (isRw_of (ownsRow_base ho hpre.size)), hP2.mono (by decide) (by decide) _ (fun h => h) (fun x h => h.below hb) (fun _ h => h)⟩
        refine AllOps.cons ?_ ?_
        · intro L vals aa W hC hB hL hD hdep
          obtain ⟨hV, hP0, hP1, hP2⟩ := hC
          refine .inl ⟨rfl, ?_⟩
          have b0 : aa.tmps.getD 3 undef = .pointer (some ⟨w.heap.size + 1, 0, none⟩) := hB.off 3 (by kernel_rfl)
          refine goesV_value (v := .pointer (some ⟨w.heap.size + 1, 1, none⟩)) ?_ ⟨hV.fix rfl, hP0.idle (by decide) (by decide) _, hP1.idle (by decide) (by decide) _, hP2.idle (by decide) (by decide) _⟩
          simp only [execOp, Act.eval, b0]
          go_simp
        refine AllOps.cons ?_ ?_
        · intro L vals aa W hC hB hL hD hdep
          obtain ⟨hV, hP0, hP1, hP2⟩ := hC
          refine .inl ⟨rfl, ?_⟩
          have e0 : aa.tmps.getD 21 undef = .pointer (some ⟨w.heap.size + 1, 1, none⟩) := hV.at (j := 3) rfl (hdep 3 21 (by kernel_rfl))
          have hpre := hP0.pre (hD 6 (by kernel_rfl))
          obtain ⟨c0, c1, _, _⟩ := rowp2d ((hpre.block _ HWL.out).trans HWB.out)
          refine goesV_value (v := .slice so ss.length sc) ?_ ⟨hV.fix rfl, hP0.idle (by decide) (by decide) _, hP1.idle (by decide) (by decide) _, hP2.idle (by decide) (by decide) _⟩
          simp only [execOp, Act.eval, e0]
          go_simp
        refine AllOps.cons ?_ ?_
        · intro L vals aa W hC hB hL hD hdep
          obtain ⟨hV, hP0, hP1, hP2⟩ := hC
          refine .inl ⟨rfl, ?_⟩
          have e0 : aa.tmps.getD 22 undef = .slice so ss.length sc := hV.at (j := 4) rfl (hdep 4 22 (by kernel_rfl))
          have hpre := hP0.pre (hD 6 (by kernel_rfl))
          refine goesV_call (f := 57) (args := #[.slice so ss.length sc]) ?_ ?_
          · simp only [execOp]
            go_simp
          · exact (scli_any _ ss.length (ics .i64 ss) W (HSR.out.below hpre) (icsone ss) HLN.out.2).mono fun e w7 ⟨v7, he, ho, hb⟩ => ⟨_, he, hV.free rfl, hP0.ahead (hD 6 (by kernel_rfl)) (by decide) (by decide) _ (hpre.trans (hb.mono hpre.size)), hP1.mono (by decide) (by decide) _ (fun h => h) (fun x h => h.below hb) (fun _ h => h), hP2.first hL (by decide) (isRw_of (ownsRow_base ho hpre.size))⟩
        refine AllOps.cons ?_ ?_
        · intro L vals aa W hC hB hL hD hdep
          obtain ⟨hV, hP0, hP1, hP2⟩ := hC
          refine .inl ⟨rfl, ?_⟩
          obtain ⟨l0, e0⟩ := hdep 2 20 (by kernel_rfl)
          obtain ⟨l1, e1⟩ := hdep 5 23 (by kernel_rfl)
          have hpre := hP0.pre hL
          obtain ⟨mo2, mc2, hm2, hm3⟩ := hP1.mid l0 hL
          obtain ⟨so2, sc2, hs2, hs3⟩ := hP2.mid l1 hL
          rw [hm2] at e0
          rw [hs2] at e1
          refine goesV_value (v := .agg #[.slice mo2 ms.length mc2, .slice so2 ss.length sc2]) ?_ ⟨hV.free rfl, hP0.first hL (by decide) ⟨hpre, mo2, mc2, so2, sc2, rfl, hm3, hs3⟩, Ph.last l0 (by decide) _ trivial, Ph.last l1 (by decide) _ trivial⟩
          simp only [Array.getD_eq_getD_getElem?] at e0 e1
          simp only [execOp]
          go_simp
        refine AllOps.cons ?_ ?_
        · intro L vals aa W hC hB hL hD hdep
          obtain ⟨hV, hP0, hP1, hP2⟩ := hC
          refine .inl ⟨rfl, ?_⟩
          obtain ⟨l0, e0⟩ := hdep 6 24 (by kernel_rfl)
          have b0 : aa.tmps.getD 6 undef = .pointer (some ⟨xb, 0, none⟩) := hB.off 6 (by kernel_rfl)
          obtain ⟨hpre, mo2, mc2, so2, sc2, hv2, hm3, hs3⟩ := hP0.mid l0 hL
          rw [hv2] at e0
          refine goesV_call (f := 56) (args := #[.pointer (some ⟨xb, 0, none⟩), .agg #[.slice mo2 ms.length mc2, .slice so2 ss.length sc2]]) ?_ ?_
          · simp only [execOp, Act.eval, e0, b0]
            go_simp
          · exact (wear_any xb _ _ _ _ _ _ _ _ mo2 ms.length mc2 so2 ss.length sc2 W ((hpre.block _ HXL.out).trans HXB.out)).mono fun e w7 ⟨he, hr, hk, hb⟩ => ⟨_, he, hV.fix rfl, Ph.last l0 (by decide) _ ⟨W, mo2, mc2, so2, sc2, hpre, hm3, hs3, hr, hk, hb⟩, Ph.done l0 (hP1.ord l0) (by decide) (by decide) _ trivial, Ph.done l0 (hP2.ord l0) (by decide) (by decide) _ trivial⟩
        exact trivial
      · intro L vals aa w8 hC hLL hB hall
        obtain ⟨hV, hP0, hP1, hP2⟩ := hC
        have hv : ∀ p ∈ [((18 : Nat), (.pointer (some ⟨w.heap.size + 1, 0, none⟩) : Value)), ((19 : Nat), (.slice mo ms.length mc : Value)), ((20 : Nat), (vals 2 : Value)), ((21 : Nat), (.pointer (some ⟨w.heap.size + 1, 1, none⟩) : Value)), ((22 : Nat), (.slice so ss.length sc : Value)), ((23 : Nat), (vals 5 : Value)), ((24 : Nat), (vals 6 : Value)), ((25 : Nat), (.tuple #[] : Value))], aa.tmps.getD p.1 undef = p.2 := by
          intro p hp
          simp only [List.mem_cons, List.not_mem_nil, or_false] at hp
          rcases hp with rfl | rfl | rfl | rfl | rfl | rfl | rfl | rfl
          · exact (hall 0 _ rfl _ rfl).trans (hV 0 _ rfl (hLL 0 (Nat.le_of_ble_eq_true rfl)))
          · exact (hall 1 _ rfl _ rfl).trans (hV 1 _ rfl (hLL 1 (Nat.le_of_ble_eq_true rfl)))
          · exact hall 2 _ rfl _ rfl
          · exact (hall 3 _ rfl _ rfl).trans (hV 3 _ rfl (hLL 3 (Nat.le_of_ble_eq_true rfl)))
          · exact (hall 4 _ rfl _ rfl).trans (hV 4 _ rfl (hLL 4 (Nat.le_of_ble_eq_true rfl)))
          · exact hall 5 _ rfl _ rfl
          · exact hall 6 _ rfl _ rfl
          · exact (hall 7 _ rfl _ rfl).trans (hV 7 _ rfl (hLL 7 (Nat.le_of_ble_eq_true rfl)))
        have hact := act_fold _ hB hv (by kernel_rfl)
        subst hact
        have hfin := hP0.fin (hLL 7 (Nat.le_of_ble_eq_true rfl))
        clear hv hall hB hV hLL hP0 hP1 hP2
        refine (‹∀ (a : Act) (w : World), Code.wp Tryz.prog _ _ a w → _›) _ w8 ?_
        simp only [List.foldl, List.setIfInBounds_toArray, List.set_cons_succ, List.set_cons_zero]
        obtain ⟨W, mo2, mc2, so2, sc2, hC, hm3, hs3, hr, hk, hb⟩ := hfin
        have hxl := HXL.out
        have hxl0 := HXL0.out
        have hle := HB4.out.size
        have hle2 := hC.size
        have HM8 := Lib.hid (ownsRow_keep hm3 hk fun b hb => by have := (hm3.lt b hb).1; omega)
        have HS8 := Lib.hid (ownsRow_keep hs3 hk fun b hb => by have := (hs3.lt b hb).1; omega)
        have hl8 := ((HL4.out.move (Keeps.of_below hC)).move (hk.mono fun b _ hb => by omega)).mono (Q := fun b => b ≠ w.heap.size + 2) fun b _ hb => by omega
        have HL8 := Lib.hid (hl8.re (RowV.of_own HM8.out) (fun b hb => by have := (HM8.out.lt b hb).1; omega) (RowV.of_own HS8.out) (fun b hb => by have := (HS8.out.lt b hb).1; omega))
        have HZ8 := Lib.hid ((hk.2 (w.heap.size + 2) (by omega) (by omega)).trans ((hC.block _ (Array.getElem?_eq_some_iff.1 HR4.out).1).trans HR4.out))
        have HB8 : Hid (Below w.heap.size w w8) := Lib.hid ((HB4.out.trans (hC.mono hle)).trans (hb w.heap.size (by omega) (by omega)))
        have HXB8 := Lib.hid hr
        clear hl8 hm3 hs3 hr hk hb hC hle hle2 hxl hxl0
        obtain ⟨e0, e1, e2, e3, e4, e5, e6, e7⟩ := rowS8 HXB8.out
        have hz := HZ8.out
        obtain ⟨d0, d1, d2, d3, d4, d5, d6, d7⟩ := rowS8 hz
        have z0 := frozen_heap hz 0
        have z1 := frozen_heap hz 1
        have z2 := frozen_heap hz 2
        have z3 := frozen_heap hz 3
        have z4 := frozen_heap hz 4
        have z5 := frozen_heap hz 5
        have z6 := frozen_heap hz 6
        have z7 := frozen_heap hz 7
        have hrow := put8w_row hz (.int .i64 kx) (.string tx) (.bool nx) (.slice xo xn xc) (.slice yo yn yc) (.int .i64 ax) (.slice mo2 ms.length mc2) (.slice so2 ss.length sc2)
        have hkf := put8w_keep (fun b => b ≠ w.heap.size + 2) w8 (w.heap.size + 2) (by simp) (.int .i64 kx) (.string tx) (.bool nx) (.slice xo xn xc) (.slice yo yn yc) (.int .i64 ax) (.slice mo2 ms.length mc2) (.slice so2 ss.length sc2)
        have hbf := put8w_below HB8.out (show w.heap.size ≤ w.heap.size + 2 by omega) (.int .i64 kx) (.string tx) (.bool nx) (.slice xo xn xc) (.slice yo yn yc) (.int .i64 ax) (.slice mo2 ms.length mc2) (.slice so2 ss.length sc2)
        have HF9 := Lib.hid (And.intro hrow (And.intro hkf hbf))
        clear hrow hkf hbf hz
        go_wp2_with fail
        clear e0 e1 e2 e3 e4 e5 e6 e7 d0 d1 d2 d3 d4 d5 d6 d7 z0 z1 z2 z3 z4 z5 z6 z7
        unfold put8w at HF9
        generalize World.setCell _ ⟨w.heap.size + 2, 7, none⟩ (.slice so2 ss.length sc2) = W9 at *
        obtain ⟨g0, g1, g2, g3, g4, g5, g6, g7⟩ := rowS8 HF9.out.1
        refine bodyPost_ret (v := .tuple #[.agg #[.int .i64 kx, .string tx, .bool nx, .slice xo xn xc, .slice yo yn yc, .int .i64 ax, .slice mo2 ms.length mc2, .slice so2 ss.length sc2], .int .i64 0]) (by simp [results, Tryz.results16, go_sem, g0, g1, g2, g3, g4, g5, g6, g7]) rfl ?_

        exact ⟨_, _, _, _, _, _, _, _, _, _, _, _, _, _, _, _, rfl, (HL8.out.move HF9.out.2.1).lay, HF9.out.2.2⟩
end Go.Proofs.YtbfcbicbeagjkaaGreatDoor
