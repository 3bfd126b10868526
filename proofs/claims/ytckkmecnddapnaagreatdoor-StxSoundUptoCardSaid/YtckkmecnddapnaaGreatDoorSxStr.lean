/- Strip, of the program and of the document; Compound. -/
import Derived.Test.YtckkmecnddapnaaGreatDoorSxRSnd
namespace Go.Proofs.YtckkmecnddapnaaGreatDoor
open Go.RowKit

theorem dm_shapes {w : World} {D : Dm} {us : List Value} (h : Lay w D us) : ∃ x0 x1 x2 xo xn xc yo yn yc x5, us = [.int .i64 x0, .string x1, .bool x2, .slice xo xn xc, .slice yo yn yc, .int .i64 x5] := by
  obtain ⟨lv, av, vs, rfl, _, _, _, ⟨_, _, _, rfl, _⟩, ⟨_, _, _, _, rfl, _⟩, _⟩ := h.open'
  exact ⟨_, _, _, _, _, _, _, _, _, _, rfl⟩
/-- What Strip answers. -/
def StPost (D : Sx) (w : World) (e : Ending) (w' : World) : Prop :=
  ∃ y0 y1 y2 yo yn yc zo zn zc y5, e = .returned (.tuple #[.agg #[.int .i64 y0, .string y1, .bool y2, .slice yo yn yc, .slice zo zn zc, .int .i64 y5], .int .i64 (if sndX D then 0 else 2)]) ∧ (sndX D = true → Lay w' (dtm D) [.int .i64 y0, .string y1, .bool y2, .slice yo yn yc, .slice zo zn zc, .int .i64 y5]) ∧ Below w.heap.size w w'

set_option maxRecDepth 100000 in
set_option maxHeartbeats 4000000 in
/-- stx.Strip. -/
theorem strip_any (D : Sx) (us : List Value) (w : World) (hd : SLay w D us) (hsm : SmS 1100000 D) (ht : Tabs w) :
    Calls Tryz.prog 10 #[.agg us.toArray] w (StPost D w) := by
  obtain ⟨kx, tx, nx, xo, xn, xc, yo, yn, yc, ax, po, pn, pc, qo, qn, qc, rfl⟩ := sx_shapes hd
  have HD := Lib.hid hd
  have HSM := Lib.hid hsm
  have HT := Lib.hid ht
  clear hd hsm ht
  have hb1 := below2 w (.cells #[.int .i64 kx, .string tx, .bool nx, .slice xo xn xc, .slice yo yn yc, .int .i64 ax, .slice po pn pc, .slice qo qn qc] 28) (.cells #[.int .i64 0, .string ⟨#[]⟩, .bool false, .slice none 0 0, .slice none 0 0, .int .i64 0] 33)
  have hn1 := @newsd2 w (.cells #[.int .i64 kx, .string tx, .bool nx, .slice xo xn xc, .slice yo yn yc, .int .i64 ax, .slice po pn pc, .slice qo qn qc] 28) (.cells #[.int .i64 0, .string ⟨#[]⟩, .bool false, .slice none 0 0, .slice none 0 0, .int .i64 0] 33)
  show Calls Tryz.prog 10 #[.agg #[.int .i64 kx, .string tx, .bool nx, .slice xo xn xc, .slice yo yn yc, .int .i64 ax, .slice po pn pc, .slice qo qn qc]] w _
  go_enter Tryz.func10, Tryz.ntmps10
  go_upto_region 1 with fail
  generalize (w.alloc (.cells #[.int .i64 kx, .string tx, .bool nx, .slice xo xn xc, .slice yo yn yc, .int .i64 ax, .slice po pn pc, .slice qo qn qc] 28)).alloc (.cells #[.int .i64 0, .string ⟨#[]⟩, .bool false, .slice none 0 0, .slice none 0 0, .int .i64 0] 33) = w1 at *
  have HB1 := Lib.hid hb1
  have HN1 := Lib.hid hn1.1
  have HM1 := Lib.hid hn1.2
  clear hb1 hn1
  obtain ⟨c0, c1, c2, c3, c4, c5, c6, c7⟩ := rowS8 HN1.out
  go_wp2_with fail
  refine (xsound_any D _ w1 (HD.out.keep HB1.out) HSM.out (HT.out.below HB1.out (Nat.le_refl _))).mono ?_
  rintro e w2 ⟨rfl, hb2⟩
  have HB2 := Lib.hid (HB1.out.trans (hb2.mono HB1.out.size))
  have HN2 := Lib.hid ((hb2.block _ (Array.getElem?_eq_some_iff.1 HN1.out).1).trans HN1.out)
  have HM2 := Lib.hid ((hb2.block _ (Array.getElem?_eq_some_iff.1 HM1.out).1).trans HM1.out)
  clear hb2 c0 c1 c2 c3 c4 c5 c6 c7
  cases hs : sndX D with
  | false =>
    have HS := Lib.hid hs
    clear hs
    have y0 := frozen_heap HM2.out 0
    have y1 := frozen_heap HM2.out 1
    have y2 := frozen_heap HM2.out 2
    have y3 := frozen_heap HM2.out 3
    have y4 := frozen_heap HM2.out 4
    have y5 := frozen_heap HM2.out 5
    obtain ⟨d0, d1, d2, d3, d4, d5⟩ := row6d HM2.out
    have hrow := put6w_row HM2.out (.int .i64 0) (.string ⟨#[]⟩) (.bool false) (.slice none 0 0) (.slice none 0 0) (.int .i64 0)
    have hbf := put6w_below' HB2.out (show w.heap.size ≤ w.heap.size + 1 by omega) (.int .i64 0) (.string ⟨#[]⟩) (.bool false) (.slice none 0 0) (.slice none 0 0) (.int .i64 0)
    have HF := Lib.hid (And.intro hrow hbf)
    clear hrow hbf
    go_wp2_with fail
    clear d0 d1 d2 d3 d4 d5 y0 y1 y2 y3 y4 y5
    unfold put6w at HF
    generalize World.setCell _ ⟨w.heap.size + 1, 5, none⟩ (.int .i64 0) = W9 at *
    obtain ⟨g0, g1, g2, g3, g4, g5⟩ := row6d HF.out.1
    refine bodyPost_ret (v := .tuple #[.agg #[.int .i64 0, .string ⟨#[]⟩, .bool false, .slice none 0 0, .slice none 0 0, .int .i64 0], .int .i64 2]) (by simp [results, Tryz.results10, go_sem, g0, g1, g2, g3, g4, g5]) rfl ?_
    exact ⟨_, _, _, _, _, _, _, _, _, _, by rw [HS.out]; rfl, fun h => (by rw [HS.out] at h; cases h), HF.out.2⟩
  | true =>
    have HS := Lib.hid hs
    clear hs
    obtain ⟨c0, c1, c2, c3, c4, c5, c6, c7⟩ := rowS8 HN2.out
    go_wp2_with fail
    refine (datum_any _ D (Nat.le_refl _) HSM.out _ w2 (HD.out.keep HB2.out)).mono ?_
    rintro e w3 ⟨us3, rfl, hly3, hb3⟩
    have HB3 := Lib.hid (HB2.out.trans (hb3.mono HB2.out.size))
    have HM3 := Lib.hid ((hb3.block _ (Array.getElem?_eq_some_iff.1 HM2.out).1).trans HM2.out)
    have HLE : Hid (w.heap.size + 1 < w2.heap.size) := Lib.hid (Array.getElem?_eq_some_iff.1 HM2.out).1
    obtain ⟨y0, y1, y2, ro, rn, rc, so, sn, sc, y5, rfl⟩ := dm_shapes hly3.lay
    have HL3 := Lib.hid hly3
    clear hb3 hly3 c0 c1 c2 c3 c4 c5 c6 c7
    have z0 := frozen_heap HM3.out 0
    have z1 := frozen_heap HM3.out 1
    have z2 := frozen_heap HM3.out 2
    have z3 := frozen_heap HM3.out 3
    have z4 := frozen_heap HM3.out 4
    have z5 := frozen_heap HM3.out 5
    obtain ⟨d0, d1, d2, d3, d4, d5⟩ := row6d HM3.out
    have hrow := put6w_row HM3.out (.int .i64 y0) (.string y1) (.bool y2) (.slice ro rn rc) (.slice so sn sc) (.int .i64 y5)
    have hkp := put6w_keep (fun b => w2.heap.size ≤ b) w3 (w.heap.size + 1) (by have := HLE.out; omega) (.int .i64 y0) (.string y1) (.bool y2) (.slice ro rn rc) (.slice so sn sc) (.int .i64 y5)
    have hbf := put6w_below' HB3.out (show w.heap.size ≤ w.heap.size + 1 by omega) (.int .i64 y0) (.string y1) (.bool y2) (.slice ro rn rc) (.slice so sn sc) (.int .i64 y5)
    have HF := Lib.hid (And.intro hrow (And.intro (HL3.out.move hkp).lay hbf))
    clear hrow hkp hbf
    go_wp2_with fail
    clear d0 d1 d2 d3 d4 d5 z0 z1 z2 z3 z4 z5
    unfold put6w at HF
    generalize World.setCell _ ⟨w.heap.size + 1, 5, none⟩ (.int .i64 y5) = W9 at *
    obtain ⟨g0, g1, g2, g3, g4, g5⟩ := row6d HF.out.1
    refine bodyPost_ret (v := .tuple #[.agg #[.int .i64 y0, .string y1, .bool y2, .slice ro rn rc, .slice so sn sc, .int .i64 y5], .int .i64 0]) (by simp [results, Tryz.results10, go_sem, g0, g1, g2, g3, g4, g5]) rfl ?_
    exact ⟨_, _, _, _, _, _, _, _, _, _, by rw [HS.out]; rfl, fun _ => HF.out.2.1, HF.out.2.2⟩

set_option maxRecDepth 100000 in
set_option maxHeartbeats 4000000 in
/-- ref09.Strip. -/
theorem rstrip_any (D : Sx) (us : List Value) (w : World) (hd : SLay w D us) (hsm : SmS 1100000 D) :
    Calls Tryz.prog 12 #[.agg us.toArray] w (StPost D w) := by
  have HLP := Lib.hid hd.layP
  obtain ⟨kx, tx, nx, xo, xn, xc, yo, yn, yc, ax, po, pn, pc, qo, qn, qc, rfl⟩ := sx_shapes hd
  have HD := Lib.hid hd
  have HSM := Lib.hid hsm
  clear hd hsm
  have hb1 := below2 w (.cells #[.int .i64 kx, .string tx, .bool nx, .slice xo xn xc, .slice yo yn yc, .int .i64 ax, .slice po pn pc, .slice qo qn qc] 28) (.cells #[.int .i64 0, .string ⟨#[]⟩, .bool false, .slice none 0 0, .slice none 0 0, .int .i64 0] 33)
  have hn1 := @newsd2 w (.cells #[.int .i64 kx, .string tx, .bool nx, .slice xo xn xc, .slice yo yn yc, .int .i64 ax, .slice po pn pc, .slice qo qn qc] 28) (.cells #[.int .i64 0, .string ⟨#[]⟩, .bool false, .slice none 0 0, .slice none 0 0, .int .i64 0] 33)
  show Calls Tryz.prog 12 #[.agg #[.int .i64 kx, .string tx, .bool nx, .slice xo xn xc, .slice yo yn yc, .int .i64 ax, .slice po pn pc, .slice qo qn qc]] w _
  go_enter Tryz.func12, Tryz.ntmps12
  go_upto_region 1 with fail
  generalize (w.alloc (.cells #[.int .i64 kx, .string tx, .bool nx, .slice xo xn xc, .slice yo yn yc, .int .i64 ax, .slice po pn pc, .slice qo qn qc] 28)).alloc (.cells #[.int .i64 0, .string ⟨#[]⟩, .bool false, .slice none 0 0, .slice none 0 0, .int .i64 0] 33) = w1 at *
  have HB1 := Lib.hid hb1
  have HN1 := Lib.hid hn1.1
  have HM1 := Lib.hid hn1.2
  clear hb1 hn1
  obtain ⟨c0, c1, c2, c3, c4, c5, c6, c7⟩ := rowS8 HN1.out
  go_wp2_with fail
  refine (rxsound_any D _ w1 (HD.out.keep HB1.out) HSM.out).mono ?_
  rintro e w2 ⟨rfl, hb2⟩
  have HB2 := Lib.hid (HB1.out.trans (hb2.mono HB1.out.size))
  have HN2 := Lib.hid ((hb2.block _ (Array.getElem?_eq_some_iff.1 HN1.out).1).trans HN1.out)
  have HM2 := Lib.hid ((hb2.block _ (Array.getElem?_eq_some_iff.1 HM1.out).1).trans HM1.out)
  clear hb2 c0 c1 c2 c3 c4 c5 c6 c7
  cases hs : sndX D with
  | false =>
    have HS := Lib.hid hs
    clear hs
    have y0 := frozen_heap HM2.out 0
    have y1 := frozen_heap HM2.out 1
    have y2 := frozen_heap HM2.out 2
    have y3 := frozen_heap HM2.out 3
    have y4 := frozen_heap HM2.out 4
    have y5 := frozen_heap HM2.out 5
    obtain ⟨d0, d1, d2, d3, d4, d5⟩ := row6d HM2.out
    have hrow := put6w_row HM2.out (.int .i64 0) (.string ⟨#[]⟩) (.bool false) (.slice none 0 0) (.slice none 0 0) (.int .i64 0)
    have hbf := put6w_below' HB2.out (show w.heap.size ≤ w.heap.size + 1 by omega) (.int .i64 0) (.string ⟨#[]⟩) (.bool false) (.slice none 0 0) (.slice none 0 0) (.int .i64 0)
    have HF := Lib.hid (And.intro hrow hbf)
    clear hrow hbf
    go_wp2_with fail
    clear d0 d1 d2 d3 d4 d5 y0 y1 y2 y3 y4 y5
    unfold put6w at HF
    generalize World.setCell _ ⟨w.heap.size + 1, 5, none⟩ (.int .i64 0) = W9 at *
    obtain ⟨g0, g1, g2, g3, g4, g5⟩ := row6d HF.out.1
    refine bodyPost_ret (v := .tuple #[.agg #[.int .i64 0, .string ⟨#[]⟩, .bool false, .slice none 0 0, .slice none 0 0, .int .i64 0], .int .i64 2]) (by simp [results, Tryz.results12, go_sem, g0, g1, g2, g3, g4, g5]) rfl ?_
    exact ⟨_, _, _, _, _, _, _, _, _, _, by rw [HS.out]; rfl, fun h => (by rw [HS.out] at h; cases h), HF.out.2⟩
  | true =>
    have HDP : Hid (dpB 64 D = true) := Lib.hid (by
      cases h : dpB 64 D with
      | true => rfl
      | false => rw [sndX_deep h] at hs; cases hs)
    have HS := Lib.hid hs
    clear hs
    obtain ⟨c0, c1, c2, c3, c4, c5, c6, c7⟩ := rowS8 HN2.out
    go_wp2_with fail
    refine (sbare_any 64 D HSM.out (Nat.le_refl _) w.heap.size _ w2 (HLP.out.move (Keeps.of_below HB2.out)) HB2.out.size).mono ?_
    rintro e w3 ⟨⟨y0, y1, y2, ro, rn, rc, so, sn, sc, y5, rfl, hyes⟩, hb3⟩
    have HL3 := Lib.hid (hyes HDP.out)
    have HB3 := Lib.hid (HB2.out.trans (hb3.mono HB2.out.size))
    have HM3 := Lib.hid ((hb3.block _ (Array.getElem?_eq_some_iff.1 HM2.out).1).trans HM2.out)
    have HLE : Hid (w.heap.size + 1 < w2.heap.size) := Lib.hid (Array.getElem?_eq_some_iff.1 HM2.out).1
    clear hb3 hyes c0 c1 c2 c3 c4 c5 c6 c7
    rw [HDP.out]
    have ha := below1 w3 (.cells #[.int .i64 y0, .string y1, .bool y2, .slice ro rn rc, .slice so sn sc, .int .i64 y5] 33)
    have hx := heap_alloc_new w3 (.cells #[.int .i64 y0, .string y1, .bool y2, .slice ro rn rc, .slice so sn sc, .int .i64 y5] 33)
    go_upto_region 4 with fail
    generalize w3.alloc (.cells #[.int .i64 y0, .string y1, .bool y2, .slice ro rn rc, .slice so sn sc, .int .i64 y5] 33) = w4 at *
    have HB4 := Lib.hid (HB3.out.trans (ha.mono HB3.out.size))
    have HM4 := Lib.hid ((ha.block _ (Array.getElem?_eq_some_iff.1 HM3.out).1).trans HM3.out)
    have HL4 := Lib.hid (HL3.out.move (Keeps.of_below ha))
    obtain ⟨e0, e1, e2, e3, e4, e5⟩ := row6d hx
    clear ha hx
    have z0 := frozen_heap HM4.out 0
    have z1 := frozen_heap HM4.out 1
    have z2 := frozen_heap HM4.out 2
    have z3 := frozen_heap HM4.out 3
    have z4 := frozen_heap HM4.out 4
    have z5 := frozen_heap HM4.out 5
    obtain ⟨d0, d1, d2, d3, d4, d5⟩ := row6d HM4.out
    have hrow := put6w_row HM4.out (.int .i64 y0) (.string y1) (.bool y2) (.slice ro rn rc) (.slice so sn sc) (.int .i64 y5)
    have hkp := put6w_keep (fun b => b < w.heap.size ∨ w2.heap.size ≤ b) w4 (w.heap.size + 1) (by have := HLE.out; omega) (.int .i64 y0) (.string y1) (.bool y2) (.slice ro rn rc) (.slice so sn sc) (.int .i64 y5)
    have hbf := put6w_below' HB4.out (show w.heap.size ≤ w.heap.size + 1 by omega) (.int .i64 y0) (.string y1) (.bool y2) (.slice ro rn rc) (.slice so sn sc) (.int .i64 y5)
    have HF := Lib.hid (And.intro hrow (And.intro (HL4.out.move hkp).lay hbf))
    clear hrow hkp hbf
    go_wp2_with fail
    clear d0 d1 d2 d3 d4 d5 z0 z1 z2 z3 z4 z5 e0 e1 e2 e3 e4 e5
    unfold put6w at HF
    generalize World.setCell _ ⟨w.heap.size + 1, 5, none⟩ (.int .i64 y5) = W9 at *
    obtain ⟨g0, g1, g2, g3, g4, g5⟩ := row6d HF.out.1
    refine bodyPost_ret (v := .tuple #[.agg #[.int .i64 y0, .string y1, .bool y2, .slice ro rn rc, .slice so sn sc, .int .i64 y5], .int .i64 0]) (by simp [results, Tryz.results12, go_sem, g0, g1, g2, g3, g4, g5]) rfl ?_
    exact ⟨_, _, _, _, _, _, _, _, _, _, by rw [HS.out]; rfl, fun _ => HF.out.2.1, HF.out.2.2⟩

/-- Is it a List, a Dotted or a Vector? -/
def cpdB (k : Int) : Bool := decide (1 ≤ k ∧ k ≤ 3)
set_option maxRecDepth 100000 in
/-- stx.Compound. -/
theorem compound_any (kx : Int) (tx : ByteArray) (nx : Bool) (xo : Option Addr) (xn xc : Nat) (yo : Option Addr) (yn yc : Nat) (ax : Int) (po : Option Addr) (pn pc : Nat) (qo : Option Addr) (qn qc : Nat) (w : World) :
    Calls Tryz.prog 18 #[.agg #[.int .i64 kx, .string tx, .bool nx, .slice xo xn xc, .slice yo yn yc, .int .i64 ax, .slice po pn pc, .slice qo qn qc]] w fun e w' => e = .returned (.bool (cpdB kx)) ∧ Below w.heap.size w w' := by
  have HB1 := Lib.hid (below1 w (.cells #[.int .i64 kx, .string tx, .bool nx, .slice xo xn xc, .slice yo yn yc, .int .i64 ax, .slice po pn pc, .slice qo qn qc] 28))
  obtain ⟨c0, c1, c2, c3, c4, c5, c6, c7⟩ := rowS8 (heap_alloc_new w (.cells #[.int .i64 kx, .string tx, .bool nx, .slice xo xn xc, .slice yo yn yc, .int .i64 ax, .slice po pn pc, .slice qo qn qc] 28))
  by_cases h1 : kx = 1
  · subst h1
    go_enter Tryz.func18, Tryz.ntmps18
    go_wp2_with fail
    go_ret
    exact ⟨ret_bl (by decide), HB1.out⟩
  · have d1 : (kx == 1) = false := by simpa using h1
    by_cases h2 : kx = 2
    · subst h2
      go_enter Tryz.func18, Tryz.ntmps18
      go_wp2_with fail
      go_ret
      exact ⟨ret_bl (by decide), HB1.out⟩
    · have d2 : (kx == 2) = false := by simpa using h2
      have HV : Hid (cpdB kx = (kx == 3)) := Lib.hid (by
        unfold cpdB
        rw [Bool.eq_iff_iff]
        simp
        omega)
      clear h1 h2
      go_enter Tryz.func18, Tryz.ntmps18
      go_wp2_with fail
      go_ret
      exact ⟨ret_bl HV.out.symm, HB1.out⟩
end Go.Proofs.YtckkmecnddapnaaGreatDoor
