/- x -/
import Derived.Test.YtbfcbicbeagjkaaGreatDoorSxFlat
namespace Go.Proofs.YtbfcbicbeagjkaaGreatDoor
open Go.RowKit
set_option maxRecDepth 100000 in
set_option maxHeartbeats 4000000 in
theorem rxsound_any (D : Sx) (us : List Value) (w : World) (hd : SLay w D us) (hsm : SmS 1100000 D) :
 Calls Tryz.prog 28 #[.agg us.toArray] w fun e w' => e = .returned (.bool (sndX D)) ∧ Below w.heap.size w w' := by
 have HLP := Lib.hid hd.layP
 obtain ⟨kx, tx, nx, xo, xn, xc, yo, yn, yc, ax, po, pn, pc, qo, qn, qc, rfl⟩ := sx_shapes hd
 have HSM := Lib.hid hsm
 clear hd hsm
 have HB1 := Lib.hid (below1 w (.cells #[.int .i64 kx, .string tx, .bool nx, .slice xo xn xc, .slice yo yn yc, .int .i64 ax, .slice po pn pc, .slice qo qn qc] 35))
 have HX1 := Lib.hid (heap_alloc_new w (.cells #[.int .i64 kx, .string tx, .bool nx, .slice xo xn xc, .slice yo yn yc, .int .i64 ax, .slice po pn pc, .slice qo qn qc] 35))
 show Calls Tryz.prog 28 #[.agg #[.int .i64 kx, .string tx, .bool nx, .slice xo xn xc, .slice yo yn yc, .int .i64 ax, .slice po pn pc, .slice qo qn qc]] w _
 go_enter Tryz.func28, Tryz.ntmps28
 go_wp2_with fail
 refine (sbare_any 64 D HSM.out (Nat.le_refl _) w.heap.size _ _ (HLP.out.move (Keeps.of_below HB1.out)) HB1.out.size).mono ?_
 rintro e w2 ⟨⟨y0, y1, y2, vo, vn, vc, zo, zn, zc, y5, rfl, hyes⟩, hb2⟩
 have HB2 := Lib.hid (HB1.out.trans (hb2.mono HB1.out.size))
 have HX2 := Lib.hid ((hb2.block _ (Array.getElem?_eq_some_iff.1 HX1.out).1).trans HX1.out)
 have HYES := Lib.hid hyes
 have hb3 := below1 w2 (.cells #[.int .i64 y0, .string y1, .bool y2, .slice vo vn vc, .slice zo zn zc, .int .i64 y5] 27)
 have hx3 := heap_alloc_new w2 (.cells #[.int .i64 y0, .string y1, .bool y2, .slice vo vn vc, .slice zo zn zc, .int .i64 y5] 27)
 clear hb2 hyes HX1 HB1
 go_upto_region 2 with fail
 generalize w2.alloc (.cells #[.int .i64 y0, .string y1, .bool y2, .slice vo vn vc, .slice zo zn zc, .int .i64 y5] 27) = w3 at *
 have HB3 := Lib.hid (HB2.out.trans (hb3.mono HB2.out.size))
 have H23 := Lib.hid hb3
 have HX3 := Lib.hid ((hb3.block _ (Array.getElem?_eq_some_iff.1 HX2.out).1).trans HX2.out)
 have HD3 := Lib.hid hx3
 clear hb3 hx3 HX2 HB2
 cases hdp : dpB 64 D with
 | false =>
  have HV := Lib.hid (sndX_deep hdp)
  clear hdp
  go_wp2_with fail
  go_ret
  exact ⟨ret_bl HV.out.symm, HB3.out⟩
 | true =>
  have HLD := Lib.hid ((HYES.out hdp).lay.keep H23.out)
  clear hdp HYES
  obtain ⟨c0, c1, c2, c3, c4, c5⟩ := row6d HD3.out
  go_wp2_with fail
  refine (rdsound_any (dtm D) _ _ HLD.out HSM.out.dtm).mono ?_
  rintro e w4 ⟨rfl, hb4⟩
  have HB4 := Lib.hid (HB3.out.trans (hb4.mono HB3.out.size))
  have HX4 := Lib.hid ((hb4.block _ (Array.getElem?_eq_some_iff.1 HX3.out).1).trans HX3.out)
  have HD4 := Lib.hid ((hb4.block _ (Array.getElem?_eq_some_iff.1 HD3.out).1).trans HD3.out)
  have HLD4 := Lib.hid (HLD.out.keep hb4)
  clear hb4 HX3 HD3 HLD c0 c1 c2 c3 c4 c5
  cases hs : sndD (dtm D) with
  | false =>
   have HV : Hid (sndX D = false) := Lib.hid (by unfold sndX; rw [hs]; rfl)
   clear hs
   go_wp2_with fail
   go_ret
   exact ⟨ret_bl HV.out.symm, HB4.out⟩
  | true =>
   have HS := Lib.hid hs
   clear hs
   obtain ⟨c0, c1, c2, c3, c4, c5⟩ := row6d HD4.out
   go_wp2_with fail
   refine (others_any _ (dtm D) (Nat.le_refl _) _ _ HLD4.out).mono ?_
   rintro e w5 ⟨rfl, hb5⟩
   have HB5 := Lib.hid (HB4.out.trans (hb5.mono HB4.out.size))
   have HX5 := Lib.hid ((hb5.block _ (Array.getElem?_eq_some_iff.1 HX4.out).1).trans HX4.out)
   clear hb5 HX4 HD4 HLD4 c0 c1 c2 c3 c4 c5
   cases ho : othB (dtm D) with
   | true =>
    have HV : Hid (sndX D = false) := Lib.hid (by unfold sndX; rw [ho, HS.out]; rfl)
    clear ho
    go_wp2_with fail
    go_ret
    exact ⟨ret_bl HV.out.symm, HB5.out⟩
   | false =>
    have HV : Hid (sndX D = fltB [] [] D) := Lib.hid (by rw [sndX_flt, ho, HS.out]; rfl)
    clear ho
    obtain ⟨c0, c1, c2, c3, c4, c5, c6, c7⟩ := rowS8 HX5.out
    go_wp2_with fail
    refine (sflat_any _ D (Nat.le_refl _) HSM.out w.heap.size _ _ _ _ [] [] (HLP.out.move (Keeps.of_below HB5.out)) HB5.out.size (Iz.nil _) (Iz.nil _)).mono ?_
    rintro e w6 ⟨⟨u0, u1, u2, ro, rn, rc, so, sn, sc, u5, to, tn, tc, wo, wn, wc, rfl, _⟩, hb6⟩
    have HB6 := Lib.hid (HB5.out.trans (hb6.mono HB5.out.size))
    have HB7 := Lib.hid (HB6.out.trans ((below1 w6 (.cells #[.int .i64 u0, .string u1, .bool u2, .slice ro rn rc, .slice so sn sc, .int .i64 u5, .slice to tn tc, .slice wo wn wc] 35)).mono HB6.out.size))
    clear hb6 c0 c1 c2 c3 c4 c5 c6 c7
    go_wp2_with fail
    go_ret
    exact ⟨ret_bl HV.out.symm, HB7.out⟩
end Go.Proofs.YtbfcbicbeagjkaaGreatDoor
namespace Go.Proofs.YtbfcbicbeagjkaaGreatDoor
open Go.RowKit
def cpdB (k : Int) : Bool := decide (1 ≤ k ∧ k ≤ 3)
set_option maxRecDepth 100000 in
theorem compound_any (kx : Int) (tx : ByteArray) (nx : Bool) (xo : Option Addr) (xn xc : Nat) (yo : Option Addr) (yn yc : Nat) (ax : Int) (po : Option Addr) (pn pc : Nat) (qo : Option Addr) (qn qc : Nat) (w : World) :
 Calls Tryz.prog 67 #[.agg #[.int .i64 kx, .string tx, .bool nx, .slice xo xn xc, .slice yo yn yc, .int .i64 ax, .slice po pn pc, .slice qo qn qc]] w fun e w' => e = .returned (.bool (cpdB kx)) ∧ Below w.heap.size w w' := by
 have HB1 := Lib.hid (below1 w (.cells #[.int .i64 kx, .string tx, .bool nx, .slice xo xn xc, .slice yo yn yc, .int .i64 ax, .slice po pn pc, .slice qo qn qc] 35))
 obtain ⟨c0, c1, c2, c3, c4, c5, c6, c7⟩ := rowS8 (heap_alloc_new w (.cells #[.int .i64 kx, .string tx, .bool nx, .slice xo xn xc, .slice yo yn yc, .int .i64 ax, .slice po pn pc, .slice qo qn qc] 35))
 by_cases h1 : kx = 1
 . subst h1
   go_enter Tryz.func67, Tryz.ntmps67
   go_wp2_with fail
   go_ret
   exact ⟨ret_bl (by decide), HB1.out⟩
 . have d1 : (kx == 1) = false := by simpa using h1
   by_cases h2 : kx = 2
   . subst h2
     go_enter Tryz.func67, Tryz.ntmps67
     go_wp2_with fail
     go_ret
     exact ⟨ret_bl (by decide), HB1.out⟩
   . have d2 : (kx == 2) = false := by simpa using h2
     have HV : Hid (cpdB kx = (kx == 3)) := Lib.hid (by
      unfold cpdB
      rw [Bool.eq_iff_iff]
      simp
      omega)
     clear h1 h2
     go_enter Tryz.func67, Tryz.ntmps67
     go_wp2_with fail
     go_ret
     exact ⟨ret_bl HV.out.symm, HB1.out⟩
end Go.Proofs.YtbfcbicbeagjkaaGreatDoor
