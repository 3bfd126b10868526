/- ref09.Sound, Ident. | law11's light; rib.Bound; Own, Put and New by Rz; what the law of binders needs of Put. -/
import Derived.Test.YtegengnffdlplaaGreatDoorSxFlat
import Derived.Test.YtegengnffdlplaaGreatDoorRbFnd
import Derived.Test.YtegengnffdlplaaGreatDoorDmOwnP
namespace Go.Proofs.YtegengnffdlplaaGreatDoor
open Go.RowKit

set_option maxRecDepth 100000 in
set_option maxHeartbeats 4000000 in
/-- ref09.Sound. -/
theorem rxsound_any (D : Sx) (us : List Value) (w : World) (hd : SLay w D us) (hsm : SmS 1100000 D) :
    Calls Tryz.prog 25 #[.agg us.toArray] w fun e w' => e = .returned (.bool (sndX D)) ∧ Below w.heap.size w w' := by
  have HLP := Lib.hid hd.layP
  obtain ⟨kx, tx, nx, xo, xn, xc, yo, yn, yc, ax, po, pn, pc, qo, qn, qc, rfl⟩ := sx_shapes hd
  have HSM := Lib.hid hsm
  clear hd hsm
  have HB1 := Lib.hid (below1 w (.cells #[.int .i64 kx, .string tx, .bool nx, .slice xo xn xc, .slice yo yn yc, .int .i64 ax, .slice po pn pc, .slice qo qn qc] 29))
  have HX1 := Lib.hid (heap_alloc_new w (.cells #[.int .i64 kx, .string tx, .bool nx, .slice xo xn xc, .slice yo yn yc, .int .i64 ax, .slice po pn pc, .slice qo qn qc] 29))
  show Calls Tryz.prog 25 #[.agg #[.int .i64 kx, .string tx, .bool nx, .slice xo xn xc, .slice yo yn yc, .int .i64 ax, .slice po pn pc, .slice qo qn qc]] w _
  go_enter Tryz.func25, Tryz.ntmps25
  go_wp2_with fail
  refine (sbare_any 64 D HSM.out (Nat.le_refl _) w.heap.size _ _ (HLP.out.move (Keeps.of_below HB1.out)) HB1.out.size).mono ?_
  rintro e w2 ⟨⟨y0, y1, y2, vo, vn, vc, zo, zn, zc, y5, rfl, hyes⟩, hb2⟩
  have HB2 := Lib.hid (HB1.out.trans (hb2.mono HB1.out.size))
  have HX2 := Lib.hid ((hb2.block _ (Array.getElem?_eq_some_iff.1 HX1.out).1).trans HX1.out)
  have HYES := Lib.hid hyes
  have hb3 := below1 w2 (.cells #[.int .i64 y0, .string y1, .bool y2, .slice vo vn vc, .slice zo zn zc, .int .i64 y5] 77)
  have hx3 := heap_alloc_new w2 (.cells #[.int .i64 y0, .string y1, .bool y2, .slice vo vn vc, .slice zo zn zc, .int .i64 y5] 77)
  clear hb2 hyes HX1 HB1
  go_upto_region 2 with fail
  generalize w2.alloc (.cells #[.int .i64 y0, .string y1, .bool y2, .slice vo vn vc, .slice zo zn zc, .int .i64 y5] 77) = w3 at *
  have HB3 := Lib.hid (HB2.out.trans (hb3.mono HB2.out.size))
  have H23 := Lib.hid hb3
  have HX3 := Lib.hid ((hb3.block _ (Array.getElem?_eq_some_iff.1 HX2.out).1).trans HX2.out)
  have HD3 := Lib.hid hx3
  clear hb3 hx3 HX2 HB2
  cases hdp : dpB 64 D with
  | false =>
    have HV := Lib.hid (sndX_deep hdp)
    clear hdp
    go_wp2_with fail
    go_ret
    exact ⟨ret_bl HV.out.symm, HB3.out⟩
  | true =>
    have HLD := Lib.hid ((HYES.out hdp).lay.keep H23.out)
    clear hdp HYES
    obtain ⟨c0, c1, c2, c3, c4, c5⟩ := row6d HD3.out
    go_wp2_with fail
    refine (rdsound_any (dtm D) _ _ HLD.out HSM.out.dtm).mono ?_
    rintro e w4 ⟨rfl, hb4⟩
    have HB4 := Lib.hid (HB3.out.trans (hb4.mono HB3.out.size))
    have HX4 := Lib.hid ((hb4.block _ (Array.getElem?_eq_some_iff.1 HX3.out).1).trans HX3.out)
    have HD4 := Lib.hid ((hb4.block _ (Array.getElem?_eq_some_iff.1 HD3.out).1).trans HD3.out)
    have HLD4 := Lib.hid (HLD.out.keep hb4)
    clear hb4 HX3 HD3 HLD c0 c1 c2 c3 c4 c5
    cases hs : sndD (dtm D) with
    | false =>
      have HV : Hid (sndX D = false) := Lib.hid (by unfold sndX; rw [hs]; rfl)
      clear hs
      go_wp2_with fail
      go_ret
      exact ⟨ret_bl HV.out.symm, HB4.out⟩
    | true =>
      have HS := Lib.hid hs
      clear hs
      obtain ⟨c0, c1, c2, c3, c4, c5⟩ := row6d HD4.out
      go_wp2_with fail
      refine (others_any _ (dtm D) (Nat.le_refl _) _ _ HLD4.out).mono ?_
      rintro e w5 ⟨rfl, hb5⟩
      have HB5 := Lib.hid (HB4.out.trans (hb5.mono HB4.out.size))
      have HX5 := Lib.hid ((hb5.block _ (Array.getElem?_eq_some_iff.1 HX4.out).1).trans HX4.out)
      clear hb5 HX4 HD4 HLD4 c0 c1 c2 c3 c4 c5
      cases ho : othB (dtm D) with
      | true =>
        have HV : Hid (sndX D = false) := Lib.hid (by unfold sndX; rw [ho, HS.out]; rfl)
        clear ho
        go_wp2_with fail
        go_ret
        exact ⟨ret_bl HV.out.symm, HB5.out⟩
      | false =>
        have HV : Hid (sndX D = fltB [] [] D) := Lib.hid (by rw [sndX_flt, ho, HS.out]; rfl)
        clear ho
        obtain ⟨c0, c1, c2, c3, c4, c5, c6, c7⟩ := rowS8 HX5.out
        go_wp2_with fail
        refine (sflat_any _ D (Nat.le_refl _) HSM.out w.heap.size _ _ _ _ [] [] (HLP.out.move (Keeps.of_below HB5.out)) HB5.out.size (Iz.nil _) (Iz.nil _)).mono ?_
        rintro e w6 ⟨⟨u0, u1, u2, ro, rn, rc, so, sn, sc, u5, to, tn, tc, wo, wn, wc, rfl, _⟩, hb6⟩
        have HB6 := Lib.hid (HB5.out.trans (hb6.mono HB5.out.size))
        have HB7 := Lib.hid (HB6.out.trans ((below1 w6 (.cells #[.int .i64 u0, .string u1, .bool u2, .slice ro rn rc, .slice so sn sc, .int .i64 u5, .slice to tn tc, .slice wo wn wc] 29)).mono HB6.out.size))
        clear hb6 c0 c1 c2 c3 c4 c5 c6 c7
        go_wp2_with fail
        go_ret
        exact ⟨ret_bl HV.out.symm, HB7.out⟩

set_option maxRecDepth 100000 in
set_option maxHeartbeats 4000000 in
/-- ref09.Ident. -/
theorem rident_any (D : Sx) (us : List Value) (w : World) (hd : SLay w D us) (hsm : SmS 1100000 D) :
    Calls Tryz.prog 11 #[.agg us.toArray] w fun e w' => e = .returned (.bool (idB D)) ∧ Below w.heap.size w w' := by
  obtain ⟨kx, tx, nx, xo, xn, xc, yo, yn, yc, ax, po, pn, pc, qo, qn, qc, rfl⟩ := sx_shapes hd
  have hk : kx = D.k := by
    obtain ⟨_, _, _, _, _, he, _⟩ := hd.open'
    simp only [List.cons.injEq, Value.int.injEq, true_and] at he
    exact he.1
  have HD := Lib.hid hd
  have HSM := Lib.hid hsm
  clear hd hsm
  have HB1 := Lib.hid (below1 w (.cells #[.int .i64 kx, .string tx, .bool nx, .slice xo xn xc, .slice yo yn yc, .int .i64 ax, .slice po pn pc, .slice qo qn qc] 29))
  show Calls Tryz.prog 11 #[.agg #[.int .i64 kx, .string tx, .bool nx, .slice xo xn xc, .slice yo yn yc, .int .i64 ax, .slice po pn pc, .slice qo qn qc]] w _
  by_cases h4 : kx = 4
  · have HV : Hid (idB D = sndX D) := Lib.hid (by unfold idB; rw [← hk, decide_eq_true h4, Bool.true_and])
    have hd4 : (kx == 4) = true := by rw [h4]; rfl
    clear hk h4
    go_enter Tryz.func11, Tryz.ntmps11
    go_wp2_with fail
    refine (rxsound_any D _ _ (HD.out.keep HB1.out) HSM.out).mono ?_
    rintro e w2 ⟨rfl, hb2⟩
    have HB2 := Lib.hid (HB1.out.trans (hb2.mono HB1.out.size))
    clear hb2
    go_wp2_with fail
    go_ret
    exact ⟨ret_bl HV.out.symm, HB2.out⟩
  · have HV : Hid (idB D = false) := Lib.hid (by unfold idB; rw [← hk, decide_eq_false h4, Bool.false_and])
    have hd4 : (kx == 4) = false := by rw [beq_eq_false_iff_ne]; exact h4
    clear hk h4
    go_enter Tryz.func11, Tryz.ntmps11
    go_wp2_with fail
    go_ret
    exact ⟨ret_bl HV.out.symm, HB1.out⟩
end Go.Proofs.YtegengnffdlplaaGreatDoor
namespace Go.Proofs.YtegengnffdlplaaGreatDoor
open Go.RowKit

theorem txt_neB {t t' : ByteArray} (hne : t ≠ t') : (t.toList == t'.toList) = false := by
  rw [beq_eq_false_iff_ne]
  intro e
  refine hne ?_
  have e1 : t.toList = t.data.toList := Lib.toList_data _
  have e2 : t'.toList = t'.data.toList := Lib.toList_data _
  rw [e1, e2] at e
  apply ByteArray.ext
  exact Array.ext' e
/-- Is an identifier not too large? -/
def ltB (D : Sx) : Bool := decide (D.l.length < 30) && decide (D.m.length < 600) && decide (D.s.length < 600)
set_option maxRecDepth 100000 in
theorem light11_any (D : Sx) (us : List Value) (w : World) (hd : SLay w D us) :
    Calls Tryz.prog 8 #[.agg us.toArray] w fun e w' => e = .returned (.bool (ltB D)) ∧ Below w.heap.size w w' := by
  obtain ⟨kx, tx, nx, xo, xn, xc, yo, yn, yc, ax, po, pn, pc, qo, qn, qc, rfl⟩ := sx_shapes hd
  obtain ⟨h1, h2, h3⟩ : yn = D.l.length ∧ pn = D.m.length ∧ qn = D.s.length := by
    obtain ⟨_, _, _, _, _, he, _, _, _, hl, hm, hs, _⟩ := hd.open'
    simp only [List.cons.injEq, and_true] at he
    obtain ⟨_, _, _, _, rfl, _, rfl, rfl⟩ := he
    obtain ⟨_, _, _, _, e1, _⟩ := hl
    obtain ⟨_, _, _, _, e2, _⟩ := hm
    obtain ⟨_, _, _, _, e3, _⟩ := hs
    simp only [Value.slice.injEq] at e1 e2 e3
    exact ⟨e1.2.1, e2.2.1, e3.2.1⟩
  have HB1 := Lib.hid (below1 w (.cells #[.int .i64 kx, .string tx, .bool nx, .slice xo xn xc, .slice yo yn yc, .int .i64 ax, .slice po pn pc, .slice qo qn qc] 29))
  obtain ⟨c0, c1, c2, c3, c4, c5, c6, c7⟩ := rowS8 (heap_alloc_new w (.cells #[.int .i64 kx, .string tx, .bool nx, .slice xo xn xc, .slice yo yn yc, .int .i64 ax, .slice po pn pc, .slice qo qn qc] 29))
  have HV : Hid (ltB D = (decide ((yn : Int) < 30) && decide ((pn : Int) < 600) && decide ((qn : Int) < 600))) := Lib.hid (by
    unfold ltB
    rw [← h1, ← h2, ← h3]
    congr 1
    · congr 1
      · exact decide_eq_decide.2 (by omega)
      · exact decide_eq_decide.2 (by omega)
    · exact decide_eq_decide.2 (by omega))
  clear hd h1 h2 h3
  show Calls Tryz.prog 8 #[.agg #[.int .i64 kx, .string tx, .bool nx, .slice xo xn xc, .slice yo yn yc, .int .i64 ax, .slice po pn pc, .slice qo qn qc]] w _
  go_enter Tryz.func8, Tryz.ntmps8
  cases d1 : decide ((yn : Int) < 30) with
  | false =>
    go_wp2_with fail
    go_ret
    exact ⟨ret_bl (by rw [HV.out, d1]; rfl), HB1.out⟩
  | true =>
    cases d2 : decide ((pn : Int) < 600) with
    | false =>
      go_wp2_with fail
      go_ret
      exact ⟨ret_bl (by rw [HV.out, d1, d2]; rfl), HB1.out⟩
    | true =>
      go_wp2_with fail
      go_ret
      exact ⟨ret_bl (by rw [HV.out, d1, d2]; rfl), HB1.out⟩

/-- Would one bind the other? -/
noncomputable def bndB (D E : Sx) : Bool := idB D && (idB E && (decide (D.t = E.t) && sameZ D.m E.m))
set_option maxRecDepth 100000 in
set_option maxHeartbeats 4000000 in
/-- rib.Bound. -/
theorem bound_any (D E : Sx) (us vs : List Value) (w : World) (hd : SLay w D us) (he : SLay w E vs) (hsm : SmS 1100000 D) (hsm2 : SmS 1100000 E) (ht : Tabs w) :
    Calls Tryz.prog 15 #[.agg us.toArray, .agg vs.toArray] w fun e w' => e = .returned (.bool (bndB D E)) ∧ Below w.heap.size w w' := by
  have HD := Lib.hid hd
  have HE := Lib.hid he
  have HSM := Lib.hid hsm
  have HSM2 := Lib.hid hsm2
  have HT := Lib.hid ht
  obtain ⟨kx, tx, nx, xo, xn, xc, yo, yn, yc, ax, po, pn, pc, qo, qn, qc, rfl⟩ := sx_shapes hd
  obtain ⟨kx', tx', nx', xo', xn', xc', yo', yn', yc', ax', po', pn', pc', qo', qn', qc', rfl⟩ := sx_shapes he
  have HX : Hid (tx = D.t ∧ Iz w (.slice po pn pc) D.m) := Lib.hid (by
    obtain ⟨_, _, _, _, _, he, _, _, _, hl, hm, hs, _⟩ := hd.open'
    simp only [List.cons.injEq, and_true] at he
    obtain ⟨_, h1, _, _, _, _, rfl, _⟩ := he
    exact ⟨by injection h1, hm⟩)
  have HX2 : Hid (tx' = E.t ∧ Iz w (.slice po' pn' pc') E.m) := Lib.hid (by
    obtain ⟨_, _, _, _, _, he, _, _, _, hl, hm, hs, _⟩ := he.open'
    simp only [List.cons.injEq, and_true] at he
    obtain ⟨_, h1, _, _, _, _, rfl, _⟩ := he
    exact ⟨by injection h1, hm⟩)
  clear hd he hsm hsm2 ht
  have hb1 := (below1 w (.cells #[.int .i64 kx, .string tx, .bool nx, .slice xo xn xc, .slice yo yn yc, .int .i64 ax, .slice po pn pc, .slice qo qn qc] 29)).trans ((below1 (w.alloc (.cells #[.int .i64 kx, .string tx, .bool nx, .slice xo xn xc, .slice yo yn yc, .int .i64 ax, .slice po pn pc, .slice qo qn qc] 29)) (.cells #[.int .i64 kx', .string tx', .bool nx', .slice xo' xn' xc', .slice yo' yn' yc', .int .i64 ax', .slice po' pn' pc', .slice qo' qn' qc'] 29)).mono (by simp))
  have hn1 := @newsw2 w (.cells #[.int .i64 kx, .string tx, .bool nx, .slice xo xn xc, .slice yo yn yc, .int .i64 ax, .slice po pn pc, .slice qo qn qc] 29) (.cells #[.int .i64 kx', .string tx', .bool nx', .slice xo' xn' xc', .slice yo' yn' yc', .int .i64 ax', .slice po' pn' pc', .slice qo' qn' qc'] 29)
  show Calls Tryz.prog 15 #[.agg #[.int .i64 kx, .string tx, .bool nx, .slice xo xn xc, .slice yo yn yc, .int .i64 ax, .slice po pn pc, .slice qo qn qc], .agg #[.int .i64 kx', .string tx', .bool nx', .slice xo' xn' xc', .slice yo' yn' yc', .int .i64 ax', .slice po' pn' pc', .slice qo' qn' qc']] w _
  go_enter Tryz.func15, Tryz.ntmps15
  go_upto_region 1 with fail
  generalize (w.alloc (.cells #[.int .i64 kx, .string tx, .bool nx, .slice xo xn xc, .slice yo yn yc, .int .i64 ax, .slice po pn pc, .slice qo qn qc] 29)).alloc (.cells #[.int .i64 kx', .string tx', .bool nx', .slice xo' xn' xc', .slice yo' yn' yc', .int .i64 ax', .slice po' pn' pc', .slice qo' qn' qc'] 29) = w1 at *
  have HB1 := Lib.hid hb1
  have HN1 := Lib.hid hn1.1
  have HM1 := Lib.hid hn1.2
  clear hb1 hn1
  obtain ⟨c0, c1, c2, c3, c4, c5, c6, c7⟩ := rowS8 HN1.out
  obtain ⟨f0, f1, f2, f3, f4, f5, f6, f7⟩ := rowS8 HM1.out
  go_wp2_with fail
  refine (ident_any D _ w1 (HD.out.keep HB1.out) HSM.out (HT.out.below HB1.out (Nat.le_refl _))).mono ?_
  rintro e w2 ⟨rfl, hb2⟩
  have HB2 := Lib.hid (HB1.out.trans (hb2.mono HB1.out.size))
  have HN2 := Lib.hid ((hb2.block _ (Array.getElem?_eq_some_iff.1 HN1.out).1).trans HN1.out)
  have HM2 := Lib.hid ((hb2.block _ (Array.getElem?_eq_some_iff.1 HM1.out).1).trans HM1.out)
  clear hb2 c0 c1 c2 c3 c4 c5 c6 c7 f0 f1 f2 f3 f4 f5 f6 f7
  obtain ⟨i1, HI1⟩ : ∃ b, Hid (idB D = b) := ⟨_, Lib.hid rfl⟩
  rw [HI1.out]
  cases i1 with
  | false =>
    go_wp2_with fail
    go_ret
    exact ⟨ret_bl (by unfold bndB; rw [HI1.out]; rfl), HB2.out⟩
  | true =>
    obtain ⟨c0, c1, c2, c3, c4, c5, c6, c7⟩ := rowS8 HN2.out
    obtain ⟨f0, f1, f2, f3, f4, f5, f6, f7⟩ := rowS8 HM2.out
    go_wp2_with fail
    refine (ident_any E _ w2 (HE.out.keep HB2.out) HSM2.out (HT.out.below HB2.out (Nat.le_refl _))).mono ?_
    rintro e w3 ⟨rfl, hb3⟩
    have HB3 := Lib.hid (HB2.out.trans (hb3.mono HB2.out.size))
    have HN3 := Lib.hid ((hb3.block _ (Array.getElem?_eq_some_iff.1 HN2.out).1).trans HN2.out)
    have HM3 := Lib.hid ((hb3.block _ (Array.getElem?_eq_some_iff.1 HM2.out).1).trans HM2.out)
    clear hb3 c0 c1 c2 c3 c4 c5 c6 c7 f0 f1 f2 f3 f4 f5 f6 f7
    obtain ⟨i2, HI2⟩ : ∃ b, Hid (idB E = b) := ⟨_, Lib.hid rfl⟩
    rw [HI2.out]
    cases i2 with
    | false =>
      go_wp2_with fail
      go_ret
      exact ⟨ret_bl (by unfold bndB; rw [HI1.out, HI2.out]; rfl), HB3.out⟩
    | true =>
      obtain ⟨c0, c1, c2, c3, c4, c5, c6, c7⟩ := rowS8 HN3.out
      obtain ⟨f0, f1, f2, f3, f4, f5, f6, f7⟩ := rowS8 HM3.out
      by_cases htx : tx = tx'
      · subst htx
        have hbe : (tx.toList == tx.toList) = true := beq_self_eq_true _
        go_wp2_with fail
        refine (equalz_any _ _ D.m E.m w3 (HX.out.2.below HB3.out) (HX2.out.2.below HB3.out)).mono ?_
        rintro e w4 ⟨rfl, hb4⟩
        have HB4 := Lib.hid (HB3.out.trans (hb4.mono HB3.out.size))
        have HV : Hid (bndB D E = sameZ D.m E.m) := Lib.hid (by unfold bndB; rw [HI1.out, HI2.out, ← HX.out.1, ← HX2.out.1, decide_eq_true rfl]; rfl)
        clear hb4 c0 c1 c2 c3 c4 c5 c6 c7 f0 f1 f2 f3 f4 f5 f6 f7
        go_wp2_with fail
        go_ret
        exact ⟨ret_bl HV.out.symm, HB4.out⟩
      · have hbe := txt_neB htx
        have HV : Hid (bndB D E = false) := Lib.hid (by unfold bndB; rw [← HX.out.1, ← HX2.out.1, decide_eq_false htx]; simp)
        go_wp2_with fail
        go_ret
        exact ⟨ret_bl HV.out.symm, HB3.out⟩

/-- Put, whatever it answers. -/
theorem putw_z {w0 W : World} {g R G : Nat} {tk : Ek → Option Int} (h : Rz w0 W g R G tk) (b : Int) (D : Sx) (us : List Value) (c : Int) (hd : SLay W D us) (hsm : SmS 1100000 D) (ht : Tabs w0) (hml : D.m.length ≤ 1000000) :
    Calls Tryz.prog 21 #[.pointer (some ⟨g, 0, none⟩), .int .i64 b, .agg us.toArray, .int .i64 c] W fun e w' => e = .returned (.int .i64 (if mayP R b D c then (if (tk (b, D.t, wrt D.m)).getD 0 = 0 then 0 else 2) else 1)) ∧ Rz w0 w' g R G (if mayP R b D c then (if (tk (b, D.t, wrt D.m)).getD 0 = 0 then putE tk (b, D.t, wrt D.m) c else tk) else tk) ∧ Below w0.heap.size W w' := by
  obtain ⟨ob, h1, h2⟩ := h.ex
  refine (rput_any W g ob R G tk h1 b D us c hd hsm hml (ht.below h.bel (Nat.le_refl _))).mono fun e w' ⟨ob', h3, h4, h5, h6⟩ => ?_
  exact ⟨h3, ⟨⟨ob', h4, fun b hb => by rcases h6 b hb with h7 | h7; exact h2 b h7; exact Nat.le_trans h.bel.size h7⟩, h.bel.trans (h5.bel _ h.le h2 h.bel.size), h.le⟩, h5.bel _ h.le h2 h.bel.size⟩
/-- What is behind the hidden ribs of a world moves with them. -/
theorem own_z {w0 W : World} {g R G : Nat} {tk : Ek → Option Int} (h : Rz w0 W g R G tk) (D : Sx) (us : List Value) (hd : SLay W D us) (hsm : SmS 1100000 D) :
    Calls Tryz.prog 10 #[.agg us.toArray] W fun e w' => ∃ vs, e = .returned (.agg vs.toArray) ∧ SLayP (fun b => W.heap.size ≤ b) w' D vs ∧ Below W.heap.size W w' ∧ Rz w0 w' g R G tk :=
  (own_sxK D hsm.owk us W hd).mono fun e w' ⟨vs, h1, h2, h3⟩ => ⟨vs, h1, h2, h3, h.below h3⟩
end Go.Proofs.YtegengnffdlplaaGreatDoor
