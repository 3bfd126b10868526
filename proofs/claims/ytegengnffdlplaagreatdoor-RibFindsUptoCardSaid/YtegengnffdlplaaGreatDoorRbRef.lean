/- ref09.Sound, Ident. | law11's light; rib.Bound; Own, Put and New by Rz; what the law of binders needs of Put. | The document's ribs in memory: its list of entries; at. -/
import Derived.Test.YtegengnffdlplaaGreatDoorSxFlat
import Derived.Test.YtegengnffdlplaaGreatDoorRbFnd
import Derived.Test.YtegengnffdlplaaGreatDoorDmOwnP
namespace Go.Proofs.YtegengnffdlplaaGreatDoor
open Go.RowKit

set_option maxRecDepth 100000 in
set_option maxHeartbeats 4000000 in
/-- ref09.Sound. -/
theorem rxsound_any (D : Sx) (us : List Value) (w : World) (hd : SLay w D us) (hsm : SmS 1100000 D) :
    Calls Tryz.prog 25 #[.agg us.toArray] w fun e w' => e = .returned (.bool (sndX D)) ∧ Below w.heap.size w w' := by
  have HLP := Lib.hid hd.layP
  obtain ⟨kx, tx, nx, xo, xn, xc, yo, yn, yc, ax, po, pn, pc, qo, qn, qc, rfl⟩ := sx_shapes hd
  have HSM := Lib.hid hsm
  clear hd hsm
  have HB1 := Lib.hid (below1 w (.cells #[.int .i64 kx, .string tx, .bool nx, .slice xo xn xc, .slice yo yn yc, .int .i64 ax, .slice po pn pc, .slice qo qn qc] 29))
  have HX1 := Lib.hid (heap_alloc_new w (.cells #[.int .i64 kx, .string tx, .bool nx, .slice xo xn xc, .slice yo yn yc, .int .i64 ax, .slice po pn pc, .slice qo qn qc] 29))
  show Calls Tryz.prog 25 #[.agg #[.int .i64 kx, .string tx, .bool nx, .slice xo xn xc, .slice yo yn yc, .int .i64 ax, .slice po pn pc, .slice qo qn qc]] w _
  go_enter Tryz.func25, Tryz.ntmps25
  go_wp2_with fail
  refine (sbare_any 64 D HSM.out (Nat.le_refl _) w.heap.size _ _ (HLP.out.move (Keeps.of_below HB1.out)) HB1.out.size).mono ?_
  rintro e w2 ⟨⟨y0, y1, y2, vo, vn, vc, zo, zn, zc, y5, rfl, hyes⟩, hb2⟩
  have HB2 := Lib.hid (HB1.out.trans (hb2.mono HB1.out.size))
  have HX2 := Lib.hid ((hb2.block _ (Array.getElem?_eq_some_iff.1 HX1.out).1).trans HX1.out)
  have HYES := Lib.hid hyes
  have hb3 := below1 w2 (.cells #[.int .i64 y0, .string y1, .bool y2, .slice vo vn vc, .slice zo zn zc, .int .i64 y5] 77)
  have hx3 := heap_alloc_new w2 (.cells #[.int .i64 y0, .string y1, .bool y2, .slice vo vn vc, .slice zo zn zc, .int .i64 y5] 77)
  clear hb2 hyes HX1 HB1
  go_upto_region 2 with fail
  generalize w2.alloc (.cells #[.int .i64 y0, .string y1, .bool y2, .slice vo vn vc, .slice zo zn zc, .int .i64 y5] 77) = w3 at *
  have HB3 := Lib.hid (HB2.out.trans (hb3.mono HB2.out.size))
  have H23 := Lib.hid hb3
  have HX3 := Lib.hid ((hb3.block _ (Array.getElem?_eq_some_iff.1 HX2.out).1).trans HX2.out)
  have HD3 := Lib.hid hx3
  clear hb3 hx3 HX2 HB2
  cases hdp : dpB 64 D with
  | false =>
    have HV := Lib.hid (sndX_deep hdp)
    clear hdp
    go_wp2_with fail
    go_ret
    exact ⟨ret_bl HV.out.symm, HB3.out⟩
  | true =>
    have HLD := Lib.hid ((HYES.out hdp).lay.keep H23.out)
    clear hdp HYES
    obtain ⟨c0, c1, c2, c3, c4, c5⟩ := row6d HD3.out
    go_wp2_with fail
    refine (rdsound_any (dtm D) _ _ HLD.out HSM.out.dtm).mono ?_
    rintro e w4 ⟨rfl, hb4⟩
    have HB4 := Lib.hid (HB3.out.trans (hb4.mono HB3.out.size))
    have HX4 := Lib.hid ((hb4.block _ (Array.getElem?_eq_some_iff.1 HX3.out).1).trans HX3.out)
    have HD4 := Lib.hid ((hb4.block _ (Array.getElem?_eq_some_iff.1 HD3.out).1).trans HD3.out)
    have HLD4 := Lib.hid (HLD.out.keep hb4)
    clear hb4 HX3 HD3 HLD c0 c1 c2 c3 c4 c5
    cases hs : sndD (dtm D) with
    | false =>
      have HV : Hid (sndX D = false) := Lib.hid (by unfold sndX; rw [hs]; rfl)
      clear hs
      go_wp2_with fail
      go_ret
      exact ⟨ret_bl HV.out.symm, HB4.out⟩
    | true =>
      have HS := Lib.hid hs
      clear hs
      obtain ⟨c0, c1, c2, c3, c4, c5⟩ := row6d HD4.out
      go_wp2_with fail
      refine (others_any _ (dtm D) (Nat.le_refl _) _ _ HLD4.out).mono ?_
      rintro e w5 ⟨rfl, hb5⟩
      have HB5 := Lib.hid (HB4.out.trans (hb5.mono HB4.out.size))
      have HX5 := Lib.hid ((hb5.block _ (Array.getElem?_eq_some_iff.1 HX4.out).1).trans HX4.out)
      clear hb5 HX4 HD4 HLD4 c0 c1 c2 c3 c4 c5
      cases ho : othB (dtm D) with
      | true =>
        have HV : Hid (sndX D = false) := Lib.hid (by unfold sndX; rw [ho, HS.out]; rfl)
        clear ho
        go_wp2_with fail
        go_ret
        exact ⟨ret_bl HV.out.symm, HB5.out⟩
      | false =>
        have HV : Hid (sndX D = fltB [] [] D) := Lib.hid (by rw [sndX_flt, ho, HS.out]; rfl)
        clear ho
        obtain ⟨c0, c1, c2, c3, c4, c5, c6, c7⟩ := rowS8 HX5.out
        go_wp2_with fail
        refine (sflat_any _ D (Nat.le_refl _) HSM.out w.heap.size _ _ _ _ [] [] (HLP.out.move (Keeps.of_below HB5.out)) HB5.out.size (Iz.nil _) (Iz.nil _)).mono ?_
        rintro e w6 ⟨⟨u0, u1, u2, ro, rn, rc, so, sn, sc, u5, to, tn, tc, wo, wn, wc, rfl, _⟩, hb6⟩
        have HB6 := Lib.hid (HB5.out.trans (hb6.mono HB5.out.size))
        have HB7 := Lib.hid (HB6.out.trans ((below1 w6 (.cells #[.int .i64 u0, .string u1, .bool u2, .slice ro rn rc, .slice so sn sc, .int .i64 u5, .slice to tn tc, .slice wo wn wc] 29)).mono HB6.out.size))
        clear hb6 c0 c1 c2 c3 c4 c5 c6 c7
        go_wp2_with fail
        go_ret
        exact ⟨ret_bl HV.out.symm, HB7.out⟩

set_option maxRecDepth 100000 in
set_option maxHeartbeats 4000000 in
/-- ref09.Ident. -/
theorem rident_any (D : Sx) (us : List Value) (w : World) (hd : SLay w D us) (hsm : SmS 1100000 D) :
    Calls Tryz.prog 11 #[.agg us.toArray] w fun e w' => e = .returned (.bool (idB D)) ∧ Below w.heap.size w w' := by
  obtain ⟨kx, tx, nx, xo, xn, xc, yo, yn, yc, ax, po, pn, pc, qo, qn, qc, rfl⟩ := sx_shapes hd
  have hk : kx = D.k := by
    obtain ⟨_, _, _, _, _, he, _⟩ := hd.open'
    simp only [List.cons.injEq, Value.int.injEq, true_and] at he
    exact he.1
  have HD := Lib.hid hd
  have HSM := Lib.hid hsm
  clear hd hsm
  have HB1 := Lib.hid (below1 w (.cells #[.int .i64 kx, .string tx, .bool nx, .slice xo xn xc, .slice yo yn yc, .int .i64 ax, .slice po pn pc, .slice qo qn qc] 29))
  show Calls Tryz.prog 11 #[.agg #[.int .i64 kx, .string tx, .bool nx, .slice xo xn xc, .slice yo yn yc, .int .i64 ax, .slice po pn pc, .slice qo qn qc]] w _
  by_cases h4 : kx = 4
  · have HV : Hid (idB D = sndX D) := Lib.hid (by unfold idB; rw [← hk, decide_eq_true h4, Bool.true_and])
    have hd4 : (kx == 4) = true := by rw [h4]; rfl
    clear hk h4
    go_enter Tryz.func11, Tryz.ntmps11
    go_wp2_with fail
    refine (rxsound_any D _ _ (HD.out.keep HB1.out) HSM.out).mono ?_
    rintro e w2 ⟨rfl, hb2⟩
    have HB2 := Lib.hid (HB1.out.trans (hb2.mono HB1.out.size))
    clear hb2
    go_wp2_with fail
    go_ret
    exact ⟨ret_bl HV.out.symm, HB2.out⟩
  · have HV : Hid (idB D = false) := Lib.hid (by unfold idB; rw [← hk, decide_eq_false h4, Bool.false_and])
    have hd4 : (kx == 4) = false := by rw [beq_eq_false_iff_ne]; exact h4
    clear hk h4
    go_enter Tryz.func11, Tryz.ntmps11
    go_wp2_with fail
    go_ret
    exact ⟨ret_bl HV.out.symm, HB1.out⟩
end Go.Proofs.YtegengnffdlplaaGreatDoor
namespace Go.Proofs.YtegengnffdlplaaGreatDoor
open Go.RowKit

theorem txt_neB {t t' : ByteArray} (hne : t ≠ t') : (t.toList == t'.toList) = false := by
  rw [beq_eq_false_iff_ne]
  intro e
  refine hne ?_
  have e1 : t.toList = t.data.toList := Lib.toList_data _
  have e2 : t'.toList = t'.data.toList := Lib.toList_data _
  rw [e1, e2] at e
  apply ByteArray.ext
  exact Array.ext' e
/-- Is an identifier not too large? -/
def ltB (D : Sx) : Bool := decide (D.l.length < 30) && decide (D.m.length < 600) && decide (D.s.length < 600)
set_option maxRecDepth 100000 in
theorem light11_any (D : Sx) (us : List Value) (w : World) (hd : SLay w D us) :
    Calls Tryz.prog 8 #[.agg us.toArray] w fun e w' => e = .returned (.bool (ltB D)) ∧ Below w.heap.size w w' := by
  obtain ⟨kx, tx, nx, xo, xn, xc, yo, yn, yc, ax, po, pn, pc, qo, qn, qc, rfl⟩ := sx_shapes hd
  obtain ⟨h1, h2, h3⟩ : yn = D.l.length ∧ pn = D.m.length ∧ qn = D.s.length := by
    obtain ⟨_, _, _, _, _, he, _, _, _, hl, hm, hs, _⟩ := hd.open'
    simp only [List.cons.injEq, and_true] at he
    obtain ⟨_, _, _, _, rfl, _, rfl, rfl⟩ := he
    obtain ⟨_, _, _, _, e1, _⟩ := hl
    obtain ⟨_, _, _, _, e2, _⟩ := hm
    obtain ⟨_, _, _, _, e3, _⟩ := hs
    simp only [Value.slice.injEq] at e1 e2 e3
    exact ⟨e1.2.1, e2.2.1, e3.2.1⟩
  have HB1 := Lib.hid (below1 w (.cells #[.int .i64 kx, .string tx, .bool nx, .slice xo xn xc, .slice yo yn yc, .int .i64 ax, .slice po pn pc, .slice qo qn qc] 29))
  obtain ⟨c0, c1, c2, c3, c4, c5, c6, c7⟩ := rowS8 (heap_alloc_new w (.cells #[.int .i64 kx, .string tx, .bool nx, .slice xo xn xc, .slice yo yn yc, .int .i64 ax, .slice po pn pc, .slice qo qn qc] 29))
  have HV : Hid (ltB D = (decide ((yn : Int) < 30) && decide ((pn : Int) < 600) && decide ((qn : Int) < 600))) := Lib.hid (by
    unfold ltB
    rw [← h1, ← h2, ← h3]
    congr 1
    · congr 1
      · exact decide_eq_decide.2 (by omega)
      · exact decide_eq_decide.2 (by omega)
    · exact decide_eq_decide.2 (by omega))
  clear hd h1 h2 h3
  show Calls Tryz.prog 8 #[.agg #[.int .i64 kx, .string tx, .bool nx, .slice xo xn xc, .slice yo yn yc, .int .i64 ax, .slice po pn pc, .slice qo qn qc]] w _
  go_enter Tryz.func8, Tryz.ntmps8
  cases d1 : decide ((yn : Int) < 30) with
  | false =>
    go_wp2_with fail
    go_ret
    exact ⟨ret_bl (by rw [HV.out, d1]; rfl), HB1.out⟩
  | true =>
    cases d2 : decide ((pn : Int) < 600) with
    | false =>
      go_wp2_with fail
      go_ret
      exact ⟨ret_bl (by rw [HV.out, d1, d2]; rfl), HB1.out⟩
    | true =>
      go_wp2_with fail
      go_ret
      exact ⟨ret_bl (by rw [HV.out, d1, d2]; rfl), HB1.out⟩

/-- Would one bind the other? -/
noncomputable def bndB (D E : Sx) : Bool := idB D && (idB E && (decide (D.t = E.t) && sameZ D.m E.m))
set_option maxRecDepth 100000 in
set_option maxHeartbeats 4000000 in
/-- rib.Bound. -/
theorem bound_any (D E : Sx) (us vs : List Value) (w : World) (hd : SLay w D us) (he : SLay w E vs) (hsm : SmS 1100000 D) (hsm2 : SmS 1100000 E) (ht : Tabs w) :
    Calls Tryz.prog 15 #[.agg us.toArray, .agg vs.toArray] w fun e w' => e = .returned (.bool (bndB D E)) ∧ Below w.heap.size w w' := by
  have HD := Lib.hid hd
  have HE := Lib.hid he
  have HSM := Lib.hid hsm
  have HSM2 := Lib.hid hsm2
  have HT := Lib.hid ht
  obtain ⟨kx, tx, nx, xo, xn, xc, yo, yn, yc, ax, po, pn, pc, qo, qn, qc, rfl⟩ := sx_shapes hd
  obtain ⟨kx', tx', nx', xo', xn', xc', yo', yn', yc', ax', po', pn', pc', qo', qn', qc', rfl⟩ := sx_shapes he
  have HX : Hid (tx = D.t ∧ Iz w (.slice po pn pc) D.m) := Lib.hid (by
    obtain ⟨_, _, _, _, _, he, _, _, _, hl, hm, hs, _⟩ := hd.open'
    simp only [List.cons.injEq, and_true] at he
    obtain ⟨_, h1, _, _, _, _, rfl, _⟩ := he
    exact ⟨by injection h1, hm⟩)
  have HX2 : Hid (tx' = E.t ∧ Iz w (.slice po' pn' pc') E.m) := Lib.hid (by
    obtain ⟨_, _, _, _, _, he, _, _, _, hl, hm, hs, _⟩ := he.open'
    simp only [List.cons.injEq, and_true] at he
    obtain ⟨_, h1, _, _, _, _, rfl, _⟩ := he
    exact ⟨by injection h1, hm⟩)
  clear hd he hsm hsm2 ht
  have hb1 := (below1 w (.cells #[.int .i64 kx, .string tx, .bool nx, .slice xo xn xc, .slice yo yn yc, .int .i64 ax, .slice po pn pc, .slice qo qn qc] 29)).trans ((below1 (w.alloc (.cells #[.int .i64 kx, .string tx, .bool nx, .slice xo xn xc, .slice yo yn yc, .int .i64 ax, .slice po pn pc, .slice qo qn qc] 29)) (.cells #[.int .i64 kx', .string tx', .bool nx', .slice xo' xn' xc', .slice yo' yn' yc', .int .i64 ax', .slice po' pn' pc', .slice qo' qn' qc'] 29)).mono (by simp))
  have hn1 := @newsw2 w (.cells #[.int .i64 kx, .string tx, .bool nx, .slice xo xn xc, .slice yo yn yc, .int .i64 ax, .slice po pn pc, .slice qo qn qc] 29) (.cells #[.int .i64 kx', .string tx', .bool nx', .slice xo' xn' xc', .slice yo' yn' yc', .int .i64 ax', .slice po' pn' pc', .slice qo' qn' qc'] 29)
  show Calls Tryz.prog 15 #[.agg #[.int .i64 kx, .string tx, .bool nx, .slice xo xn xc, .slice yo yn yc, .int .i64 ax, .slice po pn pc, .slice qo qn qc], .agg #[.int .i64 kx', .string tx', .bool nx', .slice xo' xn' xc', .slice yo' yn' yc', .int .i64 ax', .slice po' pn' pc', .slice qo' qn' qc']] w _
  go_enter Tryz.func15, Tryz.ntmps15
  go_upto_region 1 with fail
  generalize (w.alloc (.cells #[.int .i64 kx, .string tx, .bool nx, .slice xo xn xc, .slice yo yn yc, .int .i64 ax, .slice po pn pc, .slice qo qn qc] 29)).alloc (.cells #[.int .i64 kx', .string tx', .bool nx', .slice xo' xn' xc', .slice yo' yn' yc', .int .i64 ax', .slice po' pn' pc', .slice qo' qn' qc'] 29) = w1 at *
  have HB1 := Lib.hid hb1
  have HN1 := Lib.hid hn1.1
  have HM1 := Lib.hid hn1.2
  clear hb1 hn1
  obtain ⟨c0, c1, c2, c3, c4, c5, c6, c7⟩ := rowS8 HN1.out
  obtain ⟨f0, f1, f2, f3, f4, f5, f6, f7⟩ := rowS8 HM1.out
  go_wp2_with fail
  refine (ident_any D _ w1 (HD.out.keep HB1.out) HSM.out (HT.out.below HB1.out (Nat.le_refl _))).mono ?_
  rintro e w2 ⟨rfl, hb2⟩
  have HB2 := Lib.hid (HB1.out.trans (hb2.mono HB1.out.size))
  have HN2 := Lib.hid ((hb2.block _ (Array.getElem?_eq_some_iff.1 HN1.out).1).trans HN1.out)
  have HM2 := Lib.hid ((hb2.block _ (Array.getElem?_eq_some_iff.1 HM1.out).1).trans HM1.out)
  clear hb2 c0 c1 c2 c3 c4 c5 c6 c7 f0 f1 f2 f3 f4 f5 f6 f7
  obtain ⟨i1, HI1⟩ : ∃ b, Hid (idB D = b) := ⟨_, Lib.hid rfl⟩
  rw [HI1.out]
  cases i1 with
  | false =>
    go_wp2_with fail
    go_ret
    exact ⟨ret_bl (by unfold bndB; rw [HI1.out]; rfl), HB2.out⟩
  | true =>
    obtain ⟨c0, c1, c2, c3, c4, c5, c6, c7⟩ := rowS8 HN2.out
    obtain ⟨f0, f1, f2, f3, f4, f5, f6, f7⟩ := rowS8 HM2.out
    go_wp2_with fail
    refine (ident_any E _ w2 (HE.out.keep HB2.out) HSM2.out (HT.out.below HB2.out (Nat.le_refl _))).mono ?_
    rintro e w3 ⟨rfl, hb3⟩
    have HB3 := Lib.hid (HB2.out.trans (hb3.mono HB2.out.size))
    have HN3 := Lib.hid ((hb3.block _ (Array.getElem?_eq_some_iff.1 HN2.out).1).trans HN2.out)
    have HM3 := Lib.hid ((hb3.block _ (Array.getElem?_eq_some_iff.1 HM2.out).1).trans HM2.out)
    clear hb3 c0 c1 c2 c3 c4 c5 c6 c7 f0 f1 f2 f3 f4 f5 f6 f7
    obtain ⟨i2, HI2⟩ : ∃ b, Hid (idB E = b) := ⟨_, Lib.hid rfl⟩
    rw [HI2.out]
    cases i2 with
    | false =>
      go_wp2_with fail
      go_ret
      exact ⟨ret_bl (by unfold bndB; rw [HI1.out, HI2.out]; rfl), HB3.out⟩
    | true =>
      obtain ⟨c0, c1, c2, c3, c4, c5, c6, c7⟩ := rowS8 HN3.out
      obtain ⟨f0, f1, f2, f3, f4, f5, f6, f7⟩ := rowS8 HM3.out
      by_cases htx : tx = tx'
      · subst htx
        have hbe : (tx.toList == tx.toList) = true := beq_self_eq_true _
        go_wp2_with fail
        refine (equalz_any _ _ D.m E.m w3 (HX.out.2.below HB3.out) (HX2.out.2.below HB3.out)).mono ?_
        rintro e w4 ⟨rfl, hb4⟩
        have HB4 := Lib.hid (HB3.out.trans (hb4.mono HB3.out.size))
        have HV : Hid (bndB D E = sameZ D.m E.m) := Lib.hid (by unfold bndB; rw [HI1.out, HI2.out, ← HX.out.1, ← HX2.out.1, decide_eq_true rfl]; rfl)
        clear hb4 c0 c1 c2 c3 c4 c5 c6 c7 f0 f1 f2 f3 f4 f5 f6 f7
        go_wp2_with fail
        go_ret
        exact ⟨ret_bl HV.out.symm, HB4.out⟩
      · have hbe := txt_neB htx
        have HV : Hid (bndB D E = false) := Lib.hid (by unfold bndB; rw [← HX.out.1, ← HX2.out.1, decide_eq_false htx]; simp)
        go_wp2_with fail
        go_ret
        exact ⟨ret_bl HV.out.symm, HB3.out⟩

end Go.Proofs.YtegengnffdlplaaGreatDoor
namespace Go.Proofs.YtegengnffdlplaaGreatDoor
open Go.RowKit

/-- An entry in memory. -/
def EnAt (P : Nat → Prop) (w : World) (e : En) (vs : List Value) : Prop := ∃ mv, vs = [.int .i64 e.rib, .string e.nm, mv, .int .i64 e.lb] ∧ RowV w mv e.ms.length 1 (ics .i64 e.ms) ∧ InP P e.ms.length mv
theorem EnAt.len {P : Nat → Prop} {w : World} {e : En} {vs : List Value} (h : EnAt P w e vs) : vs.length = 4 := by obtain ⟨_, rfl, _⟩ := h; rfl
theorem EnAt.move {P : Nat → Prop} {w w' : World} {e : En} {vs : List Value} (h : EnAt P w e vs) (hk : Keeps P w w') : EnAt P w' e vs := by
  obtain ⟨mv, h1, h2, h3⟩ := h
  exact ⟨mv, h1, h2.move h3 hk, h3⟩
theorem EnAt.mono {P Q : Nat → Prop} {w : World} {e : En} {vs : List Value} (h : EnAt P w e vs) (hq : ∀ b, b < w.heap.size → P b → Q b) : EnAt Q w e vs := by
  obtain ⟨mv, h1, h2, h3⟩ := h
  exact ⟨mv, h1, h2, h3.mono h2.lt hq⟩
/-- A row of entries. -/
structure EnRow (P : Nat → Prop) (w : World) (l : List En) (us : List Value) : Prop where
  len : us.length = l.length * 4
  each : ∀ (i : Nat) (h : i < l.length), EnAt P w (l[i]'h) ((us.drop (i * 4)).take 4)
theorem EnRow.nil (P : Nat → Prop) (w : World) : EnRow P w [] [] := ⟨rfl, fun i h => by simp at h⟩
theorem EnRow.snoc {P : Nat → Prop} {w : World} {l : List En} {us : List Value} (h : EnRow P w l us) {d : En} {cs : List Value} (hd : EnAt P w d cs) : EnRow P w (l ++ [d]) (us ++ cs) := by
  have hc := hd.len
  have hl := h.len
  refine ⟨by simp [hl, hc]; omega, fun i hi => ?_⟩
  simp only [List.length_append, List.length_singleton] at hi
  rcases Nat.lt_or_ge i l.length with hin | hin
  · have e1 : ((us ++ cs).drop (i * 4)).take 4 = (us.drop (i * 4)).take 4 := by
      rw [List.drop_append_of_le_length (by omega), List.take_append_of_le_length (by rw [List.length_drop]; omega)]
    have e2 : (l ++ [d])[i] = l[i]'(by omega) := List.getElem_append_left (by omega)
    rw [e1, e2]
    exact h.each i hin
  · obtain rfl : i = l.length := by omega
    have e1 : ((us ++ cs).drop (l.length * 4)).take 4 = cs := by
      rw [List.drop_append_of_le_length (by omega), List.drop_of_length_le (by omega), List.nil_append, List.take_of_length_le (by omega)]
    have e2 : (l ++ [d])[l.length]'(by simp) = d := by
      rw [List.getElem_append_right (by omega)]
      simp
    rw [e1, e2]
    exact hd
theorem EnRow.move {P : Nat → Prop} {w w' : World} (hk : Keeps P w w') {l : List En} {us : List Value} (h : EnRow P w l us) : EnRow P w' l us := ⟨h.len, fun i hi => (h.each i hi).move hk⟩
theorem EnRow.mono {P Q : Nat → Prop} {w : World} {l : List En} {us : List Value} (h : EnRow P w l us) (hq : ∀ b, b < w.heap.size → P b → Q b) : EnRow Q w l us := ⟨h.len, fun i hi => (h.each i hi).mono hq⟩
/-- A row of pieces, and one more behind it. -/
theorem EnRow.appended {P : Nat → Prop} {w w' : World} {v v' : Value} {l : List En} {us : List Value} {d : En} {cs : List Value} (h : EnRow (fun b => P b ∧ v.ownBlock ≠ some b) w l us) (hd : EnAt (fun b => P b ∧ v.ownBlock ≠ some b) w d cs) (hg : w.grownBy w' v.ownBlock) (hm : MovedTo w v v') :
    EnRow (fun b => P b ∧ v'.ownBlock ≠ some b) w' (l ++ [d]) (us ++ cs) := by
  have hk : Keeps (fun b => P b ∧ v.ownBlock ≠ some b) w w' := (Keeps.of_grown (P := fun b => v.ownBlock ≠ some b) hg fun g e hn => hn e).mono fun b _ h => h.2
  have hs := hg.size
  have hq : ∀ b, b < w.heap.size → (P b ∧ v.ownBlock ≠ some b) → (P b ∧ v.ownBlock ≠ some b) ∧ v'.ownBlock ≠ some b := fun b hb hp => ⟨hp, fun e => by
    rcases hm with e2 | ⟨b2, e2, hge⟩
    · rw [e2] at e; exact hp.2 e
    · rw [e2] at e; injection e with e; omega⟩
  have hk2 : Keeps (fun b => (P b ∧ v.ownBlock ≠ some b) ∧ v'.ownBlock ≠ some b) w w' := hk.mono fun b _ h => h.1
  have h2 := ((h.mono hq).move hk2).snoc ((hd.mono hq).move hk2)
  exact h2.mono fun b _ hp => ⟨hp.1.1, hp.2⟩

/-- The document's ribs in block m; their rows in blocks that are X. -/
structure RrW (w : World) (X : Nat → Prop) (m R : Nat) (es : List En) : Prop where
  ex : ∃ lv us, w.heap[m]? = some (.cells #[.int .i64 (R : Nat), lv] 50 (0, 0)) ∧ w.ownsRow (m + 1) 73 4 lv es.length us ∧ EnRow (fun b => X b ∧ lv.ownBlock ≠ some b) w es us ∧ ∀ b, lv.ownBlock = some b → X b
  far : ¬ X m
theorem RrW.keep {w w' : World} {X P : Nat → Prop} {m R : Nat} {es : List En} (h : RrW w X m R es) (hk : Keeps P w w') (hm : P m) (hx : ∀ b, X b → P b) : RrW w' X m R es := by
  obtain ⟨lv, us, h1, h2, h3, h4⟩ := h.ex
  exact ⟨⟨lv, us, (hk.2 m (Array.getElem?_eq_some_iff.1 h1).1 hm).trans h1, ownsRow_keep h2 hk fun b hb => hx b (h4 b hb), EnRow.move (hk.mono fun b _ hb => hx b hb.1) h3, h4⟩, h.far⟩
theorem RrW.below {w w' : World} {X : Nat → Prop} {m R : Nat} {es : List En} (h : RrW w X m R es) (hb : Below w.heap.size w w') : RrW w' X m R es := h.keep (Keeps.of_below (P := fun _ => True) hb) trivial fun _ _ => trivial
/-- The i-th entry, where it lies. -/
theorem row_en {P : Nat → Prop} {w : World} {B : Nat} {lv : Value} {es : List En} {us : List Value} (ho : w.ownsRow B 73 4 lv es.length us) (hr : EnRow P w es us) {i : Nat} (h : i < es.length) :
    ∃ b off cap mo mc, lv = .slice (some ⟨b, off, none⟩) es.length cap ∧ es.length ≤ cap ∧ b < w.heap.size ∧ Iz w (.slice mo (es[i]'h).ms.length mc) (es[i]'h).ms ∧ w.cell? ⟨b, off + i * 4, none⟩ = some (.int .i64 (es[i]'h).rib) ∧ w.cell? ⟨b, off + i * 4 + 1, none⟩ = some (.string (es[i]'h).nm) ∧ w.cell? ⟨b, off + i * 4 + 2, none⟩ = some (.slice mo (es[i]'h).ms.length mc) ∧ w.cell? ⟨b, off + i * 4 + 3, none⟩ = some (.int .i64 (es[i]'h).lb) := by
  obtain ⟨h1, _, ao, cap, h3, h4, h5⟩ := RowV.of_own ho
  obtain ⟨mv, hv, hm, _⟩ := hr.each i h
  rcases h5 with ⟨h5, _⟩ | ⟨b, off, h5, h6, h7⟩
  · omega
  · subst h5
    obtain ⟨mo, mc, rfl⟩ : ∃ o c, mv = .slice o (es[i]'h).ms.length c := by obtain ⟨_, _, o, c, h, _⟩ := hm; exact ⟨o, c, h⟩
    have hc : ∀ j u, j < 4 → ([.int .i64 (es[i]'h).rib, .string (es[i]'h).nm, .slice mo (es[i]'h).ms.length mc, .int .i64 (es[i]'h).lb] : List Value)[j]? = some u → w.cell? ⟨b, off + i * 4 + j, none⟩ = some u := fun j u hj hu => by
      rw [Nat.add_assoc]
      exact h7 _ _ (by rw [← hv, List.getElem?_take, if_pos hj, List.getElem?_drop] at hu; exact hu)
    exact ⟨b, off, cap, mo, mc, h3, h4, h6, hm, hc 0 _ (by omega) rfl, hc 1 _ (by omega) rfl, hc 2 _ (by omega) rfl, hc 3 _ (by omega) rfl⟩
theorem rowp2r {W : World} {g : Nat} {a0 a1 : Value} {e : TypeId} (h : W.heap[g]? = some (.cells #[a0, a1] e (0, 0))) : W.cell? ⟨g, 0, none⟩ = some a0 ∧ W.cell? ⟨g, 1, none⟩ = some a1 ∧ W.frozen? ⟨g, 0, none⟩ = false ∧ W.frozen? ⟨g, 1, none⟩ = false := ⟨cell_heap h 0, cell_heap h 1, frozen_heap h 0, frozen_heap h 1⟩
theorem row4r {W : World} {g : Nat} {a0 a1 a2 a3 : Value} {e : TypeId} (h : W.heap[g]? = some (.cells #[a0, a1, a2, a3] e (0, 0))) : W.cell? ⟨g, 0, none⟩ = some a0 ∧ W.cell? ⟨g, 1, none⟩ = some a1 ∧ W.cell? ⟨g, 2, none⟩ = some a2 ∧ W.cell? ⟨g, 3, none⟩ = some a3 ∧ W.frozen? ⟨g, 0, none⟩ = false ∧ W.frozen? ⟨g, 1, none⟩ = false ∧ W.frozen? ⟨g, 2, none⟩ = false ∧ W.frozen? ⟨g, 3, none⟩ = false :=
  ⟨cell_heap h 0, cell_heap h 1, cell_heap h 2, cell_heap h 3, frozen_heap h 0, frozen_heap h 1, frozen_heap h 2, frozen_heap h 3⟩
theorem atL_step {es : List En} {i : Nat} (h : i < es.length) (b : Int) (n : ByteArray) (m : List Int) : atL (es.drop i) b n m = if (es[i]'h).rib = b ∧ (es[i]'h).nm = n ∧ (es[i]'h).ms = m then (es[i]'h).lb else atL (es.drop (i + 1)) b n m := by
  rw [List.drop_eq_getElem_cons h]
  rfl

set_option maxRecDepth 100000 in
set_option maxHeartbeats 4000000 in
/-- at. -/
theorem rat_any (w : World) (X : Nat → Prop) (m R : Nat) (es : List En) (h : RrW w X m R es) (b : Int) (n : ByteArray) (mv : Value) (ms : List Int) (hv : Iz w mv ms) (hl : es.length ≤ 1000) :
    Calls Tryz.prog 26 #[.pointer (some ⟨m, 0, none⟩), .int .i64 b, .string n, mv] w fun e w' => e = .returned (.int .i64 (atL es b n ms)) ∧ Below w.heap.size w w' := by
  obtain ⟨lv, us, hbx, how, hrw, _⟩ := h.ex
  have HB := Lib.hid hbx
  have HO := Lib.hid how
  have HR := Lib.hid hrw
  have HV := Lib.hid hv
  obtain ⟨vo, vc, rfl⟩ := own_dslice how
  obtain ⟨mo, mn, mc, rfl⟩ : ∃ o n c, mv = .slice o n c := by obtain ⟨_, _, o, c, h, _⟩ := hv; exact ⟨o, _, c, h⟩
  clear h hbx how hrw hv
  go_enter Tryz.func26, Tryz.ntmps26
  go_wp2_with fail
  go_loopw [9] (fun v wr => ∃ i : Nat, v = .int .i64 (i : Nat) ∧ i ≤ es.length ∧ Below w.heap.size w wr ∧ atL es b n ms = atL (es.drop i) b n ms) (fun v _ => es.length - (intOf v).toNat)
  case atStart => exact ⟨0, rfl, Nat.zero_le _, Below.refl _ _, by simp⟩
  case round =>
    obtain ⟨i, rfl, hi, hb, ha⟩ := hrel
    have HBR := Lib.hid hb
    have HA := Lib.hid ha
    have hbx := (hb.block _ (Array.getElem?_eq_some_iff.1 HB.out).1).trans HB.out
    clear hb ha
    obtain ⟨c0, c1, _, _⟩ := rowp2r hbx
    clear hbx
    by_cases hil : i < es.length
    · have hii : ((i : Nat) : Int) < ((es.length : Nat) : Int) := by omega
      obtain ⟨rb, ro, rc, xo, xc, hlv, _, _, hms, p0, p1, p2, p3⟩ := row_en (ownsRow_keep HO.out (Keeps.of_below (P := fun _ => True) HBR.out) fun _ _ => trivial) (EnRow.move (Keeps.of_below HBR.out) HR.out) hil
      simp only [Value.slice.injEq, true_and] at hlv
      obtain ⟨rfl, rfl⟩ := hlv
      have HMS := Lib.hid hms
      have HST := Lib.hid (atL_step hil b n ms)
      clear hms
      generalize es[i]'hil = q at *
      obtain ⟨qr, qn, qm, ql⟩ := q
      simp only at HMS HST p0 p1 p2 p3
      have hb3 := below1 wr (.cells #[.int .i64 qr, .string qn, .slice xo qm.length xc, .int .i64 ql] 73)
      have hx3 := heap_alloc_new wr (.cells #[.int .i64 qr, .string qn, .slice xo qm.length xc, .int .i64 ql] 73)
      go_upto_region 5 with fail
      clear p0 p1 p2 p3 c0 c1
      generalize wr.alloc (.cells #[.int .i64 qr, .string qn, .slice xo qm.length xc, .int .i64 ql] 73) = w3 at *
      have HB3 := Lib.hid (HBR.out.trans (hb3.mono HBR.out.size))
      have HX3 := Lib.hid hx3
      have HMS3 := Lib.hid (HMS.out.below hb3)
      clear hb3 hx3 HMS
      obtain ⟨d0, d1, d2, d3, _, _, _, _⟩ := row4r HX3.out
      by_cases h1 : qr = b
      · have e1 : (qr == b) = true := by rw [h1]; exact beq_self_eq_true _
        by_cases h2 : qn = n
        · subst h2
          have e2 : (qn.toList == qn.toList) = true := beq_self_eq_true _
          go_wp2_with fail
          refine (sameintz_any _ _ qm ms w3 HMS3.out (HV.out.below HB3.out)).mono ?_
          rintro e w4 ⟨rfl, hb4⟩
          have HB4 := Lib.hid (HB3.out.trans (hb4.mono HB3.out.size))
          have HX4 := Lib.hid ((hb4.block _ (Array.getElem?_eq_some_iff.1 HX3.out).1).trans HX3.out)
          clear hb4 d0 d1 d2 d3
          obtain ⟨d0, d1, d2, d3, _, _, _, _⟩ := row4r HX4.out
          by_cases h3 : qm = ms
          · have HQ : Hid (atL es b qn ms = ql) := Lib.hid (by rw [HA.out, HST.out, if_pos (by simp [h1, h3])])
            rw [sameZ_true h3]
            clear h1 h3 e1 e2
            go_wp2_with fail
            go_ret
            exact ⟨ret_int HQ.out.symm, HB4.out⟩
          · have HQ : Hid (atL es b qn ms = atL (es.drop (i + 1)) b qn ms) := Lib.hid (by rw [HA.out, HST.out, if_neg fun h => h3 h.2.2])
            rw [sameZ_false h3]
            clear h3
            go_wp2_with fail
            go_roundw
            case measure => simp only [intOf]; omega
            case rel => exact ⟨i + 1, by go_num, by omega, HB4.out, HQ.out⟩
        · have e2 := txt_neB h2
          have HQ : Hid (atL es b n ms = atL (es.drop (i + 1)) b n ms) := Lib.hid (by rw [HA.out, HST.out, if_neg fun h => h2 h.2.1])
          clear h2
          go_wp2_with fail
          go_roundw
          case measure => simp only [intOf]; omega
          case rel => exact ⟨i + 1, by go_num, by omega, HB3.out, HQ.out⟩
      · have e1 : (qr == b) = false := by simpa using h1
        have HQ : Hid (atL es b n ms = atL (es.drop (i + 1)) b n ms) := Lib.hid (by rw [HA.out, HST.out, if_neg fun h => h1 h.1])
        clear h1
        go_wp2_with fail
        go_roundw
        case measure => simp only [intOf]; omega
        case rel => exact ⟨i + 1, by go_num, by omega, HB3.out, HQ.out⟩
    · obtain rfl : es.length = i := by omega
      have HQ : Hid (atL es b n ms = 0) := Lib.hid (by rw [HA.out, List.drop_of_length_le (Nat.le_refl _)]; rfl)
      go_wp2_with fail
      go_ret
      exact ⟨ret_int HQ.out.symm, HBR.out⟩
end Go.Proofs.YtegengnffdlplaaGreatDoor
