/- Free, of the program and of the document. -/
import Derived.Test.YtegengnffdlplaaGreatDoorRbRef2
namespace Go.Proofs.YtegengnffdlplaaGreatDoor
open Go.RowKit

/-- Do they mean the same? -/
noncomputable def frB (x y : Int) (A B : Sx) : Bool := idB A && (idB B && (decide (x = y) && (decide (x ≠ 0) || decide (A.t = B.t))))
theorem fnd_nn {at' : Int → List Int → Int} (h : ∀ b m, 0 ≤ at' b m) : ∀ (ss m : List Int), 0 ≤ fndL at' ss m
  | [], _ => Int.le_refl 0
  | b :: ss, m => by
    unfold fndL
    split
    · exact fnd_nn h ss _
    · split
      · exact h _ _
      · exact fnd_nn h ss _
theorem atL_nn {es : List En} (h : ∀ x ∈ es, 1 ≤ x.lb ∧ Rg x.ms) (b : Int) (n : ByteArray) (m : List Int) : 0 ≤ atL es b n m := by
  rcases atL_pos h b n m with ⟨h, _⟩ | ⟨h, _⟩ <;> omega

set_option maxRecDepth 100000 in
set_option maxHeartbeats 4000000 in
/-- rib's Free. -/
theorem cfree_any (w : World) (g : Nat) (ob : Option Nat) (R G : Nat) (tk : Ek → Option Int) (h : RbW w g ob R G tk) (D E : Sx) (us vs : List Value) (hd : SLay w D us) (he : SLay w E vs) (hsm : SmS 1100000 D) (hsm2 : SmS 1100000 E) (ht : Tabs w) :
    Calls Tryz.prog 13 #[.pointer (some ⟨g, 0, none⟩), .agg us.toArray, .agg vs.toArray] w fun e w' => e = .returned (.bool (frB (fndL (atE tk D.t) D.s D.m) (fndL (atE tk E.t) E.s E.m) D E)) ∧ Below w.heap.size w w' := by
  have HR := Lib.hid h
  have HT := Lib.hid ht
  clear h ht
  have HD := Lib.hid hd
  have HE := Lib.hid he
  have HSM := Lib.hid hsm
  have HSM2 := Lib.hid hsm2
  obtain ⟨kx, tx, nx, xo, xn, xc, yo, yn, yc, ax, po, pn, pc, qo, qn, qc, rfl⟩ := sx_shapes hd
  obtain ⟨kx', tx', nx', xo', xn', xc', yo', yn', yc', ax', po', pn', pc', qo', qn', qc', rfl⟩ := sx_shapes he
  have HX : Hid (tx = D.t) := Lib.hid (by
    obtain ⟨_, _, _, _, _, he, _⟩ := hd.open'
    simp only [List.cons.injEq, and_true] at he
    obtain ⟨_, h1, _⟩ := he
    injection h1)
  have HX2 : Hid (tx' = E.t) := Lib.hid (by
    obtain ⟨_, _, _, _, _, he, _⟩ := he.open'
    simp only [List.cons.injEq, and_true] at he
    obtain ⟨_, h1, _⟩ := he
    injection h1)
  clear hd he hsm hsm2
  have hb1 := (below1 w (.cells #[.int .i64 kx, .string tx, .bool nx, .slice xo xn xc, .slice yo yn yc, .int .i64 ax, .slice po pn pc, .slice qo qn qc] 29)).trans ((below1 (w.alloc (.cells #[.int .i64 kx, .string tx, .bool nx, .slice xo xn xc, .slice yo yn yc, .int .i64 ax, .slice po pn pc, .slice qo qn qc] 29)) (.cells #[.int .i64 kx', .string tx', .bool nx', .slice xo' xn' xc', .slice yo' yn' yc', .int .i64 ax', .slice po' pn' pc', .slice qo' qn' qc'] 29)).mono (by simp))
  have hn1 := @newsw2 w (.cells #[.int .i64 kx, .string tx, .bool nx, .slice xo xn xc, .slice yo yn yc, .int .i64 ax, .slice po pn pc, .slice qo qn qc] 29) (.cells #[.int .i64 kx', .string tx', .bool nx', .slice xo' xn' xc', .slice yo' yn' yc', .int .i64 ax', .slice po' pn' pc', .slice qo' qn' qc'] 29)
  show Calls Tryz.prog 13 #[.pointer (some ⟨g, 0, none⟩), .agg #[.int .i64 kx, .string tx, .bool nx, .slice xo xn xc, .slice yo yn yc, .int .i64 ax, .slice po pn pc, .slice qo qn qc], .agg #[.int .i64 kx', .string tx', .bool nx', .slice xo' xn' xc', .slice yo' yn' yc', .int .i64 ax', .slice po' pn' pc', .slice qo' qn' qc']] w _
  go_enter Tryz.func13, Tryz.ntmps13
  go_upto_region 1 with fail
  generalize (w.alloc (.cells #[.int .i64 kx, .string tx, .bool nx, .slice xo xn xc, .slice yo yn yc, .int .i64 ax, .slice po pn pc, .slice qo qn qc] 29)).alloc (.cells #[.int .i64 kx', .string tx', .bool nx', .slice xo' xn' xc', .slice yo' yn' yc', .int .i64 ax', .slice po' pn' pc', .slice qo' qn' qc'] 29) = w1 at *
  have HB1 := Lib.hid hb1
  have HN1 := Lib.hid hn1.1
  have HM1 := Lib.hid hn1.2
  clear hb1 hn1
  obtain ⟨c0, c1, c2, c3, c4, c5, c6, c7⟩ := rowS8 HN1.out
  obtain ⟨f0, f1, f2, f3, f4, f5, f6, f7⟩ := rowS8 HM1.out
  go_wp2_with fail
  refine (rfind_any w1 g ob R G tk (HR.out.below HB1.out) D _ (HD.out.keep HB1.out) HSM.out (HT.out.below HB1.out (Nat.le_refl _))).mono ?_
  rintro e w2 ⟨rfl, hb⟩
  have HB2 := Lib.hid (HB1.out.trans (hb.mono HB1.out.size))
  have HN2 := Lib.hid ((hb.block _ (Array.getElem?_eq_some_iff.1 HN1.out).1).trans HN1.out)
  have HM2 := Lib.hid ((hb.block _ (Array.getElem?_eq_some_iff.1 HM1.out).1).trans HM1.out)
  clear hb c0 c1 c2 c3 c4 c5 c6 c7 f0 f1 f2 f3 f4 f5 f6 f7
  obtain ⟨a1, HA1⟩ : ∃ a, Hid (fndB tk D = a) := ⟨_, Lib.hid rfl⟩
  obtain ⟨a2, HA2⟩ : ∃ a, Hid (fndE D = a) := ⟨_, Lib.hid rfl⟩
  rw [HA1.out, HA2.out]
  obtain ⟨c0, c1, c2, c3, c4, c5, c6, c7⟩ := rowS8 HN2.out
  obtain ⟨f0, f1, f2, f3, f4, f5, f6, f7⟩ := rowS8 HM2.out
  go_wp2_with fail
  refine (rfind_any w2 g ob R G tk (HR.out.below HB2.out) E _ (HE.out.keep HB2.out) HSM2.out (HT.out.below HB2.out (Nat.le_refl _))).mono ?_
  rintro e w3 ⟨rfl, hb⟩
  have HB3 := Lib.hid (HB2.out.trans (hb.mono HB2.out.size))
  have HN3 := Lib.hid ((hb.block _ (Array.getElem?_eq_some_iff.1 HN2.out).1).trans HN2.out)
  have HM3 := Lib.hid ((hb.block _ (Array.getElem?_eq_some_iff.1 HM2.out).1).trans HM2.out)
  clear hb c0 c1 c2 c3 c4 c5 c6 c7 f0 f1 f2 f3 f4 f5 f6 f7
  obtain ⟨b1, HC1⟩ : ∃ a, Hid (fndB tk E = a) := ⟨_, Lib.hid rfl⟩
  obtain ⟨b2, HC2⟩ : ∃ a, Hid (fndE E = a) := ⟨_, Lib.hid rfl⟩
  rw [HC1.out, HC2.out]
  cases hi : idB D with
  | false =>
    have e2 : a2 = 1 := by rw [← HA2.out]; unfold fndE; rw [hi]; rfl
    have HV : Hid (frB (fndL (atE tk D.t) D.s D.m) (fndL (atE tk E.t) E.s E.m) D E = false) := Lib.hid (by unfold frB; rw [hi]; rfl)
    subst e2
    clear hi
    go_wp2_with fail
    go_ret
    exact ⟨ret_bl HV.out.symm, HB3.out⟩
  | true =>
    have e2 : a2 = 0 := by rw [← HA2.out]; unfold fndE; rw [hi]; rfl
    have e1 : fndL (atE tk D.t) D.s D.m = a1 := by rw [← HA1.out]; unfold fndB; rw [hi]; rfl
    subst e2
    cases hi2 : idB E with
    | false =>
      have e3 : b2 = 1 := by rw [← HC2.out]; unfold fndE; rw [hi2]; rfl
      have HV : Hid (frB (fndL (atE tk D.t) D.s D.m) (fndL (atE tk E.t) E.s E.m) D E = false) := Lib.hid (by unfold frB; rw [hi2]; simp)
      subst e3
      clear hi hi2 e1
      go_wp2_with fail
      go_ret
      exact ⟨ret_bl HV.out.symm, HB3.out⟩
    | true =>
      have e3 : b2 = 0 := by rw [← HC2.out]; unfold fndE; rw [hi2]; rfl
      have e4 : fndL (atE tk E.t) E.s E.m = b1 := by rw [← HC1.out]; unfold fndB; rw [hi2]; rfl
      subst e3
      have HXE := Lib.hid e1
      have HYE := Lib.hid e4
      have HFR : Hid (∀ x y, frB x y D E = (decide (x = y) && (decide (x ≠ 0) || decide (D.t = E.t)))) := Lib.hid fun x y => by unfold frB; rw [hi, hi2]; rfl
      clear HA1 HA2 HC1 HC2 e1 e4 hi hi2
      revert HXE HYE
      generalize a1 = x at *
      generalize b1 = y at *
      intro HXE HYE
      by_cases hxy : x = y
      · subst hxy
        by_cases hx0 : x = 0
        · subst hx0
          by_cases htt : tx = tx'
          · have HV : Hid (frB 0 0 D E = true) := Lib.hid (by rw [HFR.out, ← HX.out, ← HX2.out, htt]; simp)
            subst htt
            have hbe : (tx.toList == tx.toList) = true := beq_self_eq_true _
            obtain ⟨c0, c1, c2, c3, c4, c5, c6, c7⟩ := rowS8 HN3.out
            obtain ⟨f0, f1, f2, f3, f4, f5, f6, f7⟩ := rowS8 HM3.out
            go_wp2_with fail
            go_ret
            exact ⟨ret_bl (by rw [HXE.out, HYE.out]; exact HV.out.symm), HB3.out⟩
          · have HV : Hid (frB 0 0 D E = false) := Lib.hid (by rw [HFR.out, ← HX.out, ← HX2.out]; simp [htt])
            have hbe := txt_neB htt
            obtain ⟨c0, c1, c2, c3, c4, c5, c6, c7⟩ := rowS8 HN3.out
            obtain ⟨f0, f1, f2, f3, f4, f5, f6, f7⟩ := rowS8 HM3.out
            go_wp2_with fail
            go_ret
            exact ⟨ret_bl (by rw [HXE.out, HYE.out]; exact HV.out.symm), HB3.out⟩
        · have HV : Hid (frB x x D E = true) := Lib.hid (by rw [HFR.out]; simp [hx0])
          have hne : (x != 0) = true := by simpa using hx0
          have hxx : (x == x) = true := beq_self_eq_true _
          go_wp2_with fail
          go_ret
          exact ⟨ret_bl (by rw [HXE.out, HYE.out]; exact HV.out.symm), HB3.out⟩
      · have HV : Hid (frB x y D E = false) := Lib.hid (by rw [HFR.out]; simp [hxy])
        have hne : (x == y) = false := by simpa using hxy
        go_wp2_with fail
        go_ret
        exact ⟨ret_bl (by rw [HXE.out, HYE.out]; exact HV.out.symm), HB3.out⟩

set_option maxRecDepth 100000 in
set_option maxHeartbeats 4000000 in
/-- The document's Free. -/
theorem rrfree_any (w : World) (Xb : Nat → Prop) (m R : Nat) (es : List En) (h : RrW w Xb m R es) (D E : Sx) (us vs : List Value) (hd : SLay w D us) (he : SLay w E vs) (hsm : SmS 1100000 D) (hsm2 : SmS 1100000 E) (hl : es.length ≤ 1000) (hpos : ∀ x ∈ es, 1 ≤ x.lb ∧ Rg x.ms) :
    Calls Tryz.prog 14 #[.pointer (some ⟨m, 0, none⟩), .agg us.toArray, .agg vs.toArray] w fun e w' => e = .returned (.bool (frB (fndL (fun b t => atL es b D.t t) D.s D.m) (fndL (fun b t => atL es b E.t t) E.s E.m) D E)) ∧ Below w.heap.size w w' := by
  have HR := Lib.hid h
  have HL := Lib.hid hl
  have HPS := Lib.hid hpos
  clear h hl hpos
  have HD := Lib.hid hd
  have HE := Lib.hid he
  have HSM := Lib.hid hsm
  have HSM2 := Lib.hid hsm2
  obtain ⟨kx, tx, nx, xo, xn, xc, yo, yn, yc, ax, po, pn, pc, qo, qn, qc, rfl⟩ := sx_shapes hd
  obtain ⟨kx', tx', nx', xo', xn', xc', yo', yn', yc', ax', po', pn', pc', qo', qn', qc', rfl⟩ := sx_shapes he
  have HX : Hid (tx = D.t) := Lib.hid (by
    obtain ⟨_, _, _, _, _, he, _⟩ := hd.open'
    simp only [List.cons.injEq, and_true] at he
    obtain ⟨_, h1, _⟩ := he
    injection h1)
  have HX2 : Hid (tx' = E.t) := Lib.hid (by
    obtain ⟨_, _, _, _, _, he, _⟩ := he.open'
    simp only [List.cons.injEq, and_true] at he
    obtain ⟨_, h1, _⟩ := he
    injection h1)
  clear hd he hsm hsm2
  have hb1 := (below1 w (.cells #[.int .i64 kx, .string tx, .bool nx, .slice xo xn xc, .slice yo yn yc, .int .i64 ax, .slice po pn pc, .slice qo qn qc] 29)).trans ((below1 (w.alloc (.cells #[.int .i64 kx, .string tx, .bool nx, .slice xo xn xc, .slice yo yn yc, .int .i64 ax, .slice po pn pc, .slice qo qn qc] 29)) (.cells #[.int .i64 kx', .string tx', .bool nx', .slice xo' xn' xc', .slice yo' yn' yc', .int .i64 ax', .slice po' pn' pc', .slice qo' qn' qc'] 29)).mono (by simp))
  have hn1 := @newsw2 w (.cells #[.int .i64 kx, .string tx, .bool nx, .slice xo xn xc, .slice yo yn yc, .int .i64 ax, .slice po pn pc, .slice qo qn qc] 29) (.cells #[.int .i64 kx', .string tx', .bool nx', .slice xo' xn' xc', .slice yo' yn' yc', .int .i64 ax', .slice po' pn' pc', .slice qo' qn' qc'] 29)
  show Calls Tryz.prog 14 #[.pointer (some ⟨m, 0, none⟩), .agg #[.int .i64 kx, .string tx, .bool nx, .slice xo xn xc, .slice yo yn yc, .int .i64 ax, .slice po pn pc, .slice qo qn qc], .agg #[.int .i64 kx', .string tx', .bool nx', .slice xo' xn' xc', .slice yo' yn' yc', .int .i64 ax', .slice po' pn' pc', .slice qo' qn' qc']] w _
  go_enter Tryz.func14, Tryz.ntmps14
  go_upto_region 1 with fail
  generalize (w.alloc (.cells #[.int .i64 kx, .string tx, .bool nx, .slice xo xn xc, .slice yo yn yc, .int .i64 ax, .slice po pn pc, .slice qo qn qc] 29)).alloc (.cells #[.int .i64 kx', .string tx', .bool nx', .slice xo' xn' xc', .slice yo' yn' yc', .int .i64 ax', .slice po' pn' pc', .slice qo' qn' qc'] 29) = w1 at *
  have HB1 := Lib.hid hb1
  have HN1 := Lib.hid hn1.1
  have HM1 := Lib.hid hn1.2
  clear hb1 hn1
  obtain ⟨c0, c1, c2, c3, c4, c5, c6, c7⟩ := rowS8 HN1.out
  obtain ⟨f0, f1, f2, f3, f4, f5, f6, f7⟩ := rowS8 HM1.out
  go_wp2_with fail
  refine (rident_any D _ w1 (HD.out.keep HB1.out) HSM.out).mono ?_
  rintro e w2 ⟨rfl, hb⟩
  have HB2 := Lib.hid (HB1.out.trans (hb.mono HB1.out.size))
  have HN2 := Lib.hid ((hb.block _ (Array.getElem?_eq_some_iff.1 HN1.out).1).trans HN1.out)
  have HM2 := Lib.hid ((hb.block _ (Array.getElem?_eq_some_iff.1 HM1.out).1).trans HM1.out)
  clear hb c0 c1 c2 c3 c4 c5 c6 c7 f0 f1 f2 f3 f4 f5 f6 f7
  cases hi : idB D with
  | false =>
    have HV : Hid (frB (fndL (fun b t => atL es b D.t t) D.s D.m) (fndL (fun b t => atL es b E.t t) E.s E.m) D E = false) := Lib.hid (by unfold frB; rw [hi]; rfl)
    clear hi
    go_wp2_with fail
    go_ret
    exact ⟨ret_bl HV.out.symm, HB2.out⟩
  | true =>
    have HI := Lib.hid hi
    clear hi
    obtain ⟨c0, c1, c2, c3, c4, c5, c6, c7⟩ := rowS8 HN2.out
    obtain ⟨f0, f1, f2, f3, f4, f5, f6, f7⟩ := rowS8 HM2.out
    go_wp2_with fail
    refine (rident_any E _ w2 (HE.out.keep HB2.out) HSM2.out).mono ?_
    rintro e w3 ⟨rfl, hb⟩
    have HB3 := Lib.hid (HB2.out.trans (hb.mono HB2.out.size))
    have HN3 := Lib.hid ((hb.block _ (Array.getElem?_eq_some_iff.1 HN2.out).1).trans HN2.out)
    have HM3 := Lib.hid ((hb.block _ (Array.getElem?_eq_some_iff.1 HM2.out).1).trans HM2.out)
    clear hb c0 c1 c2 c3 c4 c5 c6 c7 f0 f1 f2 f3 f4 f5 f6 f7
    cases hi2 : idB E with
    | false =>
      have HV : Hid (frB (fndL (fun b t => atL es b D.t t) D.s D.m) (fndL (fun b t => atL es b E.t t) E.s E.m) D E = false) := Lib.hid (by unfold frB; rw [hi2]; simp)
      clear hi2
      go_wp2_with fail
      go_ret
      exact ⟨ret_bl HV.out.symm, HB3.out⟩
    | true =>
      have HI2 := Lib.hid hi2
      clear hi2
      have hw1 := idB_wrap HI.out
      have hw2 := idB_wrap HI2.out
      have HZ1 := Lib.hid (And.intro (sndW_zc hw1) (sndW_len hw1))
      have HZ2 := Lib.hid (And.intro (sndW_zc hw2) (sndW_len hw2))
      clear hw1 hw2
      obtain ⟨c0, c1, c2, c3, c4, c5, c6, c7⟩ := rowS8 HN3.out
      obtain ⟨f0, f1, f2, f3, f4, f5, f6, f7⟩ := rowS8 HM3.out
      go_wp2_with fail
      refine (rrfind_any w3 Xb m R es (HR.out.below HB3.out) D _ (HD.out.keep HB3.out) (by have := HZ1.out.1; omega) (by have := HZ1.out.2; omega) (by have := HZ1.out.2; omega) HL.out HPS.out).mono ?_
      rintro e w4 ⟨rfl, hb⟩
      have HB4 := Lib.hid (HB3.out.trans (hb.mono HB3.out.size))
      have HN4 := Lib.hid ((hb.block _ (Array.getElem?_eq_some_iff.1 HN3.out).1).trans HN3.out)
      have HM4 := Lib.hid ((hb.block _ (Array.getElem?_eq_some_iff.1 HM3.out).1).trans HM3.out)
      clear hb c0 c1 c2 c3 c4 c5 c6 c7 f0 f1 f2 f3 f4 f5 f6 f7
      have HNN : Hid (0 ≤ fndL (fun b t => atL es b D.t t) D.s D.m) := Lib.hid (fnd_nn (fun b m => atL_nn HPS.out b _ m) _ _)
      obtain ⟨x, HXE⟩ : ∃ x, Hid (fndL (fun b t => atL es b D.t t) D.s D.m = x) := ⟨_, Lib.hid rfl⟩
      rw [HXE.out]
      rw [HXE.out] at HNN
      obtain ⟨c0, c1, c2, c3, c4, c5, c6, c7⟩ := rowS8 HN4.out
      obtain ⟨f0, f1, f2, f3, f4, f5, f6, f7⟩ := rowS8 HM4.out
      go_wp2_with fail
      refine (rrfind_any w4 Xb m R es (HR.out.below HB4.out) E _ (HE.out.keep HB4.out) (by have := HZ2.out.1; omega) (by have := HZ2.out.2; omega) (by have := HZ2.out.2; omega) HL.out HPS.out).mono ?_
      rintro e w5 ⟨rfl, hb⟩
      have HB5 := Lib.hid (HB4.out.trans (hb.mono HB4.out.size))
      have HN5 := Lib.hid ((hb.block _ (Array.getElem?_eq_some_iff.1 HN4.out).1).trans HN4.out)
      have HM5 := Lib.hid ((hb.block _ (Array.getElem?_eq_some_iff.1 HM4.out).1).trans HM4.out)
      clear hb c0 c1 c2 c3 c4 c5 c6 c7 f0 f1 f2 f3 f4 f5 f6 f7
      obtain ⟨y, HYE⟩ : ∃ y, Hid (fndL (fun b t => atL es b E.t t) E.s E.m = y) := ⟨_, Lib.hid rfl⟩
      rw [HYE.out]
      have HFR : Hid (∀ x y, frB x y D E = (decide (x = y) && (decide (x ≠ 0) || decide (D.t = E.t)))) := Lib.hid fun x y => by unfold frB; rw [HI.out, HI2.out]; rfl
      by_cases hxy : x = y
      · subst hxy
        by_cases hx0 : x = 0
        · subst hx0
          by_cases htt : tx = tx'
          · have HV : Hid (frB 0 0 D E = true) := Lib.hid (by rw [HFR.out, ← HX.out, ← HX2.out, htt]; simp)
            subst htt
            have hbe : (tx.toList == tx.toList) = true := beq_self_eq_true _
            obtain ⟨c0, c1, c2, c3, c4, c5, c6, c7⟩ := rowS8 HN5.out
            obtain ⟨f0, f1, f2, f3, f4, f5, f6, f7⟩ := rowS8 HM5.out
            go_wp2_with fail
            go_ret
            exact ⟨ret_bl (by rw [HXE.out, HYE.out]; exact HV.out.symm), HB5.out⟩
          · have HV : Hid (frB 0 0 D E = false) := Lib.hid (by rw [HFR.out, ← HX.out, ← HX2.out]; simp [htt])
            have hbe := txt_neB htt
            obtain ⟨c0, c1, c2, c3, c4, c5, c6, c7⟩ := rowS8 HN5.out
            obtain ⟨f0, f1, f2, f3, f4, f5, f6, f7⟩ := rowS8 HM5.out
            go_wp2_with fail
            go_ret
            exact ⟨ret_bl (by rw [HXE.out, HYE.out]; exact HV.out.symm), HB5.out⟩
        · have HV : Hid (frB x x D E = true) := Lib.hid (by rw [HFR.out]; simp [hx0])
          have hne : decide (0 < x) = true := decide_eq_true (by have := HNN.out; omega)
          have hxx : (x == x) = true := beq_self_eq_true _
          go_wp2_with fail
          go_ret
          exact ⟨ret_bl (by rw [HXE.out, HYE.out]; exact HV.out.symm), HB5.out⟩
      · have HV : Hid (frB x y D E = false) := Lib.hid (by rw [HFR.out]; simp [hxy])
        have hne : (x == y) = false := by simpa using hxy
        go_wp2_with fail
        go_ret
        exact ⟨ret_bl (by rw [HXE.out, HYE.out]; exact HV.out.symm), HB5.out⟩
end Go.Proofs.YtegengnffdlplaaGreatDoor
