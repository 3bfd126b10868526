/- RibBound: who binds one binds the other just if both have one name and the same marks. Of any two identifiers. -/
import Derived.Test.YtegengnffdlplaaGreatDoorRbBnd
namespace Go.Proofs.YtegengnffdlplaaGreatDoor
open Go.RowKit

/-- A piece with one rib more in front. -/
def frontX (D : Sx) (b : Int) : Sx := .mk D.k D.t D.n D.r D.l D.a D.m (b :: D.s)
theorem sndW_front {m s : List Int} (h : sndW m s = true) (hl : s.length < 256) : sndW m (1 :: s) = true := by
  unfold sndW lrgB sndS at h ⊢
  simp only [Bool.and_eq_true, Bool.not_eq_true', Bool.or_eq_false_iff, decide_eq_false_iff_not, decide_eq_true_iff] at h ⊢
  obtain ⟨⟨h1, h2⟩, h3, h4, h5⟩ := h
  refine ⟨⟨h1, by simp only [List.length_cons]; omega⟩, h3, ?_, ?_⟩
  · unfold sbsB at h4 ⊢
    rw [List.all_cons, h4]; rfl
  · rw [← h5]
    unfold zc
    rw [List.countP_cons]
    rfl
theorem idB_front {D : Sx} (h : idB D = true) (hl : D.s.length < 256) : idB (frontX D 1) = true := by
  have hw := idB_wrap h
  obtain ⟨k, t, n, r, l, a, m, s⟩ := D
  unfold idB at h ⊢
  rw [Bool.and_eq_true] at h ⊢
  obtain ⟨hk, hx⟩ := h
  refine ⟨hk, ?_⟩
  have hk : k = 4 := of_decide_eq_true hk
  subst hk
  have hw : sndW m s = true := hw
  have hl : s.length < 256 := hl
  unfold sndX at hx ⊢
  simp only [Bool.and_eq_true] at hx ⊢
  obtain ⟨h1, h2, h3⟩ := hx
  have e : dtm (frontX (.mk 4 t n r l a m s) 1) = dtm (.mk 4 t n r l a m s) := by unfold frontX; rw [dtm_mk, dtm_mk]; rfl
  rw [e]
  refine ⟨h1, h2, ?_⟩
  have hl0 : l = [] := by
    unfold sndD at h1
    rw [Bool.and_eq_true] at h1
    have h1 := h1.1
    rw [dtm_mk, okD_leaf (by omega) (by omega)] at h1
    simp only [Bool.and_eq_true, decide_eq_true_iff, List.length_map] at h1
    exact List.eq_nil_of_length_eq_zero h1.2
  subst hl0
  show jnsB [] [] (.mk 4 t n r [] a m (1 :: s)) = true
  have hw2 : sndW m (1 :: s) = true := sndW_front hw hl
  rw [jnsB_mk, innA_eq sndW_nil, wjA_nilL hw2]
  rfl
theorem sm_front {D : Sx} (h : SmS 1100000 D) (hl : D.s.length ≤ 256) : SmS 1100000 (frontX D 1) := by
  cases h with
  | mk ht hr hl' hm hs hin => exact .mk ht hr hl' hm (by have hl : _ ≤ _ := hl; simp only [Sx.s, List.length_cons] at hl ⊢; omega) hin
theorem fndB_front {tk : Ek → Option Int} {D : Sx} (h : idB (frontX D 1) = true) : fndB tk (frontX D 1) = fndL (atE tk D.t) (1 :: D.s) D.m := by
  unfold fndB; rw [h, if_pos rfl]; rfl
theorem atE_none0 (t : ByteArray) (b : Int) (m : List Int) : atE (fun _ => none) t b m = 0 := rfl
theorem mayP_id {R : Nat} {b c : Int} {D : Sx} (h : idB D = true) (hb : 1 ≤ b ∧ b ≤ (R : Nat)) (hc : 1 ≤ c) : mayP R b D c = true := by
  unfold mayP
  rw [h, decide_eq_true hb, decide_eq_true hc]; rfl
theorem fndE_is {D : Sx} (h : idB D = true) : fndE D = 0 := by unfold fndE; rw [h]; rfl
/-- A row of one. -/
theorem one_row (w : World) (e : TypeId) (u : Value) : (w.alloc (.cells #[u] e)).ownsRow w.heap.size e 1 (.slice (some ⟨w.heap.size, 0, none⟩) 1 1) 1 [u] := ⟨rfl, .inr ⟨w.heap.size, 1, #[u], rfl, Nat.le_refl _, heap_alloc_new w _, Nat.le_refl _, by unfold maxLen; omega, rfl, rfl⟩⟩
theorem sx_lens {w : World} {D : Sx} {kx ax : Int} {tx : ByteArray} {nx : Bool} {lv : Value} {yo po qo : Option Addr} {yn yc pn pc qn qc : Nat} (h : SLay w D [.int .i64 kx, .string tx, .bool nx, lv, .slice yo yn yc, .int .i64 ax, .slice po pn pc, .slice qo qn qc]) : yn = D.l.length ∧ pn = D.m.length ∧ qn = D.s.length := by
  obtain ⟨_, _, _, _, _, he, _, _, _, hl, hm, hs, _⟩ := h.open'
  simp only [List.cons.injEq, and_true] at he
  obtain ⟨_, _, _, _, rfl, _, rfl, rfl⟩ := he
  obtain ⟨_, _, _, _, e1, _⟩ := hl
  obtain ⟨_, _, _, _, e2, _⟩ := hm
  obtain ⟨_, _, _, _, e3, _⟩ := hs
  simp only [Value.slice.injEq] at e1 e2 e3
  exact ⟨e1.2.1, e2.2.1, e3.2.1⟩
theorem sx_subs {w : World} {D : Sx} {kx ax : Int} {tx : ByteArray} {nx : Bool} {lv av mv sv : Value} (h : SLay w D [.int .i64 kx, .string tx, .bool nx, lv, av, .int .i64 ax, mv, sv]) : RowV w sv D.s.length 1 (ics .i64 D.s) := by
  obtain ⟨_, _, _, _, _, he, _, _, _, _, _, hs, _⟩ := h.open'
  simp only [List.cons.injEq, and_true] at he
  obtain ⟨_, _, _, _, _, _, _, rfl⟩ := he
  exact hs
theorem front_lay {w : World} {D : Sx} {kx ax : Int} {tx : ByteArray} {nx : Bool} {lv av mv sv sv' : Value} {n : Nat} (h : SLay w D [.int .i64 kx, .string tx, .bool nx, lv, av, .int .i64 ax, mv, sv]) (hn : n = D.s.length) (hr : RowV w sv' (1 + n) 1 ([.int .i64 1] ++ ics .i64 D.s)) : SLay w (frontX D 1) [.int .i64 kx, .string tx, .bool nx, lv, av, .int .i64 ax, mv, sv'] := by
  cases h with
  | mk ht hlim hr0 hrow hm hs hin =>
    refine .mk ht hlim hr0 hrow hm ?_ hin
    have hn : n = _ := hn
    simp only [Sx.s] at hn hr ⊢
    subst hn
    rw [List.length_cons, Nat.add_comm]
    exact hr
/-- A piece of syntax that lies somewhere. -/
def isOw (D : Sx) : Value → World → Prop := fun v W => ∃ us, v = .agg us.toArray ∧ SLay W D us
theorem isOw_stays (D : Sx) : Stays (isOw D) := fun _ _ _ hb ⟨us, h1, h2⟩ => ⟨us, h1, h2.keep hb⟩

set_option maxRecDepth 100000 in
set_option maxHeartbeats 4000000 in
theorem ribbound_any (A B : Sx) (us vs : List Value) (z2 : Int) (w : World) (ha : SLay w A us) (hx : SLay w B vs) (hsa : SmS 1100000 A) (hsb : SmS 1100000 B) (hra : Rg A.m) (hrb : Rg B.m) (ht : Tabs w) (h0 : 0 ≤ z2) (h1 : z2 ≤ 255) :
    Calls Tryz.prog 5 #[.agg us.toArray, .agg vs.toArray, .int .u8 z2] w fun e w' => e = .returned (.bool true) ∧ Below w.heap.size w w' := by
  have HA := Lib.hid ha
  have HX := Lib.hid hx
  have HSA := Lib.hid hsa
  have HSB := Lib.hid hsb
  have HT := Lib.hid ht
  obtain ⟨kx, tx, nx, xo, xn, xc, yo, yn, yc, ax, po, pn, pc, qo, qn, qc, rfl⟩ := sx_shapes ha
  obtain ⟨kx', tx', nx', xo', xn', xc', yo', yn', yc', ax', po', pn', pc', qo', qn', qc', rfl⟩ := sx_shapes hx
  clear ha hx hsa hsb ht
  have hb1 := (below1 w (.cells #[.int .i64 kx, .string tx, .bool nx, .slice xo xn xc, .slice yo yn yc, .int .i64 ax, .slice po pn pc, .slice qo qn qc] 29)).trans ((below1 (w.alloc (.cells #[.int .i64 kx, .string tx, .bool nx, .slice xo xn xc, .slice yo yn yc, .int .i64 ax, .slice po pn pc, .slice qo qn qc] 29)) (.cells #[.int .i64 kx', .string tx', .bool nx', .slice xo' xn' xc', .slice yo' yn' yc', .int .i64 ax', .slice po' pn' pc', .slice qo' qn' qc'] 29)).mono (by simp))
  have hn1 := @newsw2 w (.cells #[.int .i64 kx, .string tx, .bool nx, .slice xo xn xc, .slice yo yn yc, .int .i64 ax, .slice po pn pc, .slice qo qn qc] 29) (.cells #[.int .i64 kx', .string tx', .bool nx', .slice xo' xn' xc', .slice yo' yn' yc', .int .i64 ax', .slice po' pn' pc', .slice qo' qn' qc'] 29)
  show Calls Tryz.prog 5 #[.agg #[.int .i64 kx, .string tx, .bool nx, .slice xo xn xc, .slice yo yn yc, .int .i64 ax, .slice po pn pc, .slice qo qn qc], .agg #[.int .i64 kx', .string tx', .bool nx', .slice xo' xn' xc', .slice yo' yn' yc', .int .i64 ax', .slice po' pn' pc', .slice qo' qn' qc'], .int .u8 z2] w _
  go_enter Tryz.func5, Tryz.ntmps5
  go_upto_region 1 with fail
  generalize (w.alloc (.cells #[.int .i64 kx, .string tx, .bool nx, .slice xo xn xc, .slice yo yn yc, .int .i64 ax, .slice po pn pc, .slice qo qn qc] 29)).alloc (.cells #[.int .i64 kx', .string tx', .bool nx', .slice xo' xn' xc', .slice yo' yn' yc', .int .i64 ax', .slice po' pn' pc', .slice qo' qn' qc'] 29) = w1 at *
  have HB1 := Lib.hid hb1
  have HN1 := Lib.hid hn1.1
  have HM1 := Lib.hid hn1.2
  clear hb1 hn1
  obtain ⟨c0, c1, c2, c3, c4, c5, c6, c7⟩ := rowS8 (HN1.out)
  obtain ⟨f0, f1, f2, f3, f4, f5, f6, f7⟩ := rowS8 (HM1.out)
  go_wp2_with fail
  refine (answers11_any w1 (HT.out.below HB1.out (Nat.le_refl _))).mono ?_
  rintro e w2 ⟨rfl, hb2⟩
  have HB2 := Lib.hid (HB1.out.trans (hb2.mono HB1.out.size))
  have HN2 := Lib.hid ((hb2.block _ (Array.getElem?_eq_some_iff.1 HN1.out).1).trans HN1.out)
  have HM2 := Lib.hid ((hb2.block _ (Array.getElem?_eq_some_iff.1 HM1.out).1).trans HM1.out)
  clear hb2 c0 c1 c2 c3 c4 c5 c6 c7 f0 f1 f2 f3 f4 f5 f6 f7
  obtain ⟨c0, c1, c2, c3, c4, c5, c6, c7⟩ := rowS8 (HN2.out)
  obtain ⟨f0, f1, f2, f3, f4, f5, f6, f7⟩ := rowS8 (HM2.out)
  go_wp2_with fail
  refine (light11_any A _ w2 (HA.out.keep HB2.out)).mono ?_
  rintro e w3 ⟨rfl, hb3⟩
  have HB3 := Lib.hid (HB2.out.trans (hb3.mono HB2.out.size))
  have HN3 := Lib.hid ((hb3.block _ (Array.getElem?_eq_some_iff.1 HN2.out).1).trans HN2.out)
  have HM3 := Lib.hid ((hb3.block _ (Array.getElem?_eq_some_iff.1 HM2.out).1).trans HM2.out)
  clear hb3 c0 c1 c2 c3 c4 c5 c6 c7 f0 f1 f2 f3 f4 f5 f6 f7
  obtain ⟨i0, HI0⟩ : ∃ b, Hid (ltB A = b) := ⟨_, Lib.hid rfl⟩
  rw [HI0.out]
  cases i0 with
  | false =>
    go_wp2_with fail
    refine (answers11_any w3 (HT.out.below HB3.out (Nat.le_refl _))).mono ?_
    rintro e w9 ⟨rfl, hb9⟩
    have HB9 := Lib.hid (HB3.out.trans (hb9.mono HB3.out.size))
    clear hb9
    go_wp2_with fail
    go_ret
    exact ⟨rfl, HB9.out⟩
  | true =>
    obtain ⟨c0, c1, c2, c3, c4, c5, c6, c7⟩ := rowS8 (HN3.out)
    obtain ⟨f0, f1, f2, f3, f4, f5, f6, f7⟩ := rowS8 (HM3.out)
    go_wp2_with fail
    refine (light11_any B _ w3 (HX.out.keep HB3.out)).mono ?_
    rintro e w4 ⟨rfl, hb4⟩
    have HB4 := Lib.hid (HB3.out.trans (hb4.mono HB3.out.size))
    have HN4 := Lib.hid ((hb4.block _ (Array.getElem?_eq_some_iff.1 HN3.out).1).trans HN3.out)
    have HM4 := Lib.hid ((hb4.block _ (Array.getElem?_eq_some_iff.1 HM3.out).1).trans HM3.out)
    clear hb4 c0 c1 c2 c3 c4 c5 c6 c7 f0 f1 f2 f3 f4 f5 f6 f7
    obtain ⟨i1, HI1⟩ : ∃ b, Hid (ltB B = b) := ⟨_, Lib.hid rfl⟩
    rw [HI1.out]
    cases i1 with
    | false =>
      go_wp2_with fail
      refine (answers11_any w4 (HT.out.below HB4.out (Nat.le_refl _))).mono ?_
      rintro e w9 ⟨rfl, hb9⟩
      have HB9 := Lib.hid (HB4.out.trans (hb9.mono HB4.out.size))
      clear hb9
      go_wp2_with fail
      go_ret
      exact ⟨rfl, HB9.out⟩
    | true =>
      obtain ⟨c0, c1, c2, c3, c4, c5, c6, c7⟩ := rowS8 (HN4.out)
      obtain ⟨f0, f1, f2, f3, f4, f5, f6, f7⟩ := rowS8 (HM4.out)
      go_wp2_with fail
      refine (rident_any A _ w4 (HA.out.keep HB4.out) HSA.out).mono ?_
      rintro e w5 ⟨rfl, hb5⟩
      have HB5 := Lib.hid (HB4.out.trans (hb5.mono HB4.out.size))
      have HN5 := Lib.hid ((hb5.block _ (Array.getElem?_eq_some_iff.1 HN4.out).1).trans HN4.out)
      have HM5 := Lib.hid ((hb5.block _ (Array.getElem?_eq_some_iff.1 HM4.out).1).trans HM4.out)
      clear hb5 c0 c1 c2 c3 c4 c5 c6 c7 f0 f1 f2 f3 f4 f5 f6 f7
      obtain ⟨i2, HI2⟩ : ∃ b, Hid (idB A = b) := ⟨_, Lib.hid rfl⟩
      rw [HI2.out]
      cases i2 with
      | false =>
        go_wp2_with fail
        refine (answers11_any w5 (HT.out.below HB5.out (Nat.le_refl _))).mono ?_
        rintro e w9 ⟨rfl, hb9⟩
        have HB9 := Lib.hid (HB5.out.trans (hb9.mono HB5.out.size))
        clear hb9
        go_wp2_with fail
        go_ret
        exact ⟨rfl, HB9.out⟩
      | true =>
        obtain ⟨c0, c1, c2, c3, c4, c5, c6, c7⟩ := rowS8 (HN5.out)
        obtain ⟨f0, f1, f2, f3, f4, f5, f6, f7⟩ := rowS8 (HM5.out)
        go_wp2_with fail
        refine (rident_any B _ w5 (HX.out.keep HB5.out) HSB.out).mono ?_
        rintro e w6 ⟨rfl, hb6⟩
        have HB6 := Lib.hid (HB5.out.trans (hb6.mono HB5.out.size))
        have HN6 := Lib.hid ((hb6.block _ (Array.getElem?_eq_some_iff.1 HN5.out).1).trans HN5.out)
        have HM6 := Lib.hid ((hb6.block _ (Array.getElem?_eq_some_iff.1 HM5.out).1).trans HM5.out)
        clear hb6 c0 c1 c2 c3 c4 c5 c6 c7 f0 f1 f2 f3 f4 f5 f6 f7
        obtain ⟨i3, HI3⟩ : ∃ b, Hid (idB B = b) := ⟨_, Lib.hid rfl⟩
        rw [HI3.out]
        cases i3 with
        | false =>
          go_wp2_with fail
          refine (answers11_any w6 (HT.out.below HB6.out (Nat.le_refl _))).mono ?_
          rintro e w9 ⟨rfl, hb9⟩
          have HB9 := Lib.hid (HB6.out.trans (hb9.mono HB6.out.size))
          clear hb9
          go_wp2_with fail
          go_ret
          exact ⟨rfl, HB9.out⟩
        | true =>
          go_wp2_with fail
          refine (new_z w6 (Below.refl _ _)).mono ?_
          rintro e w7 ⟨rfl, hz⟩
          have HZ7 := Lib.hid hz
          clear hz
          generalize hg : w6.heap.size = g at HZ7 ⊢
          go_wp2_with fail
          refine (rib_z HZ7.out (by omega)).mono ?_
          rintro e w8 ⟨rfl, hz⟩
          have HZ8 : Hid (Rz w6 w8 g 1 0 (fun _ => none)) := Lib.hid hz
          rw [show ((0 + 1 : Nat) : Int) = 1 from rfl]
          clear hz
          have HN8 := Lib.hid ((HZ8.out.bel.block _ (Array.getElem?_eq_some_iff.1 HN6.out).1).trans HN6.out)
          have HM8 := Lib.hid ((HZ8.out.bel.block _ (Array.getElem?_eq_some_iff.1 HM6.out).1).trans HM6.out)
          have HB8 := Lib.hid (HB6.out.trans (HZ8.out.bel.mono HB6.out.size))
          obtain ⟨c0, c1, c2, c3, c4, c5, c6, c7⟩ := rowS8 (HN8.out)
          go_wp2_with fail
          refine (own_z HZ8.out A _ (HA.out.keep HB8.out) HSA.out).mono ?_
          rintro e w9 ⟨vs9, rfl, hl9, _, hz⟩
          have HZ9 := Lib.hid hz
          have HL9 := Lib.hid hl9.lay
          clear hz hl9 c0 c1 c2 c3 c4 c5 c6 c7
          have HMA : Hid (mayP 1 1 A (z2 + 1) = true) := Lib.hid (mayP_id HI2.out (by omega) (by omega))
          go_wp2_with fail
          refine (put_z HZ9.out 1 A vs9 (z2 + 1) HL9.out HSA.out (HT.out.below HB6.out (Nat.le_refl _)) HMA.out rfl).mono ?_
          rintro e w10 ⟨rfl, hz⟩
          have HZ10 : Hid (Rz w6 w10 g 1 0 (putE (fun _ => none) (1, A.t, wrt A.m) (z2 + 1))) := Lib.hid hz
          clear hz HZ9 HL9
          have HN10 := Lib.hid ((HZ10.out.bel.block _ (Array.getElem?_eq_some_iff.1 HN6.out).1).trans HN6.out)
          have HM10 := Lib.hid ((HZ10.out.bel.block _ (Array.getElem?_eq_some_iff.1 HM6.out).1).trans HM6.out)
          have HB10 := Lib.hid (HB6.out.trans (HZ10.out.bel.mono HB6.out.size))
          obtain ⟨f0, f1, f2, f3, f4, f5, f6, f7⟩ := rowS8 (HM10.out)
          go_wp2_with fail
          refine (own_z HZ10.out B _ (HX.out.keep HB10.out) HSB.out).mono ?_
          rintro e w11 ⟨vs11, rfl, hl11, _, hz⟩
          have HZ11 := Lib.hid hz
          have HL11 := Lib.hid hl11.lay
          clear hz hl11 f0 f1 f2 f3 f4 f5 f6 f7
          obtain ⟨kx2, tx2, nx2, xo2, xn2, xc2, yo2, yn2, yc2, ax2, po2, pn2, pc2, qo2, qn2, qc2, rfl⟩ := sx_shapes HL11.out
          have hxb := heap_alloc_new w11 (.cells #[.int .i64 kx2, .string tx2, .bool nx2, .slice xo2 xn2 xc2, .slice yo2 yn2 yc2, .int .i64 ax2, .slice po2 pn2 pc2, .slice qo2 qn2 qc2] 29)
          have hbx := below1 w11 (.cells #[.int .i64 kx2, .string tx2, .bool nx2, .slice xo2 xn2 xc2, .slice yo2 yn2 yc2, .int .i64 ax2, .slice po2 pn2 pc2, .slice qo2 qn2 qc2] 29)
          go_upto_region 11 with fail
          generalize hwx : w11.alloc (.cells #[.int .i64 kx2, .string tx2, .bool nx2, .slice xo2 xn2 xc2, .slice yo2 yn2 yc2, .int .i64 ax2, .slice po2 pn2 pc2, .slice qo2 qn2 qc2] 29) = w12 at *
          have HS12 : Hid (w12.heap.size = w11.heap.size + 1) := Lib.hid (by rw [← hwx]; simp)
          have HXB := Lib.hid hxb
          have HBX := Lib.hid hbx
          clear hxb hbx hwx
          have hw12 := HI3.out
          have HQN : Hid (qn2 = B.s.length ∧ B.s.length ≤ 256) := Lib.hid ⟨by have h := (sx_lens HL11.out).2.2; exact h, (sndW_len (idB_wrap HI3.out)).2⟩
          clear hw12
          obtain ⟨c0, c1, c2, c3, c4, c5, c6, c7⟩ := rowS8 (((below1 w12 (.cells #[.int .i64 1] 3)).block _ (Array.getElem?_eq_some_iff.1 HXB.out).1).trans HXB.out)
          have z7 := frozen_heap (((below1 w12 (.cells #[.int .i64 1] 3)).block _ (Array.getElem?_eq_some_iff.1 HXB.out).1).trans HXB.out) 7
          have HRV : Hid (RowV (w12.alloc (.cells #[.int .i64 1] 3)) (.slice qo2 qn2 qc2) qn2 1 (ics .i64 B.s)) := Lib.hid (by have h := sx_subs HL11.out; rw [← HQN.out.1] at h; exact h.below (HBX.out.trans ((below1 w12 _).mono (by have := HS12.out; omega))))
          obtain ⟨i8, hi8, hz80, hz81, hz82⟩ := info_parts infoS8
          go_upto_region 12 with (at_builtin; go_loud (refine wpList_append_row _ rfl _ _ 27 rfl w12.heap.size 3 i8 (.int .i64 0) 1 8 Tryz.underlying27 hi8 hz80 hz81 hz82 rfl (by decide) _ 1 [.int .i64 1] rfl (one_row w12 3 _) _ qn2 (ics .i64 B.s) rfl HRV.out (by intro u hu; obtain ⟨_, _, rfl⟩ := List.mem_map.1 hu; rfl) (by unfold maxLen; have := HQN.out; omega) (by have := HQN.out; omega) (by simp) ?_); go_loud (intro v' w1b hown1 hgrow hmv; obtain ⟨a3, d3, rfl⟩ := own_dslice hown1; have HO := Lib.hid hown1; have HBG : Hid (Below w12.heap.size w12 w1b) := Lib.hid ((below1 w12 _).grown hgrow (by simp) (fun q hq => by cases hq; exact Nat.le_refl _)); have HXG := Lib.hid ((HBG.out.block _ (Array.getElem?_eq_some_iff.1 HXB.out).1).trans HXB.out); obtain ⟨c0, c1, c2, c3, c4, c5, c6, c7⟩ := rowS8 HXG.out; have z7 := frozen_heap HXG.out 7; clear hown1 hgrow hmv))
          have HBW : Hid (Below w11.heap.size w11 (w1b.setCell ⟨w11.heap.size, 7, none⟩ (.slice a3 (1 + qn2) d3))) := Lib.hid ((HBX.out.trans (HBG.out.mono (by have := HS12.out; omega))).setCell (by simp) _)
          have HXW : Hid ((w1b.setCell ⟨w11.heap.size, 7, none⟩ (.slice a3 (1 + qn2) d3)).heap[w11.heap.size]? = some (.cells #[.int .i64 kx2, .string tx2, .bool nx2, .slice xo2 xn2 xc2, .slice yo2 yn2 yc2, .int .i64 ax2, .slice po2 pn2 pc2, (.slice a3 (1 + qn2) d3)] 29 (0, 0))) := Lib.hid ((rowSet HXG.out 7 _).trans (by simp))
          have HRW : Hid (RowV (w1b.setCell ⟨w11.heap.size, 7, none⟩ (.slice a3 (1 + qn2) d3)) (.slice a3 (1 + qn2) d3) (1 + qn2) 1 ([.int .i64 1] ++ ics .i64 B.s)) := Lib.hid (RowV.of_own (ownsRow_setCell_below HO.out (by have := HS12.out; simp; omega) _))
          clear c0 c1 c2 c3 c4 c5 c6 c7 z7 HO HBG HXG HRV HXB HBX
          generalize w1b.setCell ⟨w11.heap.size, 7, none⟩ (.slice a3 (1 + qn2) d3) = w13 at *
          have HZ13 := Lib.hid (HZ11.out.below HBW.out)
          have HL13 := Lib.hid (front_lay (HL11.out.keep HBW.out) HQN.out.1 HRW.out)
          clear HRW HZ11 HL11 HBW
          obtain ⟨c0, c1, c2, c3, c4, c5, c6, c7⟩ := rowS8 (HXW.out)
          by_cases hbig : 256 < 1 + qn2
          · have hgt : decide (256 < ((1 + qn2 : Nat) : Int)) = true := by simp; omega
            go_wp2_with fail
            go_ret
            exact ⟨rfl, HB6.out.trans (HZ13.out.bel.mono HB6.out.size)⟩
          have hgt : decide (256 < ((1 + qn2 : Nat) : Int)) = false := by simp; omega
          have HID : Hid (idB (frontX B 1) = true) := Lib.hid (idB_front HI3.out (by have := HQN.out; omega))
          have HSF : Hid (SmS 1100000 (frontX B 1)) := Lib.hid (sm_front HSB.out (by have := HQN.out; omega))
          go_wp2_with fail
          refine (find_z HZ13.out (frontX B 1) _ HL13.out HSF.out (HT.out.below HB6.out (Nat.le_refl _))).mono ?_
          rintro e w14 ⟨rfl, hz⟩
          have HZ14 := Lib.hid hz
          rw [fndE_is HID.out, fndB_front HID.out]
          obtain ⟨q, HQ⟩ : ∃ q, Hid (fndL (atE (putE (fun _ => none) (1, A.t, wrt A.m) (z2 + 1)) B.t) (1 :: B.s) B.m = q) := ⟨_, Lib.hid rfl⟩
          rw [HQ.out]
          clear hz hgt hbig HZ13 HL13 HXW c0 c1 c2 c3 c4 c5 c6 c7
          have HN14 := Lib.hid ((HZ14.out.bel.block _ (Array.getElem?_eq_some_iff.1 HN6.out).1).trans HN6.out)
          have HM14 := Lib.hid ((HZ14.out.bel.block _ (Array.getElem?_eq_some_iff.1 HM6.out).1).trans HM6.out)
          have HB14 := Lib.hid (HB6.out.trans (HZ14.out.bel.mono HB6.out.size))
          obtain ⟨f0, f1, f2, f3, f4, f5, f6, f7⟩ := rowS8 (HM14.out)
          go_wp2_with fail
          refine (own_z HZ14.out B _ (HX.out.keep HB14.out) HSB.out).mono ?_
          rintro e w15 ⟨vs15, rfl, hl15, _, hz⟩
          have HZ15 := Lib.hid hz
          have HL15 := Lib.hid hl15.lay
          clear hz hl15 f0 f1 f2 f3 f4 f5 f6 f7
          have HMB : Hid (mayP 1 1 B (z2 + 1 + 1) = true) := Lib.hid (mayP_id HI3.out (by omega) (by omega))
          go_wp2_with fail
          refine (putw_z HZ15.out 1 B vs15 (z2 + 1 + 1) HL15.out HSB.out (HT.out.below HB6.out (Nat.le_refl _)) (by have := (sndW_len (idB_wrap HI3.out)).1; omega)).mono ?_
          rintro e w16 ⟨rfl, hz, _⟩
          rw [HMB.out, if_pos rfl]
          rw [HMB.out, if_pos rfl] at hz
          generalize (if ((putE (fun _ => none) (1, A.t, wrt A.m) (z2 + 1)) (1, B.t, wrt B.m)).getD 0 = 0 then putE (putE (fun _ => none) (1, A.t, wrt A.m) (z2 + 1)) (1, B.t, wrt B.m) (z2 + 1 + 1) else putE (fun _ => none) (1, A.t, wrt A.m) (z2 + 1)) = tk6 at hz
          have HZ16 := Lib.hid hz
          clear hz HZ15 HL15
          obtain ⟨f, HF⟩ : ∃ f : Int, Hid ((if ((putE (fun _ => none) (1, A.t, wrt A.m) (z2 + 1)) (1, B.t, wrt B.m)).getD 0 = 0 then 0 else 2) = f) := ⟨_, Lib.hid rfl⟩
          rw [HF.out]
          have HN16 := Lib.hid ((HZ16.out.bel.block _ (Array.getElem?_eq_some_iff.1 HN6.out).1).trans HN6.out)
          have HM16 := Lib.hid ((HZ16.out.bel.block _ (Array.getElem?_eq_some_iff.1 HM6.out).1).trans HM6.out)
          have HB16 := Lib.hid (HB6.out.trans (HZ16.out.bel.mono HB6.out.size))
          have HLT := Lib.hid (And.intro (Array.getElem?_eq_some_iff.1 HN16.out).1 (Array.getElem?_eq_some_iff.1 HM16.out).1)
          go_upto_region 16 with fail
          refine wp_region_slotsG (psi [isV (.agg #[.int .i64 kx, .string tx, .bool nx, .slice xo xn xc, .slice yo yn yc, .int .i64 ax, .slice po pn pc, .slice qo qn qc]), isOw A, isV (.agg #[.int .i64 kx', .string tx', .bool nx', .slice xo' xn' xc', .slice yo' yn' yc', .int .i64 ax', .slice po' pn' pc', .slice qo' qn' qc']), isOw B, isV (.bool (bndB A B)), isV (.bool (bndB A B))]) (fun W => Below w16.heap.size w16 W) (by kernel_rfl) (Below.refl _ _).drew (psi_mono ?_) (by kernel_rfl) (by kernel_rfl) ?_ ?_
          · intro pq hp
            simp only [List.mem_cons, List.not_mem_nil, or_false] at hp
            (repeat' rcases hp with rfl | hp) <;> first | exact isV_stays _ | (subst hp; exact isV_stays _) | exact isOw_stays _ | (subst hp; exact isOw_stays _)
          · refine AllOps.cons ?_ ?_
            · intro ab W hC hB hdep
              refine .inl ⟨rfl, ?_⟩
              have b0 : ab.tmps.getD 3 undef = .pointer (some ⟨w.heap.size, 0, none⟩) := hB.off 3 (by kernel_rfl)
              obtain ⟨c0, c1, c2, c3, c4, c5, c6, c7⟩ := rowS8 ((hC.block _ HLT.out.1).trans HN16.out)
              clear hB hdep
              refine goes_value (v := .agg #[.int .i64 kx, .string tx, .bool nx, .slice xo xn xc, .slice yo yn yc, .int .i64 ax, .slice po pn pc, .slice qo qn qc]) ?_ hC rfl
              simp only [execOp, Act.eval, b0]
              go_simp
            refine AllOps.cons ?_ ?_
            · intro ab W hC hB hdep
              refine .inl ⟨rfl, ?_⟩
              obtain ⟨x0, (q0 : (isV (.agg #[.int .i64 kx, .string tx, .bool nx, .slice xo xn xc, .slice yo yn yc, .int .i64 ax, .slice po pn pc, .slice qo qn qc])) x0 W), e0⟩ := hdep 0 78 (by kernel_rfl)
              obtain rfl : x0 = .agg #[.int .i64 kx, .string tx, .bool nx, .slice xo xn xc, .slice yo yn yc, .int .i64 ax, .slice po pn pc, .slice qo qn qc] := q0
              clear hB hdep
              refine goes_call (f := 10) (args := #[.agg #[.int .i64 kx, .string tx, .bool nx, .slice xo xn xc, .slice yo yn yc, .int .i64 ax, .slice po pn pc, .slice qo qn qc]]) ?_ ?_
              · simp only [execOp]
                go_simp
              · exact (own_sxK A HSA.out.owk _ W (HA.out.keep (HB16.out.trans (hC.mono HB16.out.size)))).mono fun e w7 ⟨vs, he, hl, hb⟩ => ⟨_, he, hC.trans (hb.mono hC.size), hb, ⟨vs, rfl, hl.lay⟩⟩
            refine AllOps.cons ?_ ?_
            · intro ab W hC hB hdep
              refine .inl ⟨rfl, ?_⟩
              have b0 : ab.tmps.getD 4 undef = .pointer (some ⟨w.heap.size + 1, 0, none⟩) := hB.off 4 (by kernel_rfl)
              obtain ⟨c0, c1, c2, c3, c4, c5, c6, c7⟩ := rowS8 ((hC.block _ HLT.out.2).trans HM16.out)
              clear hB hdep
              refine goes_value (v := .agg #[.int .i64 kx', .string tx', .bool nx', .slice xo' xn' xc', .slice yo' yn' yc', .int .i64 ax', .slice po' pn' pc', .slice qo' qn' qc']) ?_ hC rfl
              simp only [execOp, Act.eval, b0]
              go_simp
            refine AllOps.cons ?_ ?_
            · intro ab W hC hB hdep
              refine .inl ⟨rfl, ?_⟩
              obtain ⟨x0, (q0 : (isV (.agg #[.int .i64 kx', .string tx', .bool nx', .slice xo' xn' xc', .slice yo' yn' yc', .int .i64 ax', .slice po' pn' pc', .slice qo' qn' qc'])) x0 W), e0⟩ := hdep 2 80 (by kernel_rfl)
              obtain rfl : x0 = .agg #[.int .i64 kx', .string tx', .bool nx', .slice xo' xn' xc', .slice yo' yn' yc', .int .i64 ax', .slice po' pn' pc', .slice qo' qn' qc'] := q0
              clear hB hdep
              refine goes_call (f := 10) (args := #[.agg #[.int .i64 kx', .string tx', .bool nx', .slice xo' xn' xc', .slice yo' yn' yc', .int .i64 ax', .slice po' pn' pc', .slice qo' qn' qc']]) ?_ ?_
              · simp only [execOp]
                go_simp
              · exact (own_sxK B HSB.out.owk _ W (HX.out.keep (HB16.out.trans (hC.mono HB16.out.size)))).mono fun e w7 ⟨vs, he, hl, hb⟩ => ⟨_, he, hC.trans (hb.mono hC.size), hb, ⟨vs, rfl, hl.lay⟩⟩
            refine AllOps.cons ?_ ?_
            · intro ab W hC hB hdep
              refine .inl ⟨rfl, ?_⟩
              obtain ⟨x0, (q0 : (isOw A) x0 W), e0⟩ := hdep 1 79 (by kernel_rfl)
              skip
              obtain ⟨x1, (q1 : (isOw B) x1 W), e1⟩ := hdep 3 81 (by kernel_rfl)
              skip
              clear hB hdep
              refine goes_call (f := 15) (args := #[x0, x1]) ?_ ?_
              · simp only [execOp]
                go_simp
              · obtain ⟨ua, rfl, hla⟩ := q0
                obtain ⟨ub, rfl, hlb⟩ := q1
                exact (bound_any A B ua ub W hla hlb HSA.out HSB.out (HT.out.below (HB16.out.trans (hC.mono HB16.out.size)) (Nat.le_refl _))).mono fun e w7 ⟨he, hb⟩ => ⟨_, he, hC.trans (hb.mono hC.size), hb, rfl⟩
            refine AllOps.cons ?_ ?_
            · intro ab W hC hB hdep
              refine .inl ⟨rfl, ?_⟩
              obtain ⟨x0, (q0 : (isV (.bool (bndB A B))) x0 W), e0⟩ := hdep 4 82 (by kernel_rfl)
              obtain rfl : x0 = .bool (bndB A B) := q0
              clear hB hdep
              refine goes_value (v := .bool (bndB A B)) ?_ hC rfl
              simp only [execOp, Act.eval, e0]
              go_simp
            exact trivial
          · intro aa wC hC hB hall
            obtain ⟨v0, (k0 : v0 = .agg #[.int .i64 kx, .string tx, .bool nx, .slice xo xn xc, .slice yo yn yc, .int .i64 ax, .slice po pn pc, .slice qo qn qc]), e0⟩ := hall 0 _ rfl
            obtain ⟨v1, (k1 : (isOw A) v1 wC), e1⟩ := hall 1 _ rfl
            obtain ⟨v2, (k2 : v2 = .agg #[.int .i64 kx', .string tx', .bool nx', .slice xo' xn' xc', .slice yo' yn' yc', .int .i64 ax', .slice po' pn' pc', .slice qo' qn' qc']), e2⟩ := hall 2 _ rfl
            obtain ⟨v3, (k3 : (isOw B) v3 wC), e3⟩ := hall 3 _ rfl
            obtain ⟨v4, (k4 : v4 = .bool (bndB A B)), e4⟩ := hall 4 _ rfl
            obtain ⟨v5, (k5 : v5 = .bool (bndB A B)), e5⟩ := hall 5 _ rfl
            subst k0 k2 k4 k5
            have hv : ∀ pq ∈ [((78 : Nat), (.agg #[.int .i64 kx, .string tx, .bool nx, .slice xo xn xc, .slice yo yn yc, .int .i64 ax, .slice po pn pc, .slice qo qn qc] : Value)), ((79 : Nat), (v1 : Value)), ((80 : Nat), (.agg #[.int .i64 kx', .string tx', .bool nx', .slice xo' xn' xc', .slice yo' yn' yc', .int .i64 ax', .slice po' pn' pc', .slice qo' qn' qc'] : Value)), ((81 : Nat), (v3 : Value)), ((82 : Nat), (.bool (bndB A B) : Value)), ((14 : Nat), (.bool (bndB A B) : Value))], aa.tmps.getD pq.1 undef = pq.2 := by
              intro pq hp
              simp only [List.mem_cons, List.not_mem_nil, or_false] at hp
              rcases hp with rfl | rfl | rfl | rfl | rfl | rfl
              · exact e0 _ rfl
              · exact e1 _ rfl
              · exact e2 _ rfl
              · exact e3 _ rfl
              · exact e4 _ rfl
              · exact e5 _ rfl
            have hact := act_fold _ hB hv (by kernel_rfl)
            subst hact
            clear hv hall hB e0 e1 e2 e3 e4 e5
            refine (‹∀ (a : Act) (w : World), Code.wp Tryz.prog _ _ a w → _›) _ wC ?_
            simp only [List.foldl, List.setIfInBounds_toArray, List.set_cons_succ, List.set_cons_zero]
            have HC := Lib.hid (HB16.out.trans (hC.mono HB16.out.size))
            have hcase : (bndB A B = true ∧ f = 2 ∧ q = z2 + 1) ∨ (bndB A B = false ∧ f = 0) := by
              have h1 : atE (putE (fun _ => none) (1, A.t, wrt A.m) (z2 + 1)) B.t 1 B.m = if B.t = A.t ∧ B.m = A.m then z2 + 1 else 0 := by
                rw [atE_put hrb hra, atE_none0]; simp
              have h2 : bndB A B = (decide (A.t = B.t) && sameZ A.m B.m) := by unfold bndB; rw [HI2.out, HI3.out]; rfl
              have h3 := HF.out
              have h4 := HQ.out
              rw [fnd_b (by decide), h1] at h4
              change (if atE (putE (fun _ => none) (1, A.t, wrt A.m) (z2 + 1)) B.t 1 B.m = 0 then (0 : Int) else 2) = f at h3
              rw [h1] at h3
              by_cases hs : B.t = A.t ∧ B.m = A.m
              · rw [if_pos hs, if_neg (by omega)] at h3
                rw [if_pos hs, if_pos (by omega)] at h4
                refine .inl ⟨?_, h3.symm, h4.symm⟩
                rw [h2, decide_eq_true hs.1.symm, sameZ_true hs.2.symm]; rfl
              · rw [if_neg hs, if_pos rfl] at h3
                refine .inr ⟨?_, h3.symm⟩
                rw [h2]
                by_cases ht : A.t = B.t
                · rw [sameZ_false fun hm => hs ⟨ht.symm, hm.symm⟩]; simp
                · rw [decide_eq_false ht]; rfl
            clear hC HF HQ
            rcases hcase with ⟨hb, rfl, rfl⟩ | ⟨hb, rfl⟩
            · rw [hb]
              clear hb
              go_wp2_with fail
              go_ret
              exact ⟨ret_bl (by simp), HC.out⟩
            · rw [hb]
              clear hb
              go_wp2_with fail
              go_ret
              exact ⟨ret_bl (by simp), HC.out⟩
end Go.Proofs.YtegengnffdlplaaGreatDoor
