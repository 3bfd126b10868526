/- law08's answers; the law LiftNil. -/
import Derived.Test.YtocladhggcaokaaGreatDoorLfUp
namespace Go.Proofs.YtocladhggcaokaaGreatDoor
open Go.RowKit

theorem most_of_ival {ng : Bool} {rs : List Nat} {k : Int} (h : ival ng rs = k) (h1 : -1000000000000000000 < k) (h2 : k < 1000000000000000000) : val rs ≤ most ng := by
  unfold ival at h
  unfold most
  cases ng
  · simp at h ⊢; omega
  · simp at h ⊢; omega
set_option maxRecDepth 100000 in
set_option maxHeartbeats 4000000 in
theorem answers8_any (w : World) : Calls Tryz.prog 10 #[] w fun e w' => e = .returned (.bool true) ∧ Below w.heap.size w w' := by
  go_enter Tryz.func10, Tryz.ntmps10
  go_wp2_with fail
  refine (stnew_any 50 w (by omega)).mono ?_
  rintro e w1 ⟨rfl, hst, hb1, _⟩
  have HB1 := Lib.hid hb1
  have HS1 := Lib.hid hst
  clear hb1 hst
  go_wp2_with fail
  refine (rof_any 7 w1 (by decide) (by decide)).mono ?_
  rintro e w2 ⟨x, ng, rs, rfl, ⟨sv, rfl, hsl⟩, hb2, hsn, hiv⟩
  obtain ⟨_, ao, cap, rfl, _, _⟩ := id hsl
  have HB2 := Lib.hid (HB1.out.trans (hb2.mono HB1.out.size))
  have HS2 := Lib.hid (HS1.out.below hb2)
  have HD := Lib.hid (ldown_small w.heap.size ng (.slice ao rs.length cap) rs 7 w2 hsl hsn (most_of_ival hiv (by decide) (by decide)) hiv (by decide) (by decide))
  clear hb2 hsl hsn hiv HS1 HB1
  go_wp2_with fail
  refine HD.out.mono ?_
  rintro e w3 ⟨rfl, hb3⟩
  have HB3 := Lib.hid (HB2.out.trans (hb3.mono HB2.out.size))
  have HS3 := Lib.hid (HS2.out.below hb3)
  clear hb3 HD HB2 HS2
  have hb4 := below1 w3 (.cells #[.int .i64 4, .int .i64 7] 29)
  have HB4 := Lib.hid (HB3.out.trans (hb4.mono HB3.out.size))
  have HS4 := Lib.hid (HS3.out.below hb4)
  have HV4 := Lib.hid (box1 w3 #[.int .i64 4, .int .i64 7] 29)
  clear hb4
  go_upto_region 5 with fail
  generalize w3.alloc (.cells #[.int .i64 4, .int .i64 7] 29) = w4 at *
  generalize w3.heap.size = vb at *
  obtain ⟨p0, p1, _⟩ := row2 HV4.out
  go_wp2_with fail
  refine (lup_fix w.heap.size _ _ 7 w4 HS4.out (by decide) (by decide)).mono ?_
  rintro e w5 ⟨ng5, ao5, m5, c5, rfl, hb5⟩
  have HB5 := Lib.hid (HB4.out.trans (hb5.mono HB4.out.size))
  have HV5 := Lib.hid ((hb5.block vb (Array.getElem?_eq_some_iff.1 HV4.out).1).trans HV4.out)
  clear hb5 p0 p1
  have hb6 := below1 w5 (.cells #[.int .i64 7, .string ⟨#[]⟩, .bool ng5, .slice ao5 m5 c5, .slice none 0 0, .int .i64 0] 27)
  have HB6 := Lib.hid (HB5.out.trans (hb6.mono HB5.out.size))
  have HV6 := Lib.hid ((hb6.block vb (Array.getElem?_eq_some_iff.1 HV5.out).1).trans HV5.out)
  have HD6 := Lib.hid (box1 w5 #[.int .i64 7, .string ⟨#[]⟩, .bool ng5, .slice ao5 m5 c5, .slice none 0 0, .int .i64 0] 27)
  clear hb6
  go_upto_region 6 with fail
  generalize w5.alloc (.cells #[.int .i64 7, .string ⟨#[]⟩, .bool ng5, .slice ao5 m5 c5, .slice none 0 0, .int .i64 0] 27) = w6 at *
  obtain ⟨p0, p1, _⟩ := row2 HV6.out
  have q0 := cell_heap HD6.out 0
  go_wp2_with fail
  go_ret
  exact ⟨rfl, HB6.out⟩

theorem dm_cells_of {P : Nat → Prop} {w : World} {D : Dm} {us : List Value} (h : LayP P w D us) : ∃ lv av, us = [.int .i64 D.k, .string (mkB D.t), .bool D.n, lv, av, .int .i64 D.a] := by
  obtain ⟨k, t, n, r, l, a⟩ := D
  obtain ⟨lv, av, _, e, _⟩ := h.row
  exact ⟨lv, av, e⟩
set_option maxRecDepth 100000 in
set_option maxHeartbeats 8000000 in
theorem liftnil_any (D : Dm) (us : List Value) (v : Int × Int) (w : World) (hL : Lay w D us) (hr : Lr8 D) (h1 : -9223372036854775808 ≤ v.2) (h2 : v.2 ≤ 9223372036854775807) :
    Calls Tryz.prog 3 #[.agg us.toArray, .agg #[.int .i64 v.1, .int .i64 v.2]] w fun e w' => e = .returned (.bool true) ∧ Below w.heap.size w w' := by
  obtain ⟨t, n⟩ := v
  simp only at h1 h2 ⊢
  obtain ⟨lv, av, xs, hus, _, _, _, hsl, hrow, _⟩ := hL.open'
  obtain ⟨ao, cv0, hav⟩ : ∃ o c, av = .slice o D.l.length c := by obtain ⟨_, _, o, c, h, _⟩ := hrow; exact ⟨o, c, h⟩
  obtain ⟨lo, lc, hlv⟩ : ∃ o c, lv = .slice o D.r.length c := by obtain ⟨_, o, c, h, _⟩ := hsl; exact ⟨o, c, h⟩
  subst hav
  subst hlv
  subst hus
  have HB1 := Lib.hid (below2 w (.cells #[.int .i64 D.k, .string (mkB D.t), .bool D.n, .slice lo D.r.length lc, .slice ao D.l.length cv0, .int .i64 D.a] 27) (.cells #[.int .i64 t, .int .i64 n] 29))
  have HN := Lib.hid (@newsA w (.cells #[.int .i64 D.k, .string (mkB D.t), .bool D.n, .slice lo D.r.length lc, .slice ao D.l.length cv0, .int .i64 D.a] 27) (.cells #[.int .i64 t, .int .i64 n] 29))
  have HL := Lib.hid hL
  have HR := Lib.hid (And.intro hr (And.intro h1 h2))
  clear hL hr h1 h2 hsl hrow
  show Calls Tryz.prog 3 #[.agg #[.int .i64 D.k, .string (mkB D.t), .bool D.n, .slice lo D.r.length lc, .slice ao D.l.length cv0, .int .i64 D.a], .agg #[.int .i64 t, .int .i64 n]] w _
  go_enter Tryz.func3, Tryz.ntmps3
  go_upto_region 1 with fail
  generalize (w.alloc (.cells #[.int .i64 D.k, .string (mkB D.t), .bool D.n, .slice lo D.r.length lc, .slice ao D.l.length cv0, .int .i64 D.a] 27)).alloc (.cells #[.int .i64 t, .int .i64 n] 29) = w1 at *
  obtain ⟨⟨p0, p1, p2, p3, p4, p5⟩, _⟩ := row6n HN.out.1
  go_wp2_with fail
  refine (light8_dm 100 D _ w1 1 (by decide) (Nat.le_refl _) (HL.out.keep HB1.out)).mono ?_
  rintro e w2 ⟨rfl, hb2⟩
  have HB2 := Lib.hid (HB1.out.trans (hb2.mono HB1.out.size))
  have HD2 := Lib.hid ((hb2.block _ (Array.getElem?_eq_some_iff.1 HN.out.1).1).trans HN.out.1)
  have HV2 := Lib.hid ((hb2.block _ (Array.getElem?_eq_some_iff.1 HN.out.2).1).trans HN.out.2)
  clear hb2 p0 p1 p2 p3 p4 p5
  cases hlt : lightB 100 D with
  | false =>
    clear hlt
    go_wp2_with fail
    refine (answers8_any w2).mono ?_
    rintro e w3 ⟨rfl, hb3⟩
    have HB3 := Lib.hid (HB2.out.trans (hb3.mono HB2.out.size))
    clear hb3
    go_wp2_with fail
    go_ret
    exact ⟨rfl, HB3.out⟩
  | true =>
    have HLB := Lib.hid (lb8_of hlt HR.out.1)
    clear hlt
    obtain ⟨⟨p0, p1, p2, p3, p4, p5⟩, _⟩ := row6n HD2.out
    go_wp2_with fail
    refine (own8_dm D.sz D (Nat.le_refl _) HLB.out _ w2 (HL.out.keep HB2.out)).mono ?_
    rintro e w3 ⟨us3, rfl, hly, hb3⟩
    obtain ⟨lv3, av3, rfl⟩ : ∃ lv3 av3, us3 = [.int .i64 D.k, .string (mkB D.t), .bool D.n, lv3, av3, .int .i64 D.a] := dm_cells_of hly
    have HB3 := Lib.hid (HB2.out.trans (hb3.mono HB2.out.size))
    have HV3 := Lib.hid ((hb3.block _ (Array.getElem?_eq_some_iff.1 HV2.out).1).trans HV2.out)
    clear hb3 hly p0 p1 p2 p3 p4 p5
    go_wp2_with fail
    refine (ldown_nil D.k (mkB D.t) D.n lv3 av3 D.a w3).mono ?_
    rintro e w4 ⟨rfl, hb4⟩
    have HB4 := Lib.hid (HB3.out.trans (hb4.mono HB3.out.size))
    have HV4 := Lib.hid ((hb4.block _ (Array.getElem?_eq_some_iff.1 HV3.out).1).trans HV3.out)
    clear hb4
    have hb5 := below1 w4 (.cells #[.int .i64 0, .int .i64 0] 29)
    have HB5 := Lib.hid (HB4.out.trans (hb5.mono HB4.out.size))
    have HV5 := Lib.hid ((hb5.block _ (Array.getElem?_eq_some_iff.1 HV4.out).1).trans HV4.out)
    clear hb5
    go_upto_region 4 with fail
    generalize w4.alloc (.cells #[.int .i64 0, .int .i64 0] 29) = w5 at *
    obtain ⟨p0, p1, _⟩ := row2 HV5.out
    go_wp2_with fail
    refine (lup_nil (t, n) w5).mono ?_
    rintro e w6 ⟨rfl, hb6⟩
    have HB6 := Lib.hid (HB5.out.trans (hb6.mono HB5.out.size))
    have HV6 := Lib.hid ((hb6.block _ (Array.getElem?_eq_some_iff.1 HV5.out).1).trans HV5.out)
    clear hb6 p0 p1
    have hb7 := below1 w6 (.cells #[.int .i64 0, .string ⟨#[]⟩, .bool false, .slice none 0 0, .slice none 0 0, .int .i64 0] 27)
    have HB7 := Lib.hid (HB6.out.trans (hb7.mono HB6.out.size))
    have HV7 := Lib.hid ((hb7.block _ (Array.getElem?_eq_some_iff.1 HV6.out).1).trans HV6.out)
    clear hb7
    go_upto_region 5 with fail
    generalize w6.alloc (.cells #[.int .i64 0, .string ⟨#[]⟩, .bool false, .slice none 0 0, .slice none 0 0, .int .i64 0] 27) = w7 at *
    go_wp2_with fail
    refine (rof_any 5 w7 (by decide) (by decide)).mono ?_
    rintro e w8 ⟨x, ng, rs, rfl, ⟨sv, rfl, hsl⟩, hb8, _, _⟩
    have HB8 := Lib.hid (HB7.out.trans (hb8.mono HB7.out.size))
    have HV8 := Lib.hid ((hb8.block _ (Array.getElem?_eq_some_iff.1 HV7.out).1).trans HV7.out)
    clear hb8 hsl
    go_wp2_with fail
    refine (lint_nil ng sv w8).mono ?_
    rintro e w9 ⟨rfl, hb9⟩
    have HB9 := Lib.hid (HB8.out.trans (hb9.mono HB8.out.size))
    have HV9 := Lib.hid ((hb9.block _ (Array.getElem?_eq_some_iff.1 HV8.out).1).trans HV8.out)
    clear hb9
    have hb10 := below1 w9 (.cells #[.int .i64 0, .int .i64 0] 29)
    have HB10 := Lib.hid (HB9.out.trans (hb10.mono HB9.out.size))
    have HV10 := Lib.hid ((hb10.block _ (Array.getElem?_eq_some_iff.1 HV9.out).1).trans HV9.out)
    clear hb10
    go_upto_region 6 with fail
    generalize w9.alloc (.cells #[.int .i64 0, .int .i64 0] 29) = w10 at *
    obtain ⟨p0, p1, _⟩ := row2 HV10.out
    go_wp2_with fail
    refine (lnum_nil (t, n) w10 HR.out.2.1 HR.out.2.2).mono ?_
    rintro e w11 ⟨rfl, hb11⟩
    have HB11 := Lib.hid (HB10.out.trans (hb11.mono HB10.out.size))
    clear hb11 p0 p1
    have hb12 := below1 w11 (.cells #[.bool false, .slice none 0 0] 24)
    have HB12 := Lib.hid (HB11.out.trans (hb12.mono HB11.out.size))
    clear hb12
    go_upto_region 7 with fail
    generalize w11.alloc (.cells #[.bool false, .slice none 0 0] 24) = w12 at *
    go_wp2_with fail
    refine (answers8_any w12).mono ?_
    rintro e w13 ⟨rfl, hb13⟩
    have HB13 := Lib.hid (HB12.out.trans (hb13.mono HB12.out.size))
    clear hb13
    go_wp2_with fail
    go_ret
    exact ⟨rfl, HB13.out⟩
end Go.Proofs.YtocladhggcaokaaGreatDoor
