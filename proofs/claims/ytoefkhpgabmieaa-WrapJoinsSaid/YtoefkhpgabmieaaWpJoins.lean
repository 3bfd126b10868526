/- WrapJoins -/
import Derived.Test.YtoefkhpgabmieaaWpOrder
import Derived.Test.YtoefkhpgabmieaaOrdG
namespace Go.Proofs.Ytoefkhpgabmieaa
open Go.RowKit

set_option maxRecDepth 100000 in
set_option maxHeartbeats 8000000 in
theorem wrapjoins_any (x y : Value) (ma sa mb sb : List Int) (w : World) (hx : Wr w x ma sa) (hy : Wr w y mb sb) :
    Calls Try.prog 3 #[x, y] w fun e w' => e = .returned (.bool true) ∧ Below w.heap.size w w' := by
  obtain ⟨_, _, rfl, h1a, h2a⟩ := hx.cells
  obtain ⟨_, ao, ap, h3a, _, _⟩ := h1a.cases
  obtain ⟨_, aq, ar, h4a, _, _⟩ := h2a.cases
  generalize hla1 : ma.length = am at h3a
  generalize hla2 : sa.length = an at h4a
  subst h3a h4a
  obtain ⟨_, _, rfl, h1b, h2b⟩ := hy.cells
  obtain ⟨_, bo, bp, h3b, _, _⟩ := h1b.cases
  obtain ⟨_, bq, br, h4b, _, _⟩ := h2b.cases
  generalize hlb1 : mb.length = bm at h3b
  generalize hlb2 : sb.length = bn at h4b
  subst h3b h4b
  have hb1 := below2 w (.cells #[.slice ao am ap, .slice aq an ar] 24) (.cells #[.slice bo bm bp, .slice bq bn br] 24)
  have hn1 := @newsp2 w (.cells #[.slice ao am ap, .slice aq an ar] 24) (.cells #[.slice bo bm bp, .slice bq bn br] 24)
  have HB0 := Lib.hid hb1
  have Ra0 := Lib.hid hn1.1
  have Rb0 := Lib.hid hn1.2
  have HX_0 := Lib.hid (hx.below hb1)
  have HY_0 := Lib.hid (hy.below hb1)
  clear hb1 hn1 hx hy h1a h2a hla1 hla2 h1b h2b hlb1 hlb2
  go_enter Try.func3, Try.ntmps3
  go_upto_region 1 with fail
  generalize (w.alloc (.cells #[.slice ao am ap, .slice aq an ar] 24)).alloc (.cells #[.slice bo bm bp, .slice bq bn br] 24) = w1 at *
  obtain ⟨ca0, da0, ya0, za0⟩ := rowp2 Ra0.out
  obtain ⟨cb0, db0, yb0, zb0⟩ := rowp2 Rb0.out
  go_wp2_with fail
  refine (answers9_any w1).mono ?_
  rintro e w2 ⟨rfl, hbx⟩
  have HB1 := Lib.hid (HB0.out.trans (hbx.mono HB0.out.size))
  have Ra1 := Lib.hid ((hbx.block _ (Array.getElem?_eq_some_iff.1 Ra0.out).1).trans Ra0.out)
  have Rb1 := Lib.hid ((hbx.block _ (Array.getElem?_eq_some_iff.1 Rb0.out).1).trans Rb0.out)
  have HX_1 := Lib.hid (HX_0.out.below hbx)
  have HY_1 := Lib.hid (HY_0.out.below hbx)
  clear Ra0 Rb0 HX_0 HY_0
  clear hbx
  clear ca0 da0 ya0 za0 cb0 db0 yb0 zb0
  obtain ⟨ca1, da1, ya1, za1⟩ := rowp2 Ra1.out
  obtain ⟨cb1, db1, yb1, zb1⟩ := rowp2 Rb1.out
  go_wp2_with fail
  refine (light_any _ _ ma sa _ HX_1.out.parts.1 HX_1.out.parts.2).mono ?_
  rintro e w3 ⟨rfl, hbx⟩
  have HB2 := Lib.hid (HB1.out.trans (hbx.mono HB1.out.size))
  have Ra2 := Lib.hid ((hbx.block _ (Array.getElem?_eq_some_iff.1 Ra1.out).1).trans Ra1.out)
  have Rb2 := Lib.hid ((hbx.block _ (Array.getElem?_eq_some_iff.1 Rb1.out).1).trans Rb1.out)
  have HX_2 := Lib.hid (HX_1.out.below hbx)
  have HY_2 := Lib.hid (HY_1.out.below hbx)
  clear HB1 Ra1 Rb1 HX_1 HY_1
  clear hbx
  clear ca1 da1 ya1 za1 cb1 db1 yb1 zb1
  obtain ⟨ca2, da2, ya2, za2⟩ := rowp2 Ra2.out
  obtain ⟨cb2, db2, yb2, zb2⟩ := rowp2 Rb2.out
  cases hlta : (decide (ma.length ≤ 2000) && decide (sa.length ≤ 2000)) with
  | false =>
    go_wp2_with fail
    clear ca2 da2 ya2 za2 cb2 db2 yb2 zb2
    refine (answers9_any _).mono ?_
    rintro e wz ⟨rfl, hbx⟩
    have HBz := Lib.hid (HB2.out.trans (hbx.mono HB2.out.size))
    clear hbx
    go_wp2_with fail
    go_ret
    exact ⟨rfl, HBz.out⟩
  | true =>
    have hlna : ma.length ≤ 2000 ∧ sa.length ≤ 2000 := by simpa using hlta
    have HNa := Lib.hid hlna
    clear hlta hlna
    go_wp2_with fail
    refine (light_any _ _ mb sb _ HY_2.out.parts.1 HY_2.out.parts.2).mono ?_
    rintro e w4 ⟨rfl, hbx⟩
    have HB3 := Lib.hid (HB2.out.trans (hbx.mono HB2.out.size))
    have Ra3 := Lib.hid ((hbx.block _ (Array.getElem?_eq_some_iff.1 Ra2.out).1).trans Ra2.out)
    have Rb3 := Lib.hid ((hbx.block _ (Array.getElem?_eq_some_iff.1 Rb2.out).1).trans Rb2.out)
    have HX_3 := Lib.hid (HX_2.out.below hbx)
    have HY_3 := Lib.hid (HY_2.out.below hbx)
    clear HB2 Ra2 Rb2 HX_2 HY_2
    clear hbx
    clear ca2 da2 ya2 za2 cb2 db2 yb2 zb2
    obtain ⟨ca3, da3, ya3, za3⟩ := rowp2 Ra3.out
    obtain ⟨cb3, db3, yb3, zb3⟩ := rowp2 Rb3.out
    cases hltb : (decide (mb.length ≤ 2000) && decide (sb.length ≤ 2000)) with
    | false =>
      go_wp2_with fail
      clear ca3 da3 ya3 za3 cb3 db3 yb3 zb3
      refine (answers9_any _).mono ?_
      rintro e wz ⟨rfl, hbx⟩
      have HBz := Lib.hid (HB3.out.trans (hbx.mono HB3.out.size))
      clear hbx
      go_wp2_with fail
      go_ret
      exact ⟨rfl, HBz.out⟩
    | true =>
      have hlnb : mb.length ≤ 2000 ∧ sb.length ≤ 2000 := by simpa using hltb
      have HNb := Lib.hid hlnb
      clear hltb hlnb
      go_upto_region 3 with fail
      clear ca3 da3 ya3 za3 cb3 db3 yb3 zb3
      refine wp_region_late 9 8 6 5 29 (psi [isV (.agg #[.slice ao am ap, .slice aq an ar]), isWr (ma) (sa), isV (.agg #[.slice bo bm bp, .slice bq bn br]), isWr (mb) (sb), isJ (joinA (ma) (sa) (mb) (sb)), isJ (joinA (ma) (sa) (mb) (sb)), isWr (joinA (ma) (sa) (mb) (sb)).1 (joinA (ma) (sa) (mb) (sb)).2.1, isV (.int .i64 (joinA (ma) (sa) (mb) (sb)).2.2), isBox w4.heap.size, nothing, isV (.int .i64 (joinA (ma) (sa) (mb) (sb)).2.2)]) (fun W => Below w4.heap.size w4 W) (FillsP) (by kernel_rfl) (Below.refl _ _).drew (psi_mono ?_) (by kernel_rfl) (by kernel_rfl) (by kernel_rfl) ?_ ?_
      · intro p hp
        simp only [List.mem_cons, List.not_mem_nil, or_false] at hp
        (repeat' rcases hp with rfl | hp) <;> first | exact isV_stays _ | exact nothing_stays | (subst hp; first | exact isV_stays _ | exact nothing_stays) | exact isBox_stays _ | exact isJ_stays _ | exact isWr_stays _ _ | (subst hp; exact isBox_stays _) | (subst hp; exact isJ_stays _) | (subst hp; exact isWr_stays _ _)
      · refine AllOps.cons ?_ ?_
        · refine OpL.early (by kernel_rfl) (by kernel_rfl) fun ab W hC hB hdep => ?_
          refine .inl ⟨rfl, ?_⟩
          have b0 : ab.tmps.getD 2 undef = .pointer (some ⟨w.heap.size, 0, none⟩) := hB.off 2 (by kernel_rfl)
          obtain ⟨c0, c1, _, _⟩ := rowp2 ((hC.block _ (Array.getElem?_eq_some_iff.1 Ra3.out).1).trans Ra3.out)
          clear hB hdep
          refine goes_value (v := .agg #[.slice ao am ap, .slice aq an ar]) ?_ hC rfl
          simp only [execOp, Act.eval, b0]
          go_simp
        refine AllOps.cons ?_ ?_
        · refine OpL.early (by kernel_rfl) (by kernel_rfl) fun ab W hC hB hdep => ?_
          refine .inl ⟨rfl, ?_⟩
          obtain ⟨x0, (q0 : (isV (.agg #[.slice ao am ap, .slice aq an ar])) x0 W), e0⟩ := hdep 0 24 (by kernel_rfl)
          obtain rfl : x0 = .agg #[.slice ao am ap, .slice aq an ar] := q0
          clear hB hdep
          refine goes_call (f := 12) (args := #[.agg #[.slice ao am ap, .slice aq an ar]]) ?_ ?_
          · simp only [execOp]
            go_simp
          · exact (lown_any _ (ma) (sa) W (HX_3.out.below hC) (by have := HNa.out; omega) (by have := HNa.out; omega)).mono fun e w7 ⟨⟨v7, he, hi⟩, hb⟩ => ⟨v7, he, hC.trans (hb.mono hC.size), hb, hi⟩
        refine AllOps.cons ?_ ?_
        · refine OpL.early (by kernel_rfl) (by kernel_rfl) fun ab W hC hB hdep => ?_
          refine .inl ⟨rfl, ?_⟩
          have b0 : ab.tmps.getD 3 undef = .pointer (some ⟨w.heap.size + 1, 0, none⟩) := hB.off 3 (by kernel_rfl)
          obtain ⟨c0, c1, _, _⟩ := rowp2 ((hC.block _ (Array.getElem?_eq_some_iff.1 Rb3.out).1).trans Rb3.out)
          clear hB hdep
          refine goes_value (v := .agg #[.slice bo bm bp, .slice bq bn br]) ?_ hC rfl
          simp only [execOp, Act.eval, b0]
          go_simp
        refine AllOps.cons ?_ ?_
        · refine OpL.early (by kernel_rfl) (by kernel_rfl) fun ab W hC hB hdep => ?_
          refine .inl ⟨rfl, ?_⟩
          obtain ⟨x0, (q0 : (isV (.agg #[.slice bo bm bp, .slice bq bn br])) x0 W), e0⟩ := hdep 2 26 (by kernel_rfl)
          obtain rfl : x0 = .agg #[.slice bo bm bp, .slice bq bn br] := q0
          clear hB hdep
          refine goes_call (f := 12) (args := #[.agg #[.slice bo bm bp, .slice bq bn br]]) ?_ ?_
          · simp only [execOp]
            go_simp
          · exact (lown_any _ (mb) (sb) W (HY_3.out.below hC) (by have := HNb.out; omega) (by have := HNb.out; omega)).mono fun e w7 ⟨⟨v7, he, hi⟩, hb⟩ => ⟨v7, he, hC.trans (hb.mono hC.size), hb, hi⟩
        refine AllOps.cons ?_ ?_
        · refine OpL.early (by kernel_rfl) (by kernel_rfl) fun ab W hC hB hdep => ?_
          refine .inl ⟨rfl, ?_⟩
          obtain ⟨x0, (q0 : (isWr (ma) (sa)) x0 W), e0⟩ := hdep 1 25 (by kernel_rfl)
          skip
          obtain ⟨x1, (q1 : (isWr (mb) (sb)) x1 W), e1⟩ := hdep 3 27 (by kernel_rfl)
          skip
          clear hB hdep
          refine goes_call (f := 11) (args := #[x0, x1]) ?_ ?_
          · simp only [execOp]
            go_simp
          · exact (wjoin_any x0 x1 (ma) (sa) (mb) (sb) W (q0) (q1)).mono fun e w7 ⟨⟨v7, he, hi⟩, hb⟩ => ⟨_, he, hC.trans (hb.mono hC.size), hb, ⟨v7, rfl, hi⟩⟩
        refine AllOps.cons ?_ ?_
        · refine OpL.early (by kernel_rfl) (by kernel_rfl) fun ab W hC hB hdep => ?_
          refine .inl ⟨rfl, ?_⟩
          obtain ⟨x0, (q0 : (isJ (joinA (ma) (sa) (mb) (sb))) x0 W), e0⟩ := hdep 4 28 (by kernel_rfl)
          obtain ⟨jx0, rfl, hj0⟩ := q0
          clear hB hdep
          refine goes_value (v := .tuple #[jx0, .int .i64 (joinA (ma) (sa) (mb) (sb)).2.2]) ?_ hC ⟨jx0, rfl, hj0⟩
          simp only [execOp, Act.eval, e0]
          go_simp
        refine AllOps.cons ?_ ?_
        · refine OpL.early (by kernel_rfl) (by kernel_rfl) fun ab W hC hB hdep => ?_
          refine .inl ⟨rfl, ?_⟩
          obtain ⟨x0, (q0 : (isJ (joinA (ma) (sa) (mb) (sb))) x0 W), e0⟩ := hdep 5 23 (by kernel_rfl)
          obtain ⟨jx0, rfl, hj0⟩ := q0
          clear hB hdep
          refine goes_value (v := jx0) ?_ hC hj0
          simp only [execOp, Act.eval, e0]
          go_simp
        refine AllOps.cons ?_ ?_
        · refine OpL.pure (by kernel_rfl) (by kernel_rfl) fun ab W W1 hC hB hdep => .inl ⟨rfl, ?_⟩
          obtain ⟨x0, (q0 : (isJ (joinA (ma) (sa) (mb) (sb))) x0 W), e0⟩ := hdep 5 23 (by kernel_rfl)
          obtain ⟨jx0, rfl, hj0⟩ := q0
          clear hB hdep
          refine ⟨.int .i64 (joinA (ma) (sa) (mb) (sb)).2.2, ?_, rfl⟩
          simp only [execOp, Act.eval, e0]
          go_simp
        refine AllOps.cons ?_ ?_
        · refine OpL.early (by kernel_rfl) (by kernel_rfl) fun ab W hC hB hdep => ?_
          refine .inl ⟨rfl, ?_⟩
          clear hB hdep
          refine goes_world (v := .pointer (some ⟨W.heap.size, 0, none⟩)) (w1 := W.alloc (.cells #[.slice none 0 0, .slice none 0 0] 24)) ?_ (hC.trans ((below1 W _).mono hC.size)) (below1 W _) ⟨_, rfl, hC.size, heap_alloc_new W _⟩
          simp only [execOp]
          go_simp
        refine AllOps.cons ?_ ?_
        · refine OpL.write (by kernel_rfl) fun vals ab W hC hB hdep => ⟨rfl, ?_⟩
          obtain ⟨(q0 : (isBox w4.heap.size) (vals 8) W), e0⟩ := hdep 8 5 (by kernel_rfl)
          generalize vals 8 = x0 at *
          obtain ⟨g0, rfl, hge0, hg0⟩ := q0
          obtain ⟨(q1 : (isWr (joinA (ma) (sa) (mb) (sb)).1 (joinA (ma) (sa) (mb) (sb)).2.1) (vals 6) W), e1⟩ := hdep 6 29 (by kernel_rfl)
          generalize vals 6 = x1 at *
          obtain ⟨u1, v1, rfl, hu1, hv1⟩ := Wr.cells q1
          obtain ⟨_, uo1, uc1, rfl, _, _⟩ := hu1.cases
          obtain ⟨_, vo1, vc1, rfl, _, _⟩ := hv1.cases
          clear hB hdep
          obtain ⟨_, _, z1, z2⟩ := rowp2 hg0
          refine writes_skip (w1 := (W.setCell ⟨g0, 0, none⟩ _).setCell ⟨g0, 1, none⟩ _) ?_ ⟨_, _, _, rfl, rfl, rfl⟩
          simp only [execOp, Act.eval, e0, e1]
          go_simp
        refine AllOps.cons ?_ ?_
        · refine OpL.pure (by kernel_rfl) (by kernel_rfl) fun ab W W1 hC hB hdep => .inl ⟨rfl, ?_⟩
          obtain ⟨x0, (q0 : (isV (.int .i64 (joinA (ma) (sa) (mb) (sb)).2.2)) x0 W), e0⟩ := hdep 7 30 (by kernel_rfl)
          obtain rfl : x0 = .int .i64 (joinA (ma) (sa) (mb) (sb)).2.2 := q0
          clear hB hdep
          refine ⟨.int .i64 (joinA (ma) (sa) (mb) (sb)).2.2, ?_, rfl⟩
          simp only [execOp, Act.eval, e0]
          go_simp
        exact trivial
      · intro vals aa W0 wA hC hFin hB hall
        obtain ⟨(k0 : (isV (.agg #[.slice ao am ap, .slice aq an ar])) (vals 0) W0), e0⟩ := hall 0 _ rfl (by decide)
        obtain ⟨(k1 : (isWr (ma) (sa)) (vals 1) W0), e1⟩ := hall 1 _ rfl (by decide)
        obtain ⟨(k2 : (isV (.agg #[.slice bo bm bp, .slice bq bn br])) (vals 2) W0), e2⟩ := hall 2 _ rfl (by decide)
        obtain ⟨(k3 : (isWr (mb) (sb)) (vals 3) W0), e3⟩ := hall 3 _ rfl (by decide)
        obtain ⟨(k4 : (isJ (joinA (ma) (sa) (mb) (sb))) (vals 4) W0), e4⟩ := hall 4 _ rfl (by decide)
        obtain ⟨(k5 : (isJ (joinA (ma) (sa) (mb) (sb))) (vals 5) W0), e5⟩ := hall 5 _ rfl (by decide)
        obtain ⟨(k6 : (isWr (joinA (ma) (sa) (mb) (sb)).1 (joinA (ma) (sa) (mb) (sb)).2.1) (vals 6) W0), e6⟩ := hall 6 _ rfl (by decide)
        obtain ⟨(k7 : (isV (.int .i64 (joinA (ma) (sa) (mb) (sb)).2.2)) (vals 7) W0), e7⟩ := hall 7 _ rfl (by decide)
        obtain ⟨(k8 : (isBox w4.heap.size) (vals 8) W0), e8⟩ := hall 8 _ rfl (by decide)
        obtain ⟨(k10 : (isV (.int .i64 (joinA (ma) (sa) (mb) (sb)).2.2)) (vals 10) W0), e10⟩ := hall 10 _ rfl (by decide)
        have hv : ∀ p ∈ [((24 : Nat), (.agg #[.slice ao am ap, .slice aq an ar] : Value)), ((25 : Nat), (vals 1 : Value)), ((26 : Nat), (.agg #[.slice bo bm bp, .slice bq bn br] : Value)), ((27 : Nat), (vals 3 : Value)), ((28 : Nat), (vals 4 : Value)), ((23 : Nat), (vals 5 : Value)), ((29 : Nat), (vals 6 : Value)), ((30 : Nat), (.int .i64 (joinA (ma) (sa) (mb) (sb)).2.2 : Value)), ((5 : Nat), (vals 8 : Value)), ((6 : Nat), (.int .i64 (joinA (ma) (sa) (mb) (sb)).2.2 : Value))], aa.tmps.getD p.1 undef = p.2 := by
          intro p hp
          simp only [List.mem_cons, List.not_mem_nil, or_false] at hp
          rcases hp with rfl | rfl | rfl | rfl | rfl | rfl | rfl | rfl | rfl | rfl
          · exact (e0 _ rfl).trans k0
          · exact e1 _ rfl
          · exact (e2 _ rfl).trans k2
          · exact e3 _ rfl
          · exact e4 _ rfl
          · exact e5 _ rfl
          · exact e6 _ rfl
          · exact (e7 _ rfl).trans k7
          · exact e8 _ rfl
          · exact (e10 _ rfl).trans k10
        have hact := act_fold _ hB hv (by kernel_rfl)
        subst hact
        obtain ⟨d_g, d_o1, d_n1, d_c1, d_o2, d_n2, d_c2, hpg, hpv, hrow, hwr, hbx⟩ := fills_end hC hFin k8 k6
        generalize vals 1 = d_v1 at *
        generalize vals 3 = d_v3 at *
        generalize vals 4 = d_v4 at *
        generalize vals 5 = d_v5 at *
        rw [hpg, hpv]
        clear hv hall hB hC hFin k0 e0 k1 e1 k2 e2 k3 e3 k4 e4 k5 e5 k6 e6 k7 e7 k8 e8 k10 e10 hpg hpv
        refine (‹∀ (a : Act) (w : World), Code.wp Try.prog _ _ a w → _›) _ wA ?_
        simp only [List.foldl, List.setIfInBounds_toArray, List.set_cons_succ, List.set_cons_zero]
        obtain ⟨ek, hek⟩ : ∃ k, k = (joinA ma sa mb sb).2.2 := ⟨_, rfl⟩
        rw [← hek]
        have HEK := Lib.hid hek
        clear hek
        have HB4 := Lib.hid (HB3.out.trans (hbx.mono HB3.out.size))
        have Ra4 := Lib.hid ((hbx.block _ (Array.getElem?_eq_some_iff.1 Ra3.out).1).trans Ra3.out)
        have Rb4 := Lib.hid ((hbx.block _ (Array.getElem?_eq_some_iff.1 Rb3.out).1).trans Rb3.out)
        have HX_4 := Lib.hid (HX_3.out.below hbx)
        have HY_4 := Lib.hid (HY_3.out.below hbx)
        clear HB3 Ra3 Rb3 HX_3 HY_3
        have Rd4 := Lib.hid hrow
        have HD_4 := Lib.hid hwr
        clear hbx hrow hwr
        obtain ⟨ca4, da4, ya4, za4⟩ := rowp2 Ra4.out
        obtain ⟨cb4, db4, yb4, zb4⟩ := rowp2 Rb4.out
        obtain ⟨cd4, dd4, yd4, zd4⟩ := rowp2 Rd4.out
        go_wp2_with fail
        refine (rjoin_any _ _ _ _ ma sa mb sb _ HX_4.out.parts.1 HX_4.out.parts.2 HY_4.out.parts.1 HY_4.out.parts.2).mono ?_
        rintro e wB ⟨⟨ja, jb, rfl, hja, hjb⟩, hbx⟩
        rw [← HEK.out]
        have HB5 := Lib.hid (HB4.out.trans (hbx.mono HB4.out.size))
        have Ra5 := Lib.hid ((hbx.block _ (Array.getElem?_eq_some_iff.1 Ra4.out).1).trans Ra4.out)
        have Rb5 := Lib.hid ((hbx.block _ (Array.getElem?_eq_some_iff.1 Rb4.out).1).trans Rb4.out)
        have Rd5 := Lib.hid ((hbx.block _ (Array.getElem?_eq_some_iff.1 Rd4.out).1).trans Rd4.out)
        have HX_5 := Lib.hid (HX_4.out.below hbx)
        have HY_5 := Lib.hid (HY_4.out.below hbx)
        have HD_5 := Lib.hid (HD_4.out.below hbx)
        clear HB4 Ra4 Rb4 Rd4 HX_4 HY_4 HD_4
        clear hbx
        clear ca4 da4 ya4 za4 cb4 db4 yb4 zb4 cd4 dd4 yd4 zd4
        obtain ⟨ca5, da5, ya5, za5⟩ := rowp2 Ra5.out
        obtain ⟨cb5, db5, yb5, zb5⟩ := rowp2 Rb5.out
        obtain ⟨cd5, dd5, yd5, zd5⟩ := rowp2 Rd5.out
        obtain ⟨_, jo, jp, hje, _, _⟩ := hja.cases
        obtain ⟨_, jq, jr, hjf, _, _⟩ := hjb.cases
        generalize (joinA ma sa mb sb).1.length = jm at hje
        generalize (joinA ma sa mb sb).2.1.length = jn at hjf
        subst hje hjf
        have HJJ_5 := Lib.hid (Wr.mk ⟨_, _, rfl, hja, hjb⟩)
        clear hja hjb
        go_upto_region 5 with fail
        clear ca5 da5 ya5 za5 cb5 db5 yb5 zb5 cd5 dd5 yd5 zd5
        refine wp_region_slotsG (psi [isV (.agg #[.slice ao am ap, .slice aq an ar]), isWr ma sa, isV (.bool (sndB ma sa)), isV (.pointer (some ⟨w.heap.size, 0, none⟩)), isV (.slice ao am ap), isV (.pointer (some ⟨w.heap.size, 1, none⟩)), isV (.slice aq an ar), isV (.bool (sndB ma sa)), isV (.bool true), isV (.bool true), isV (.int .i64 ek), isV (.int .i64 ek), isV (.bool true), isV (.bool true), isV (.bool true), isV (.agg #[.slice d_o1 d_n1 d_c1, .slice d_o2 d_n2 d_c2]), isV (.slice jo jm jp), isV (.slice jq jn jr), isV (.agg #[.slice jo jm jp, .slice jq jn jr]), isV (.bool true), isV (.bool true), isV (.bool true), isV (.agg #[.slice ao am ap, .slice aq an ar]), isWr ma sa, isV (.agg #[.slice bo bm bp, .slice bq bn br]), isWr mb sb, isV (.bool (sameZ ma mb && sameZ sa sb)), isV (.agg #[.slice ao am ap, .slice aq an ar]), isV (.agg #[.slice bo bm bp, .slice bq bn br]), isV (.bool (sameZ ma mb && sameZ sa sb)), isV (.bool true), isV (.bool true), isV (.bool true)]) (fun W => Below wB.heap.size wB W) (by kernel_rfl) (Below.refl _ _).drew (psi_mono ?_) (by kernel_rfl) (by kernel_rfl) ?_ ?_
        · intro p hp
          simp only [List.mem_cons, List.not_mem_nil, or_false] at hp
          (repeat' rcases hp with rfl | hp) <;> first | exact isV_stays _ | (subst hp; exact isV_stays _) | exact isWr_stays _ _ | (subst hp; exact isWr_stays _ _)
        · refine AllOps.cons ?_ ?_
          · intro ab W hC hB hdep
            refine .inl ⟨rfl, ?_⟩
            have b0 : ab.tmps.getD 2 undef = .pointer (some ⟨w.heap.size, 0, none⟩) := hB.off 2 (by kernel_rfl)
            obtain ⟨c0, c1, _, _⟩ := rowp2 ((hC.block _ (Array.getElem?_eq_some_iff.1 Ra5.out).1).trans Ra5.out)
            clear hB hdep
            refine goes_value (v := .agg #[.slice ao am ap, .slice aq an ar]) ?_ hC rfl
            simp only [execOp, Act.eval, b0]
            go_simp
          refine AllOps.cons ?_ ?_
          · intro ab W hC hB hdep
            refine .inl ⟨rfl, ?_⟩
            obtain ⟨x0, (q0 : (isV (.agg #[.slice ao am ap, .slice aq an ar])) x0 W), e0⟩ := hdep 0 44 (by kernel_rfl)
            obtain rfl : x0 = .agg #[.slice ao am ap, .slice aq an ar] := q0
            clear hB hdep
            refine goes_call (f := 12) (args := #[.agg #[.slice ao am ap, .slice aq an ar]]) ?_ ?_
            · simp only [execOp]
              go_simp
            · exact (lown_any _ ma sa W (HX_5.out.below hC) (by have := HNa.out; omega) (by have := HNa.out; omega)).mono fun e w7 ⟨⟨v7, he, hi⟩, hb⟩ => ⟨v7, he, hC.trans (hb.mono hC.size), hb, hi⟩
          refine AllOps.cons ?_ ?_
          · intro ab W hC hB hdep
            refine .inl ⟨rfl, ?_⟩
            obtain ⟨x0, (q0 : (isWr ma sa) x0 W), e0⟩ := hdep 1 45 (by kernel_rfl)
            skip
            clear hB hdep
            refine goes_call (f := 14) (args := #[x0]) ?_ ?_
            · simp only [execOp]
              go_simp
            · exact (wsound_any _ ma sa W q0).mono fun e w7 ⟨he, hb⟩ => ⟨_, he, hC.trans (hb.mono hC.size), hb, rfl⟩
          refine AllOps.cons ?_ ?_
          · intro ab W hC hB hdep
            refine .inl ⟨rfl, ?_⟩
            have b0 : ab.tmps.getD 2 undef = .pointer (some ⟨w.heap.size, 0, none⟩) := hB.off 2 (by kernel_rfl)
            clear hB hdep
            refine goes_value (v := .pointer (some ⟨w.heap.size, 0, none⟩)) ?_ hC rfl
            simp only [execOp, Act.eval, b0]
            go_simp
          refine AllOps.cons ?_ ?_
          · intro ab W hC hB hdep
            refine .inl ⟨rfl, ?_⟩
            obtain ⟨x0, (q0 : (isV (.pointer (some ⟨w.heap.size, 0, none⟩))) x0 W), e0⟩ := hdep 3 47 (by kernel_rfl)
            obtain rfl : x0 = .pointer (some ⟨w.heap.size, 0, none⟩) := q0
            obtain ⟨c0, c1, _, _⟩ := rowp2 ((hC.block _ (Array.getElem?_eq_some_iff.1 Ra5.out).1).trans Ra5.out)
            clear hB hdep
            refine goes_value (v := .slice ao am ap) ?_ hC rfl
            simp only [execOp, Act.eval, e0]
            go_simp
          refine AllOps.cons ?_ ?_
          · intro ab W hC hB hdep
            refine .inl ⟨rfl, ?_⟩
            have b0 : ab.tmps.getD 2 undef = .pointer (some ⟨w.heap.size, 0, none⟩) := hB.off 2 (by kernel_rfl)
            clear hB hdep
            refine goes_value (v := .pointer (some ⟨w.heap.size, 1, none⟩)) ?_ hC rfl
            simp only [execOp, Act.eval, b0]
            go_simp
          refine AllOps.cons ?_ ?_
          · intro ab W hC hB hdep
            refine .inl ⟨rfl, ?_⟩
            obtain ⟨x0, (q0 : (isV (.pointer (some ⟨w.heap.size, 1, none⟩))) x0 W), e0⟩ := hdep 5 49 (by kernel_rfl)
            obtain rfl : x0 = .pointer (some ⟨w.heap.size, 1, none⟩) := q0
            obtain ⟨c0, c1, _, _⟩ := rowp2 ((hC.block _ (Array.getElem?_eq_some_iff.1 Ra5.out).1).trans Ra5.out)
            clear hB hdep
            refine goes_value (v := .slice aq an ar) ?_ hC rfl
            simp only [execOp, Act.eval, e0]
            go_simp
          refine AllOps.cons ?_ ?_
          · intro ab W hC hB hdep
            refine .inl ⟨rfl, ?_⟩
            obtain ⟨x0, (q0 : (isV (.slice ao am ap)) x0 W), e0⟩ := hdep 4 48 (by kernel_rfl)
            obtain rfl : x0 = .slice ao am ap := q0
            obtain ⟨x1, (q1 : (isV (.slice aq an ar)) x1 W), e1⟩ := hdep 6 50 (by kernel_rfl)
            obtain rfl : x1 = .slice aq an ar := q1
            clear hB hdep
            refine goes_call (f := 15) (args := #[.slice ao am ap, .slice aq an ar]) ?_ ?_
            · simp only [execOp]
              go_simp
            · exact (rsound_any _ _ ma sa W (HX_5.out.below hC).parts.1 (HX_5.out.below hC).parts.2).mono fun e w7 ⟨he, hb⟩ => ⟨_, he, hb ▸ hC, hb ▸ Below.refl _ _, rfl⟩
          refine AllOps.cons ?_ ?_
          · intro ab W hC hB hdep
            refine .inl ⟨rfl, ?_⟩
            obtain ⟨x0, (q0 : (isV (.bool (sndB ma sa))) x0 W), e0⟩ := hdep 2 46 (by kernel_rfl)
            obtain rfl : x0 = .bool (sndB ma sa) := q0
            obtain ⟨x1, (q1 : (isV (.bool (sndB ma sa))) x1 W), e1⟩ := hdep 7 51 (by kernel_rfl)
            obtain rfl : x1 = .bool (sndB ma sa) := q1
            clear hB hdep
            refine goes_value (v := .bool true) ?_ hC rfl
            simp only [execOp, Act.eval, e0, e1]
            go_simp
          refine AllOps.cons ?_ ?_
          · intro ab W hC hB hdep
            refine .inl ⟨rfl, ?_⟩
            obtain ⟨x0, (q0 : (isV (.bool true)) x0 W), e0⟩ := hdep 8 52 (by kernel_rfl)
            obtain rfl : x0 = .bool true := q0
            clear hB hdep
            refine goes_value (v := .bool true) ?_ hC rfl
            simp only [execOp, Act.eval, e0]
            go_simp
          refine AllOps.cons ?_ ?_
          · intro ab W hC hB hdep
            obtain ⟨xg, (qg : xg = .bool true), eg⟩ := hdep 9 53 (by kernel_rfl)
            subst qg
            refine .inl ⟨((wanted_is (g := 9) (t := 53) (b := true) (c := true) rfl rfl (by rw [hB.size]; exact Nat.le_of_ble_eq_true rfl) eg).trans rfl), ?_⟩
            have b0 : ab.tmps.getD 6 undef = .int .i64 ek := hB.off 6 (by kernel_rfl)
            clear hB hdep
            refine goes_value (v := .int .i64 ek) ?_ hC rfl
            simp only [execOp, Act.eval, b0]
            go_simp
          refine AllOps.cons ?_ ?_
          · intro ab W hC hB hdep
            obtain ⟨xg, (qg : xg = .bool true), eg⟩ := hdep 9 53 (by kernel_rfl)
            subst qg
            refine .inl ⟨((wanted_is (g := 9) (t := 53) (b := true) (c := true) rfl rfl (by rw [hB.size]; exact Nat.le_of_ble_eq_true rfl) eg).trans rfl), ?_⟩
            have b0 : ab.tmps.getD 9 undef = .int .i64 ek := hB.off 9 (by kernel_rfl)
            clear hB hdep
            refine goes_value (v := .int .i64 ek) ?_ hC rfl
            simp only [execOp, Act.eval, b0]
            go_simp
          refine AllOps.cons ?_ ?_
          · intro ab W hC hB hdep
            obtain ⟨xg, (qg : xg = .bool true), eg⟩ := hdep 9 53 (by kernel_rfl)
            subst qg
            refine .inl ⟨((wanted_is (g := 9) (t := 53) (b := true) (c := true) rfl rfl (by rw [hB.size]; exact Nat.le_of_ble_eq_true rfl) eg).trans rfl), ?_⟩
            obtain ⟨x0, (q0 : (isV (.int .i64 ek)) x0 W), e0⟩ := hdep 10 54 (by kernel_rfl)
            obtain rfl : x0 = .int .i64 ek := q0
            obtain ⟨x1, (q1 : (isV (.int .i64 ek)) x1 W), e1⟩ := hdep 11 55 (by kernel_rfl)
            obtain rfl : x1 = .int .i64 ek := q1
            clear hB hdep
            refine goes_value (v := .bool true) ?_ hC rfl
            simp only [execOp, Act.eval, e0, e1]
            go_simp
          refine AllOps.cons ?_ ?_
          · intro ab W hC hB hdep
            refine .inl ⟨rfl, ?_⟩
            obtain ⟨x0, (q0 : (isV (.bool true)) x0 W), e0⟩ := hdep 9 53 (by kernel_rfl)
            obtain rfl : x0 = .bool true := q0
            obtain ⟨x1, (q1 : (isV (.bool true)) x1 W), e1⟩ := hdep 12 56 (by kernel_rfl)
            obtain rfl : x1 = .bool true := q1
            clear hB hdep
            refine goes_value (v := .bool true) ?_ hC rfl
            simp only [execOp, Act.eval, e0, e1]
            go_simp
          refine AllOps.cons ?_ ?_
          · intro ab W hC hB hdep
            refine .inl ⟨rfl, ?_⟩
            obtain ⟨x0, (q0 : (isV (.bool true)) x0 W), e0⟩ := hdep 13 57 (by kernel_rfl)
            obtain rfl : x0 = .bool true := q0
            clear hB hdep
            refine goes_value (v := .bool true) ?_ hC rfl
            simp only [execOp, Act.eval, e0]
            go_simp
          refine AllOps.cons ?_ ?_
          · intro ab W hC hB hdep
            obtain ⟨xg, (qg : xg = .bool true), eg⟩ := hdep 14 58 (by kernel_rfl)
            subst qg
            refine .inl ⟨((wanted_is (g := 14) (t := 58) (b := true) (c := true) rfl rfl (by rw [hB.size]; exact Nat.le_of_ble_eq_true rfl) eg).trans rfl), ?_⟩
            have b0 : ab.tmps.getD 5 undef = .pointer (some ⟨d_g, 0, none⟩) := hB.off 5 (by kernel_rfl)
            obtain ⟨c0, c1, _, _⟩ := rowp2 ((hC.block _ (Array.getElem?_eq_some_iff.1 Rd5.out).1).trans Rd5.out)
            clear hB hdep
            refine goes_value (v := .agg #[.slice d_o1 d_n1 d_c1, .slice d_o2 d_n2 d_c2]) ?_ hC rfl
            simp only [execOp, Act.eval, b0]
            go_simp
          refine AllOps.cons ?_ ?_
          · intro ab W hC hB hdep
            obtain ⟨xg, (qg : xg = .bool true), eg⟩ := hdep 14 58 (by kernel_rfl)
            subst qg
            refine .inl ⟨((wanted_is (g := 14) (t := 58) (b := true) (c := true) rfl rfl (by rw [hB.size]; exact Nat.le_of_ble_eq_true rfl) eg).trans rfl), ?_⟩
            have b0 : ab.tmps.getD 7 undef = .slice jo jm jp := hB.off 7 (by kernel_rfl)
            clear hB hdep
            refine goes_value (v := .slice jo jm jp) ?_ hC rfl
            simp only [execOp, Act.eval, b0]
            go_simp
          refine AllOps.cons ?_ ?_
          · intro ab W hC hB hdep
            obtain ⟨xg, (qg : xg = .bool true), eg⟩ := hdep 14 58 (by kernel_rfl)
            subst qg
            refine .inl ⟨((wanted_is (g := 14) (t := 58) (b := true) (c := true) rfl rfl (by rw [hB.size]; exact Nat.le_of_ble_eq_true rfl) eg).trans rfl), ?_⟩
            have b0 : ab.tmps.getD 8 undef = .slice jq jn jr := hB.off 8 (by kernel_rfl)
            clear hB hdep
            refine goes_value (v := .slice jq jn jr) ?_ hC rfl
            simp only [execOp, Act.eval, b0]
            go_simp
          refine AllOps.cons ?_ ?_
          · intro ab W hC hB hdep
            obtain ⟨xg, (qg : xg = .bool true), eg⟩ := hdep 14 58 (by kernel_rfl)
            subst qg
            refine .inl ⟨((wanted_is (g := 14) (t := 58) (b := true) (c := true) rfl rfl (by rw [hB.size]; exact Nat.le_of_ble_eq_true rfl) eg).trans rfl), ?_⟩
            obtain ⟨x0, (q0 : (isV (.slice jo jm jp)) x0 W), e0⟩ := hdep 16 60 (by kernel_rfl)
            obtain rfl : x0 = .slice jo jm jp := q0
            obtain ⟨x1, (q1 : (isV (.slice jq jn jr)) x1 W), e1⟩ := hdep 17 61 (by kernel_rfl)
            obtain rfl : x1 = .slice jq jn jr := q1
            clear hB hdep
            refine goes_value (v := .agg #[.slice jo jm jp, .slice jq jn jr]) ?_ hC rfl
            simp only [Array.getD_eq_getD_getElem?] at e0 e1
            simp only [execOp]
            go_simp
          refine AllOps.cons ?_ ?_
          · intro ab W hC hB hdep
            obtain ⟨xg, (qg : xg = .bool true), eg⟩ := hdep 14 58 (by kernel_rfl)
            subst qg
            refine .inl ⟨((wanted_is (g := 14) (t := 58) (b := true) (c := true) rfl rfl (by rw [hB.size]; exact Nat.le_of_ble_eq_true rfl) eg).trans rfl), ?_⟩
            obtain ⟨x0, (q0 : (isV (.agg #[.slice d_o1 d_n1 d_c1, .slice d_o2 d_n2 d_c2])) x0 W), e0⟩ := hdep 15 59 (by kernel_rfl)
            obtain rfl : x0 = .agg #[.slice d_o1 d_n1 d_c1, .slice d_o2 d_n2 d_c2] := q0
            obtain ⟨x1, (q1 : (isV (.agg #[.slice jo jm jp, .slice jq jn jr])) x1 W), e1⟩ := hdep 18 62 (by kernel_rfl)
            obtain rfl : x1 = .agg #[.slice jo jm jp, .slice jq jn jr] := q1
            clear hB hdep
            refine goes_call (f := 16) (args := #[.agg #[.slice d_o1 d_n1 d_c1, .slice d_o2 d_n2 d_c2], .agg #[.slice jo jm jp, .slice jq jn jr]]) ?_ ?_
            · simp only [execOp]
              go_simp
            · exact (lsame_wr _ _ _ _ _ _ W (HD_5.out.below hC) (HJJ_5.out.below hC)).mono fun e w7 ⟨he, hb⟩ => ⟨_, he, hC.trans (hb.mono hC.size), hb, by rw [sameZ_true rfl, sameZ_true rfl]; rfl⟩
          refine AllOps.cons ?_ ?_
          · intro ab W hC hB hdep
            refine .inl ⟨rfl, ?_⟩
            obtain ⟨x0, (q0 : (isV (.bool true)) x0 W), e0⟩ := hdep 14 58 (by kernel_rfl)
            obtain rfl : x0 = .bool true := q0
            obtain ⟨x1, (q1 : (isV (.bool true)) x1 W), e1⟩ := hdep 19 63 (by kernel_rfl)
            obtain rfl : x1 = .bool true := q1
            clear hB hdep
            refine goes_value (v := .bool true) ?_ hC rfl
            simp only [execOp, Act.eval, e0, e1]
            go_simp
          refine AllOps.cons ?_ ?_
          · intro ab W hC hB hdep
            refine .inl ⟨rfl, ?_⟩
            obtain ⟨x0, (q0 : (isV (.bool true)) x0 W), e0⟩ := hdep 20 64 (by kernel_rfl)
            obtain rfl : x0 = .bool true := q0
            clear hB hdep
            refine goes_value (v := .bool true) ?_ hC rfl
            simp only [execOp, Act.eval, e0]
            go_simp
          refine AllOps.cons ?_ ?_
          · intro ab W hC hB hdep
            obtain ⟨xg, (qg : xg = .bool true), eg⟩ := hdep 21 65 (by kernel_rfl)
            subst qg
            refine .inl ⟨((wanted_is (g := 21) (t := 65) (b := true) (c := true) rfl rfl (by rw [hB.size]; exact Nat.le_of_ble_eq_true rfl) eg).trans rfl), ?_⟩
            have b0 : ab.tmps.getD 2 undef = .pointer (some ⟨w.heap.size, 0, none⟩) := hB.off 2 (by kernel_rfl)
            obtain ⟨c0, c1, _, _⟩ := rowp2 ((hC.block _ (Array.getElem?_eq_some_iff.1 Ra5.out).1).trans Ra5.out)
            clear hB hdep
            refine goes_value (v := .agg #[.slice ao am ap, .slice aq an ar]) ?_ hC rfl
            simp only [execOp, Act.eval, b0]
            go_simp
          refine AllOps.cons ?_ ?_
          · intro ab W hC hB hdep
            obtain ⟨xg, (qg : xg = .bool true), eg⟩ := hdep 21 65 (by kernel_rfl)
            subst qg
            refine .inl ⟨((wanted_is (g := 21) (t := 65) (b := true) (c := true) rfl rfl (by rw [hB.size]; exact Nat.le_of_ble_eq_true rfl) eg).trans rfl), ?_⟩
            obtain ⟨x0, (q0 : (isV (.agg #[.slice ao am ap, .slice aq an ar])) x0 W), e0⟩ := hdep 22 66 (by kernel_rfl)
            obtain rfl : x0 = .agg #[.slice ao am ap, .slice aq an ar] := q0
            clear hB hdep
            refine goes_call (f := 12) (args := #[.agg #[.slice ao am ap, .slice aq an ar]]) ?_ ?_
            · simp only [execOp]
              go_simp
            · exact (lown_any _ ma sa W (HX_5.out.below hC) (by have := HNa.out; omega) (by have := HNa.out; omega)).mono fun e w7 ⟨⟨v7, he, hi⟩, hb⟩ => ⟨v7, he, hC.trans (hb.mono hC.size), hb, hi⟩
          refine AllOps.cons ?_ ?_
          · intro ab W hC hB hdep
            obtain ⟨xg, (qg : xg = .bool true), eg⟩ := hdep 21 65 (by kernel_rfl)
            subst qg
            refine .inl ⟨((wanted_is (g := 21) (t := 65) (b := true) (c := true) rfl rfl (by rw [hB.size]; exact Nat.le_of_ble_eq_true rfl) eg).trans rfl), ?_⟩
            have b0 : ab.tmps.getD 3 undef = .pointer (some ⟨w.heap.size + 1, 0, none⟩) := hB.off 3 (by kernel_rfl)
            obtain ⟨c0, c1, _, _⟩ := rowp2 ((hC.block _ (Array.getElem?_eq_some_iff.1 Rb5.out).1).trans Rb5.out)
            clear hB hdep
            refine goes_value (v := .agg #[.slice bo bm bp, .slice bq bn br]) ?_ hC rfl
            simp only [execOp, Act.eval, b0]
            go_simp
          refine AllOps.cons ?_ ?_
          · intro ab W hC hB hdep
            obtain ⟨xg, (qg : xg = .bool true), eg⟩ := hdep 21 65 (by kernel_rfl)
            subst qg
            refine .inl ⟨((wanted_is (g := 21) (t := 65) (b := true) (c := true) rfl rfl (by rw [hB.size]; exact Nat.le_of_ble_eq_true rfl) eg).trans rfl), ?_⟩
            obtain ⟨x0, (q0 : (isV (.agg #[.slice bo bm bp, .slice bq bn br])) x0 W), e0⟩ := hdep 24 68 (by kernel_rfl)
            obtain rfl : x0 = .agg #[.slice bo bm bp, .slice bq bn br] := q0
            clear hB hdep
            refine goes_call (f := 12) (args := #[.agg #[.slice bo bm bp, .slice bq bn br]]) ?_ ?_
            · simp only [execOp]
              go_simp
            · exact (lown_any _ mb sb W (HY_5.out.below hC) (by have := HNb.out; omega) (by have := HNb.out; omega)).mono fun e w7 ⟨⟨v7, he, hi⟩, hb⟩ => ⟨v7, he, hC.trans (hb.mono hC.size), hb, hi⟩
          refine AllOps.cons ?_ ?_
          · intro ab W hC hB hdep
            obtain ⟨xg, (qg : xg = .bool true), eg⟩ := hdep 21 65 (by kernel_rfl)
            subst qg
            refine .inl ⟨((wanted_is (g := 21) (t := 65) (b := true) (c := true) rfl rfl (by rw [hB.size]; exact Nat.le_of_ble_eq_true rfl) eg).trans rfl), ?_⟩
            obtain ⟨x0, (q0 : (isWr ma sa) x0 W), e0⟩ := hdep 23 67 (by kernel_rfl)
            skip
            obtain ⟨x1, (q1 : (isWr mb sb) x1 W), e1⟩ := hdep 25 69 (by kernel_rfl)
            skip
            clear hB hdep
            refine goes_call (f := 17) (args := #[x0, x1]) ?_ ?_
            · simp only [execOp]
              go_simp
            · exact (wsame_any _ _ ma sa mb sb W q0 q1).mono fun e w7 ⟨he, hb⟩ => ⟨_, he, hC.trans (hb.mono hC.size), hb, rfl⟩
          refine AllOps.cons ?_ ?_
          · intro ab W hC hB hdep
            obtain ⟨xg, (qg : xg = .bool true), eg⟩ := hdep 21 65 (by kernel_rfl)
            subst qg
            refine .inl ⟨((wanted_is (g := 21) (t := 65) (b := true) (c := true) rfl rfl (by rw [hB.size]; exact Nat.le_of_ble_eq_true rfl) eg).trans rfl), ?_⟩
            have b0 : ab.tmps.getD 2 undef = .pointer (some ⟨w.heap.size, 0, none⟩) := hB.off 2 (by kernel_rfl)
            obtain ⟨c0, c1, _, _⟩ := rowp2 ((hC.block _ (Array.getElem?_eq_some_iff.1 Ra5.out).1).trans Ra5.out)
            clear hB hdep
            refine goes_value (v := .agg #[.slice ao am ap, .slice aq an ar]) ?_ hC rfl
            simp only [execOp, Act.eval, b0]
            go_simp
          refine AllOps.cons ?_ ?_
          · intro ab W hC hB hdep
            obtain ⟨xg, (qg : xg = .bool true), eg⟩ := hdep 21 65 (by kernel_rfl)
            subst qg
            refine .inl ⟨((wanted_is (g := 21) (t := 65) (b := true) (c := true) rfl rfl (by rw [hB.size]; exact Nat.le_of_ble_eq_true rfl) eg).trans rfl), ?_⟩
            have b0 : ab.tmps.getD 3 undef = .pointer (some ⟨w.heap.size + 1, 0, none⟩) := hB.off 3 (by kernel_rfl)
            obtain ⟨c0, c1, _, _⟩ := rowp2 ((hC.block _ (Array.getElem?_eq_some_iff.1 Rb5.out).1).trans Rb5.out)
            clear hB hdep
            refine goes_value (v := .agg #[.slice bo bm bp, .slice bq bn br]) ?_ hC rfl
            simp only [execOp, Act.eval, b0]
            go_simp
          refine AllOps.cons ?_ ?_
          · intro ab W hC hB hdep
            obtain ⟨xg, (qg : xg = .bool true), eg⟩ := hdep 21 65 (by kernel_rfl)
            subst qg
            refine .inl ⟨((wanted_is (g := 21) (t := 65) (b := true) (c := true) rfl rfl (by rw [hB.size]; exact Nat.le_of_ble_eq_true rfl) eg).trans rfl), ?_⟩
            obtain ⟨x0, (q0 : (isV (.agg #[.slice ao am ap, .slice aq an ar])) x0 W), e0⟩ := hdep 27 71 (by kernel_rfl)
            obtain rfl : x0 = .agg #[.slice ao am ap, .slice aq an ar] := q0
            obtain ⟨x1, (q1 : (isV (.agg #[.slice bo bm bp, .slice bq bn br])) x1 W), e1⟩ := hdep 28 72 (by kernel_rfl)
            obtain rfl : x1 = .agg #[.slice bo bm bp, .slice bq bn br] := q1
            clear hB hdep
            refine goes_call (f := 16) (args := #[.agg #[.slice ao am ap, .slice aq an ar], .agg #[.slice bo bm bp, .slice bq bn br]]) ?_ ?_
            · simp only [execOp]
              go_simp
            · exact (lsame_wr _ _ ma sa mb sb W (HX_5.out.below hC) (HY_5.out.below hC)).mono fun e w7 ⟨he, hb⟩ => ⟨_, he, hC.trans (hb.mono hC.size), hb, rfl⟩
          refine AllOps.cons ?_ ?_
          · intro ab W hC hB hdep
            obtain ⟨xg, (qg : xg = .bool true), eg⟩ := hdep 21 65 (by kernel_rfl)
            subst qg
            refine .inl ⟨((wanted_is (g := 21) (t := 65) (b := true) (c := true) rfl rfl (by rw [hB.size]; exact Nat.le_of_ble_eq_true rfl) eg).trans rfl), ?_⟩
            obtain ⟨x0, (q0 : (isV (.bool (sameZ ma mb && sameZ sa sb))) x0 W), e0⟩ := hdep 26 70 (by kernel_rfl)
            obtain rfl : x0 = .bool (sameZ ma mb && sameZ sa sb) := q0
            obtain ⟨x1, (q1 : (isV (.bool (sameZ ma mb && sameZ sa sb))) x1 W), e1⟩ := hdep 29 73 (by kernel_rfl)
            obtain rfl : x1 = .bool (sameZ ma mb && sameZ sa sb) := q1
            clear hB hdep
            refine goes_value (v := .bool true) ?_ hC rfl
            simp only [execOp, Act.eval, e0, e1]
            go_simp
          refine AllOps.cons ?_ ?_
          · intro ab W hC hB hdep
            refine .inl ⟨rfl, ?_⟩
            obtain ⟨x0, (q0 : (isV (.bool true)) x0 W), e0⟩ := hdep 21 65 (by kernel_rfl)
            obtain rfl : x0 = .bool true := q0
            obtain ⟨x1, (q1 : (isV (.bool true)) x1 W), e1⟩ := hdep 30 74 (by kernel_rfl)
            obtain rfl : x1 = .bool true := q1
            clear hB hdep
            refine goes_value (v := .bool true) ?_ hC rfl
            simp only [execOp, Act.eval, e0, e1]
            go_simp
          refine AllOps.cons ?_ ?_
          · intro ab W hC hB hdep
            refine .inl ⟨rfl, ?_⟩
            obtain ⟨x0, (q0 : (isV (.bool true)) x0 W), e0⟩ := hdep 31 75 (by kernel_rfl)
            obtain rfl : x0 = .bool true := q0
            clear hB hdep
            refine goes_value (v := .bool true) ?_ hC rfl
            simp only [execOp, Act.eval, e0]
            go_simp
          exact trivial
        · intro aa wC hC hB hall
          obtain ⟨v0, (k0 : v0 = .agg #[.slice ao am ap, .slice aq an ar]), e0⟩ := hall 0 _ rfl
          obtain ⟨v1, (k1 : (isWr ma sa) v1 wC), e1⟩ := hall 1 _ rfl
          obtain ⟨v2, (k2 : v2 = .bool (sndB ma sa)), e2⟩ := hall 2 _ rfl
          obtain ⟨v3, (k3 : v3 = .pointer (some ⟨w.heap.size, 0, none⟩)), e3⟩ := hall 3 _ rfl
          obtain ⟨v4, (k4 : v4 = .slice ao am ap), e4⟩ := hall 4 _ rfl
          obtain ⟨v5, (k5 : v5 = .pointer (some ⟨w.heap.size, 1, none⟩)), e5⟩ := hall 5 _ rfl
          obtain ⟨v6, (k6 : v6 = .slice aq an ar), e6⟩ := hall 6 _ rfl
          obtain ⟨v7, (k7 : v7 = .bool (sndB ma sa)), e7⟩ := hall 7 _ rfl
          obtain ⟨v8, (k8 : v8 = .bool true), e8⟩ := hall 8 _ rfl
          obtain ⟨v9, (k9 : v9 = .bool true), e9⟩ := hall 9 _ rfl
          obtain ⟨v10, (k10 : v10 = .int .i64 ek), e10⟩ := hall 10 _ rfl
          obtain ⟨v11, (k11 : v11 = .int .i64 ek), e11⟩ := hall 11 _ rfl
          obtain ⟨v12, (k12 : v12 = .bool true), e12⟩ := hall 12 _ rfl
          obtain ⟨v13, (k13 : v13 = .bool true), e13⟩ := hall 13 _ rfl
          obtain ⟨v14, (k14 : v14 = .bool true), e14⟩ := hall 14 _ rfl
          obtain ⟨v15, (k15 : v15 = .agg #[.slice d_o1 d_n1 d_c1, .slice d_o2 d_n2 d_c2]), e15⟩ := hall 15 _ rfl
          obtain ⟨v16, (k16 : v16 = .slice jo jm jp), e16⟩ := hall 16 _ rfl
          obtain ⟨v17, (k17 : v17 = .slice jq jn jr), e17⟩ := hall 17 _ rfl
          obtain ⟨v18, (k18 : v18 = .agg #[.slice jo jm jp, .slice jq jn jr]), e18⟩ := hall 18 _ rfl
          obtain ⟨v19, (k19 : v19 = .bool true), e19⟩ := hall 19 _ rfl
          obtain ⟨v20, (k20 : v20 = .bool true), e20⟩ := hall 20 _ rfl
          obtain ⟨v21, (k21 : v21 = .bool true), e21⟩ := hall 21 _ rfl
          obtain ⟨v22, (k22 : v22 = .agg #[.slice ao am ap, .slice aq an ar]), e22⟩ := hall 22 _ rfl
          obtain ⟨v23, (k23 : (isWr ma sa) v23 wC), e23⟩ := hall 23 _ rfl
          obtain ⟨v24, (k24 : v24 = .agg #[.slice bo bm bp, .slice bq bn br]), e24⟩ := hall 24 _ rfl
          obtain ⟨v25, (k25 : (isWr mb sb) v25 wC), e25⟩ := hall 25 _ rfl
          obtain ⟨v26, (k26 : v26 = .bool (sameZ ma mb && sameZ sa sb)), e26⟩ := hall 26 _ rfl
          obtain ⟨v27, (k27 : v27 = .agg #[.slice ao am ap, .slice aq an ar]), e27⟩ := hall 27 _ rfl
          obtain ⟨v28, (k28 : v28 = .agg #[.slice bo bm bp, .slice bq bn br]), e28⟩ := hall 28 _ rfl
          obtain ⟨v29, (k29 : v29 = .bool (sameZ ma mb && sameZ sa sb)), e29⟩ := hall 29 _ rfl
          obtain ⟨v30, (k30 : v30 = .bool true), e30⟩ := hall 30 _ rfl
          obtain ⟨v31, (k31 : v31 = .bool true), e31⟩ := hall 31 _ rfl
          obtain ⟨v32, (k32 : v32 = .bool true), e32⟩ := hall 32 _ rfl
          subst k0 k2 k3 k4 k5 k6 k7 k8 k9 k10 k11 k12 k13 k14 k15 k16 k17 k18 k19 k20 k21 k22 k24 k26 k27 k28 k29 k30 k31 k32
          have hv : ∀ p ∈ [((44 : Nat), (.agg #[.slice ao am ap, .slice aq an ar] : Value)), ((45 : Nat), (v1 : Value)), ((46 : Nat), (.bool (sndB ma sa) : Value)), ((47 : Nat), (.pointer (some ⟨w.heap.size, 0, none⟩) : Value)), ((48 : Nat), (.slice ao am ap : Value)), ((49 : Nat), (.pointer (some ⟨w.heap.size, 1, none⟩) : Value)), ((50 : Nat), (.slice aq an ar : Value)), ((51 : Nat), (.bool (sndB ma sa) : Value)), ((52 : Nat), (.bool true : Value)), ((53 : Nat), (.bool true : Value)), ((54 : Nat), (.int .i64 ek : Value)), ((55 : Nat), (.int .i64 ek : Value)), ((56 : Nat), (.bool true : Value)), ((57 : Nat), (.bool true : Value)), ((58 : Nat), (.bool true : Value)), ((59 : Nat), (.agg #[.slice d_o1 d_n1 d_c1, .slice d_o2 d_n2 d_c2] : Value)), ((60 : Nat), (.slice jo jm jp : Value)), ((61 : Nat), (.slice jq jn jr : Value)), ((62 : Nat), (.agg #[.slice jo jm jp, .slice jq jn jr] : Value)), ((63 : Nat), (.bool true : Value)), ((64 : Nat), (.bool true : Value)), ((65 : Nat), (.bool true : Value)), ((66 : Nat), (.agg #[.slice ao am ap, .slice aq an ar] : Value)), ((67 : Nat), (v23 : Value)), ((68 : Nat), (.agg #[.slice bo bm bp, .slice bq bn br] : Value)), ((69 : Nat), (v25 : Value)), ((70 : Nat), (.bool (sameZ ma mb && sameZ sa sb) : Value)), ((71 : Nat), (.agg #[.slice ao am ap, .slice aq an ar] : Value)), ((72 : Nat), (.agg #[.slice bo bm bp, .slice bq bn br] : Value)), ((73 : Nat), (.bool (sameZ ma mb && sameZ sa sb) : Value)), ((74 : Nat), (.bool true : Value)), ((75 : Nat), (.bool true : Value)), ((4 : Nat), (.bool true : Value))], aa.tmps.getD p.1 undef = p.2 := by
            intro p hp
            simp only [List.mem_cons, List.not_mem_nil, or_false] at hp
            rcases hp with rfl | rfl | rfl | rfl | rfl | rfl | rfl | rfl | rfl | rfl | rfl | rfl | rfl | rfl | rfl | rfl | rfl | rfl | rfl | rfl | rfl | rfl | rfl | rfl | rfl | rfl | rfl | rfl | rfl | rfl | rfl | rfl | rfl
            · exact e0 _ rfl
            · exact e1 _ rfl
            · exact e2 _ rfl
            · exact e3 _ rfl
            · exact e4 _ rfl
            · exact e5 _ rfl
            · exact e6 _ rfl
            · exact e7 _ rfl
            · exact e8 _ rfl
            · exact e9 _ rfl
            · exact e10 _ rfl
            · exact e11 _ rfl
            · exact e12 _ rfl
            · exact e13 _ rfl
            · exact e14 _ rfl
            · exact e15 _ rfl
            · exact e16 _ rfl
            · exact e17 _ rfl
            · exact e18 _ rfl
            · exact e19 _ rfl
            · exact e20 _ rfl
            · exact e21 _ rfl
            · exact e22 _ rfl
            · exact e23 _ rfl
            · exact e24 _ rfl
            · exact e25 _ rfl
            · exact e26 _ rfl
            · exact e27 _ rfl
            · exact e28 _ rfl
            · exact e29 _ rfl
            · exact e30 _ rfl
            · exact e31 _ rfl
            · exact e32 _ rfl
          have hact := act_fold _ hB hv (by kernel_rfl)
          subst hact
          clear hv hall hB e0 e1 e2 e3 e4 e5 e6 e7 e8 e9 e10 e11 e12 e13 e14 e15 e16 e17 e18 e19 e20 e21 e22 e23 e24 e25 e26 e27 e28 e29 e30 e31 e32
          refine (‹∀ (a : Act) (w : World), Code.wp Try.prog _ _ a w → _›) _ wC ?_
          simp only [List.foldl, List.setIfInBounds_toArray, List.set_cons_succ, List.set_cons_zero]
          go_wp2_with fail
          go_ret
          exact ⟨rfl, HB5.out.trans (hC.mono HB5.out.size)⟩
end Go.Proofs.Ytoefkhpgabmieaa
