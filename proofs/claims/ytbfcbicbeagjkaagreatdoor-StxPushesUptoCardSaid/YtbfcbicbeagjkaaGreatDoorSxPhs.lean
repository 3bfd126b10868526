/- StxPushes: Push, Open and Flat answer what the document's do. Of any piece and wrap. -/
import Derived.Test.YtbfcbicbeagjkaaGreatDoorSxRef
import Derived.Test.YtbfcbicbeagjkaaGreatDoorSxROpn
import Derived.Test.YtbfcbicbeagjkaaGreatDoorSxOf
namespace Go.Proofs.YtbfcbicbeagjkaaGreatDoor
open Go.RowKit

theorem psh_same {m s : List Int} {D : Sx} (h : lightS 100 D = true) : sameS 100 (pshS m s D) (pshS m s D) = true := sameS_refl (light_dp (psh_light h))
theorem opn_same {D : Sx} (h : lightS 100 D = true) : sameS 100 (opnS D) (opnS D) = true := sameS_refl (light_dp (opn_light h))
theorem flt_same {D : Sx} (h : lightS 100 D = true) : sameS 100 (fltS [] [] D) (fltS [] [] D) = true := sameS_refl (light_dp (flt_light h _ _))
theorem ne_int {z k : Int} (h : ¬ z = k) : (z != k) = true ∧ (z == k) = false := by
  constructor
  · rw [bne_iff_ne]; exact h
  · rw [beq_eq_false_iff_ne]; exact h

set_option maxRecDepth 100000 in
set_option maxHeartbeats 16000000 in
theorem stxpushes_any (D : Sx) (us : List Value) (x : Value) (m s : List Int) (w : World) (hd : SLay w D us) (hsm : SmS 1100000 D) (hx : Wr w x m s) (ht : Tabs w) :
    Calls Tryz.prog 4 #[.agg us.toArray, x] w fun e w' => e = .returned (.bool true) ∧ Below w.heap.size w w' := by
  have HD := Lib.hid hd
  have HSM := Lib.hid hsm
  have HT := Lib.hid ht
  have HX := Lib.hid hx
  obtain ⟨kx, tx, nx, xo, xn, xc, yo, yn, yc, ax, po, pn, pc, qo, qn, qc, rfl⟩ := sx_shapes hd
  obtain ⟨wm, ws, rfl, hwm, hws⟩ := hx.cells
  have HWM := Lib.hid (And.intro hwm hws)
  obtain ⟨_, amo, amc, rfl, _, _⟩ := hwm.cases
  obtain ⟨_, aso, asc, rfl, _, _⟩ := hws.cases
  clear hd hsm ht hx hwm hws
  have hb := below2 w (.cells #[.int .i64 kx, .string tx, .bool nx, .slice xo xn xc, .slice yo yn yc, .int .i64 ax, .slice po pn pc, .slice qo qn qc] 35) (.cells #[.slice amo m.length amc, .slice aso s.length asc] 30)
  have hn := @newsd2 w (.cells #[.int .i64 kx, .string tx, .bool nx, .slice xo xn xc, .slice yo yn yc, .int .i64 ax, .slice po pn pc, .slice qo qn qc] 35) (.cells #[.slice amo m.length amc, .slice aso s.length asc] 30)
  show Calls Tryz.prog 4 #[.agg #[.int .i64 kx, .string tx, .bool nx, .slice xo xn xc, .slice yo yn yc, .int .i64 ax, .slice po pn pc, .slice qo qn qc], .agg #[.slice amo m.length amc, .slice aso s.length asc]] w _
  go_enter Tryz.func4, Tryz.ntmps4
  go_upto_region 1 with fail
  generalize (w.alloc (.cells #[.int .i64 kx, .string tx, .bool nx, .slice xo xn xc, .slice yo yn yc, .int .i64 ax, .slice po pn pc, .slice qo qn qc] 35)).alloc (.cells #[.slice amo m.length amc, .slice aso s.length asc] 30) = w1 at *
  have HB0 := Lib.hid hb
  have RX0 := Lib.hid hn.1
  have RA0 := Lib.hid hn.2
  clear hb hn
  go_wp2_with fail
  refine (answers10_any w1 (HT.out.below HB0.out (Nat.le_refl _))).mono ?_
  rintro e w2 ⟨rfl, hb⟩
  have HB1 := Lib.hid (HB0.out.trans (hb.mono HB0.out.size))
  have RX1 := Lib.hid ((hb.block _ (Array.getElem?_eq_some_iff.1 RX0.out).1).trans RX0.out)
  have RA1 := Lib.hid ((hb.block _ (Array.getElem?_eq_some_iff.1 RA0.out).1).trans RA0.out)
  clear RX0 RA0
  clear hb
  obtain ⟨c1_0, c1_1, c1_2, c1_3, c1_4, c1_5, c1_6, c1_7⟩ := rowS8 RX1.out
  go_wp2_with fail
  refine (light_sx 100 D _ w2 1 (by omega) (by omega) (HD.out.keep HB1.out)).mono ?_
  rintro e w3 ⟨rfl, hb⟩
  clear c1_0 c1_1 c1_2 c1_3 c1_4 c1_5 c1_6 c1_7
  have HB2 := Lib.hid (HB1.out.trans (hb.mono HB1.out.size))
  have RX2 := Lib.hid ((hb.block _ (Array.getElem?_eq_some_iff.1 RX1.out).1).trans RX1.out)
  have RA2 := Lib.hid ((hb.block _ (Array.getElem?_eq_some_iff.1 RA1.out).1).trans RA1.out)
  clear RX1 RA1
  clear hb
  cases hl : lightS 100 D with
  | false =>
    clear hl
    go_wp2_with fail
    refine (answers10_any w3 (HT.out.below HB2.out (Nat.le_refl _))).mono ?_
    rintro e wz ⟨rfl, hbz⟩
    have HBZ := Lib.hid (HB2.out.trans (hbz.mono HB2.out.size))
    clear hbz
    go_wp2_with fail
    go_ret
    exact ⟨rfl, HBZ.out⟩
  | true =>
    have HLX := Lib.hid hl
    clear hl
    by_cases hlen : m.length ≤ 600 ∧ s.length ≤ 600
    case neg =>
      have h4 : 600 < m.length ∨ (m.length ≤ 600 ∧ 600 < s.length) := by omega
      clear hlen
      rcases h4 with h4 | ⟨h4, h5⟩
      all_goals
        obtain ⟨c2_0, c2_1, _, _⟩ := rowp2d RA2.out
        go_wp2_with fail
        clear c2_0 c2_1
        refine (answers10_any w3 (HT.out.below HB2.out (Nat.le_refl _))).mono ?_
        rintro e wz ⟨rfl, hbz⟩
        have HBZ := Lib.hid (HB2.out.trans (hbz.mono HB2.out.size))
        clear hbz
        go_wp2_with fail
        go_ret
        exact ⟨rfl, HBZ.out⟩
    obtain ⟨h4, h5⟩ := hlen
    obtain ⟨c2_0, c2_1, _, _⟩ := rowp2d RA2.out
    obtain ⟨er1, HERP⟩ : ∃ z, Hid (pshE m s D = z) := ⟨_, Lib.hid rfl⟩
    go_upto_region 3 with fail
    clear c2_0 c2_1
    have HLX := Lib.hid (And.intro (Array.getElem?_eq_some_iff.1 RX2.out).1 (Array.getElem?_eq_some_iff.1 RA2.out).1)
    refine wp_region_late 8 7 5 5 40 (psi [isV (.agg #[.int .i64 kx, .string tx, .bool nx, .slice xo xn xc, .slice yo yn yc, .int .i64 ax, .slice po pn pc, .slice qo qn qc]), isOx D, isV (.agg #[.slice amo m.length amc, .slice aso s.length asc]), isRes er1 (pshR m s D), isRes er1 (pshR m s D), isPs (pshR m s D), isV (.int .i64 er1), isBoxS w3.heap.size, nothing, isV (.int .i64 er1)]) (fun W => Below w3.heap.size w3 W) (FillsS) (by kernel_rfl) (Below.refl _ _).drew (psi_mono ?_) (by kernel_rfl) (by kernel_rfl) (by kernel_rfl) ?_ ?_
    · intro pq hp
      simp only [List.mem_cons, List.not_mem_nil, or_false] at hp
      (repeat' rcases hp with rfl | hp) <;> first | exact isV_stays _ | exact nothing_stays | (subst hp; first | exact isV_stays _ | exact nothing_stays) | exact isBoxS_stays _ | exact isOx_stays _ | exact isPs_stays _ | exact isRes_stays _ _ | (subst hp; exact isBoxS_stays _) | (subst hp; exact isOx_stays _) | (subst hp; exact isPs_stays _) | (subst hp; exact isRes_stays _ _)
    · refine AllOps.cons ?_ ?_
      · refine OpL.early (by kernel_rfl) (by kernel_rfl) fun ab W hC hB hdep => ?_
        refine .inl ⟨rfl, ?_⟩
        have b0 : ab.tmps.getD 2 undef = .pointer (some ⟨w.heap.size, 0, none⟩) := hB.off 2 (by kernel_rfl)
        obtain ⟨c0, c1, c2, c3, c4, c5, c6, c7⟩ := rowS8 ((hC.block _ HLX.out.1).trans RX2.out)
        clear hB hdep
        refine goes_value (v := .agg #[.int .i64 kx, .string tx, .bool nx, .slice xo xn xc, .slice yo yn yc, .int .i64 ax, .slice po pn pc, .slice qo qn qc]) ?_ hC rfl
        simp only [execOp, Act.eval, b0]
        go_simp
      refine AllOps.cons ?_ ?_
      · refine OpL.early (by kernel_rfl) (by kernel_rfl) fun ab W hC hB hdep => ?_
        refine .inl ⟨rfl, ?_⟩
        obtain ⟨x0, (q0 : (isV (.agg #[.int .i64 kx, .string tx, .bool nx, .slice xo xn xc, .slice yo yn yc, .int .i64 ax, .slice po pn pc, .slice qo qn qc])) x0 W), e0⟩ := hdep 0 36 (by kernel_rfl)
        obtain rfl : x0 = .agg #[.int .i64 kx, .string tx, .bool nx, .slice xo xn xc, .slice yo yn yc, .int .i64 ax, .slice po pn pc, .slice qo qn qc] := q0
        clear hB hdep
        refine goes_call (f := 24) (args := #[.agg #[.int .i64 kx, .string tx, .bool nx, .slice xo xn xc, .slice yo yn yc, .int .i64 ax, .slice po pn pc, .slice qo qn qc]]) ?_ ?_
        · simp only [execOp]
          go_simp
        · exact (own_sxK D HSM.out.owk _ W (HD.out.keep (HB2.out.trans (hC.mono HB2.out.size)))).mono fun e w7 ⟨vs, he, hl, hb⟩ => ⟨_, he, hC.trans (hb.mono hC.size), hb, ⟨vs, rfl, hl.lay⟩⟩
      refine AllOps.cons ?_ ?_
      · refine OpL.early (by kernel_rfl) (by kernel_rfl) fun ab W hC hB hdep => ?_
        refine .inl ⟨rfl, ?_⟩
        have b0 : ab.tmps.getD 3 undef = .pointer (some ⟨w.heap.size + 1, 0, none⟩) := hB.off 3 (by kernel_rfl)
        obtain ⟨c0, c1, _, _⟩ := rowp2d ((hC.block _ HLX.out.2).trans RA2.out)
        clear hB hdep
        refine goes_value (v := .agg #[.slice amo m.length amc, .slice aso s.length asc]) ?_ hC rfl
        simp only [execOp, Act.eval, b0]
        go_simp
      refine AllOps.cons ?_ ?_
      · refine OpL.early (by kernel_rfl) (by kernel_rfl) fun ab W hC hB hdep => ?_
        refine .inl ⟨rfl, ?_⟩
        obtain ⟨x0, (q0 : (isOx D) x0 W), e0⟩ := hdep 1 37 (by kernel_rfl)
        skip
        obtain ⟨x1, (q1 : (isV (.agg #[.slice amo m.length amc, .slice aso s.length asc])) x1 W), e1⟩ := hdep 2 38 (by kernel_rfl)
        obtain rfl : x1 = .agg #[.slice amo m.length amc, .slice aso s.length asc] := q1
        clear hB hdep
        refine goes_call (f := 23) (args := #[x0, .agg #[.slice amo m.length amc, .slice aso s.length asc]]) ?_ ?_
        · simp only [execOp]
          go_simp
        · obtain ⟨ua, rfl, hla⟩ := q0
          exact (push_any D ua _ m s W hla HSM.out (HX.out.below (HB2.out.trans (hC.mono HB2.out.size))) (HT.out.below (HB2.out.trans (hC.mono HB2.out.size)) (Nat.le_refl _))).mono fun e w7 ⟨us7, he, hl, hb⟩ => ⟨_, by rw [HERP.out] at he; exact he, hC.trans (hb.mono hC.size), hb, ⟨us7, _, rfl, hl⟩⟩
      refine AllOps.cons ?_ ?_
      · refine OpL.early (by kernel_rfl) (by kernel_rfl) fun ab W hC hB hdep => ?_
        refine .inl ⟨rfl, ?_⟩
        obtain ⟨x0, (q0 : (isRes er1 (pshR m s D)) x0 W), e0⟩ := hdep 3 39 (by kernel_rfl)
        obtain ⟨us0, S0, rfl, hs0⟩ := q0
        clear hB hdep
        refine goes_value (v := .tuple #[.agg us0.toArray, .int .i64 er1]) ?_ hC ⟨us0, S0, rfl, hs0⟩
        simp only [execOp, Act.eval, e0]
        go_simp
      refine AllOps.cons ?_ ?_
      · refine OpL.early (by kernel_rfl) (by kernel_rfl) fun ab W hC hB hdep => ?_
        refine .inl ⟨rfl, ?_⟩
        obtain ⟨x0, (q0 : (isRes er1 (pshR m s D)) x0 W), e0⟩ := hdep 4 35 (by kernel_rfl)
        obtain ⟨us0, S0, rfl, hs0⟩ := q0
        clear hB hdep
        refine goes_value (v := .agg us0.toArray) ?_ hC ⟨us0, S0, rfl, hs0⟩
        simp only [execOp, Act.eval, e0]
        go_simp
      refine AllOps.cons ?_ ?_
      · refine OpL.pure (by kernel_rfl) (by kernel_rfl) fun ab W W1 hC hB hdep => .inl ⟨rfl, ?_⟩
        obtain ⟨x0, (q0 : (isRes er1 (pshR m s D)) x0 W), e0⟩ := hdep 4 35 (by kernel_rfl)
        obtain ⟨us0, S0, rfl, hs0⟩ := q0
        clear hB hdep
        refine ⟨.int .i64 er1, ?_, rfl⟩
        simp only [execOp, Act.eval, e0]
        go_simp
      refine AllOps.cons ?_ ?_
      · refine OpL.early (by kernel_rfl) (by kernel_rfl) fun ab W hC hB hdep => ?_
        refine .inl ⟨rfl, ?_⟩
        clear hB hdep
        refine goes_world (v := .pointer (some ⟨W.heap.size, 0, none⟩)) (w1 := W.alloc (.cells #[.int .i64 0, .string ⟨#[]⟩, .bool false, .slice none 0 0, .slice none 0 0, .int .i64 0, .slice none 0 0, .slice none 0 0] 35)) ?_ (hC.trans ((below1 W _).mono hC.size)) (below1 W _) ⟨_, rfl, hC.size, heap_alloc_new W _⟩
        simp only [execOp]
        go_simp
      refine AllOps.cons ?_ ?_
      · refine OpL.write (by kernel_rfl) fun vals ab W hC hB hdep => ⟨rfl, ?_⟩
        obtain ⟨(q0 : (isBoxS w3.heap.size) (vals 7) W), e0⟩ := hdep 7 5 (by kernel_rfl)
        generalize vals 7 = x0 at *
        obtain ⟨g0, rfl, hge0, hg0⟩ := q0
        obtain ⟨(q1 : (isPs (pshR m s D)) (vals 5) W), e1⟩ := hdep 5 40 (by kernel_rfl)
        generalize vals 5 = x1 at *
        obtain ⟨us1, S1, rfl, hs1⟩ := q1
        obtain ⟨ka, ta, na, xoa, xna, xca, yoa, yna, yca, aa, poa, pna, pca, qoa, qna, qca, rfl⟩ := sx_shapes hs1.lay
        clear hB hdep
        obtain ⟨c0, c1, c2, c3, c4, c5, c6, c7⟩ := rowS8 hg0
        have z0 := frozen_heap hg0 0
        have z1 := frozen_heap hg0 1
        have z2 := frozen_heap hg0 2
        have z3 := frozen_heap hg0 3
        have z4 := frozen_heap hg0 4
        have z5 := frozen_heap hg0 5
        have z6 := frozen_heap hg0 6
        have z7 := frozen_heap hg0 7
        refine writes_skip (w1 := put8w W g0 (.int .i64 ka) (.string ta) (.bool na) (.slice xoa xna xca) (.slice yoa yna yca) (.int .i64 aa) (.slice poa pna pca) (.slice qoa qna qca)) ?_ ⟨_, _, _, _, _, _, _, _, _, rfl, rfl, rfl⟩
        unfold put8w
        simp only [execOp, Act.eval, e0, e1]
        go_simp
      refine AllOps.cons ?_ ?_
      · refine OpL.pure (by kernel_rfl) (by kernel_rfl) fun ab W W1 hC hB hdep => .inl ⟨rfl, ?_⟩
        obtain ⟨x0, (q0 : (isV (.int .i64 er1)) x0 W), e0⟩ := hdep 6 41 (by kernel_rfl)
        obtain rfl : x0 = .int .i64 er1 := q0
        clear hB hdep
        refine ⟨.int .i64 er1, ?_, rfl⟩
        simp only [execOp, Act.eval, e0]
        go_simp
      exact trivial
    · intro vals aa W0 wPr hC hFin hB hall
      obtain ⟨(k0 : (isV (.agg #[.int .i64 kx, .string tx, .bool nx, .slice xo xn xc, .slice yo yn yc, .int .i64 ax, .slice po pn pc, .slice qo qn qc])) (vals 0) W0), e0⟩ := hall 0 _ rfl (by decide)
      obtain ⟨(k1 : (isOx D) (vals 1) W0), e1⟩ := hall 1 _ rfl (by decide)
      obtain ⟨(k2 : (isV (.agg #[.slice amo m.length amc, .slice aso s.length asc])) (vals 2) W0), e2⟩ := hall 2 _ rfl (by decide)
      obtain ⟨(k3 : (isRes er1 (pshR m s D)) (vals 3) W0), e3⟩ := hall 3 _ rfl (by decide)
      obtain ⟨(k4 : (isRes er1 (pshR m s D)) (vals 4) W0), e4⟩ := hall 4 _ rfl (by decide)
      obtain ⟨(k5 : (isPs (pshR m s D)) (vals 5) W0), e5⟩ := hall 5 _ rfl (by decide)
      obtain ⟨(k6 : (isV (.int .i64 er1)) (vals 6) W0), e6⟩ := hall 6 _ rfl (by decide)
      obtain ⟨(k7 : (isBoxS w3.heap.size) (vals 7) W0), e7⟩ := hall 7 _ rfl (by decide)
      obtain ⟨(k9 : (isV (.int .i64 er1)) (vals 9) W0), e9⟩ := hall 9 _ rfl (by decide)
      have hv : ∀ pq ∈ [((36 : Nat), (.agg #[.int .i64 kx, .string tx, .bool nx, .slice xo xn xc, .slice yo yn yc, .int .i64 ax, .slice po pn pc, .slice qo qn qc] : Value)), ((37 : Nat), (vals 1 : Value)), ((38 : Nat), (.agg #[.slice amo m.length amc, .slice aso s.length asc] : Value)), ((39 : Nat), (vals 3 : Value)), ((35 : Nat), (vals 4 : Value)), ((40 : Nat), (vals 5 : Value)), ((41 : Nat), (.int .i64 er1 : Value)), ((5 : Nat), (vals 7 : Value)), ((6 : Nat), (.int .i64 er1 : Value))], aa.tmps.getD pq.1 undef = pq.2 := by
        intro pq hp
        simp only [List.mem_cons, List.not_mem_nil, or_false] at hp
        rcases hp with rfl | rfl | rfl | rfl | rfl | rfl | rfl | rfl | rfl
        · exact (e0 _ rfl).trans k0
        · exact e1 _ rfl
        · exact (e2 _ rfl).trans k2
        · exact e3 _ rfl
        · exact e4 _ rfl
        · exact e5 _ rfl
        · exact (e6 _ rfl).trans k6
        · exact e7 _ rfl
        · exact (e9 _ rfl).trans k9
      have hact := act_fold _ hB hv (by kernel_rfl)
      subst hact
      clear hv hall hB e0 e1 e2 e3 e4 e5 e6 e7 e9
      refine (‹∀ (a : Act) (w : World), Code.wp Tryz.prog _ _ a w → _›) _ _ ?_
      simp only [List.foldl, List.setIfInBounds_toArray, List.set_cons_succ, List.set_cons_zero]
      obtain ⟨bkP, pkx, ptx, pnx, pxo, pxn, pxc, pyo, pyn, pyc, pax, ppo, ppn, ppc, pqo, pqn, pqc, hpq, hpv, hq, hqx, hly, hb⟩ := fillsS_end hC hFin k7 k5 (nz_psh _ _ _)
      rw [hpq, hpv]
      clear hpq hpv hC hFin k3 k4 HLX
      have HGP := Lib.hid hq
      generalize vals 1 = vaP at *
      generalize vals 3 = vbP at *
      generalize vals 4 = vcP at *
      have HB3 := Lib.hid (HB2.out.trans (hb.mono HB2.out.size))
      have RX3 := Lib.hid ((hb.block _ (Array.getElem?_eq_some_iff.1 RX2.out).1).trans RX2.out)
      have RA3 := Lib.hid ((hb.block _ (Array.getElem?_eq_some_iff.1 RA2.out).1).trans RA2.out)
      clear RX2 RA2
      have RP3 := Lib.hid hqx
      have FP3 := Lib.hid hly
      clear hb hqx hly hq
      clear h4 h5
      obtain ⟨c3_0, c3_1, c3_2, c3_3, c3_4, c3_5, c3_6, c3_7⟩ := rowS8 RX3.out
      obtain ⟨c4_0, c4_1, _, _⟩ := rowp2d RA3.out
      go_wp2_with fail
      refine (rpush_any D _ _ _ m s wPr (HD.out.keep HB3.out) HSM.out (HWM.out.1.below HB3.out) (HWM.out.2.below HB3.out)).mono ?_
      rintro e w5 ⟨q_kx, q_tx, q_nx, q_xo, q_xn, q_xc, q_yo, q_yn, q_yc, q_ax, q_po, q_pn, q_pc, q_qo, q_qn, q_qc, rfl, hl7, hb⟩
      clear c3_0 c3_1 c3_2 c3_3 c3_4 c3_5 c3_6 c3_7 c4_0 c4_1
      rw [HERP.out]
      have HB4 := Lib.hid (HB3.out.trans (hb.mono HB3.out.size))
      have RX4 := Lib.hid ((hb.block _ (Array.getElem?_eq_some_iff.1 RX3.out).1).trans RX3.out)
      have RA4 := Lib.hid ((hb.block _ (Array.getElem?_eq_some_iff.1 RA3.out).1).trans RA3.out)
      have RP4 := Lib.hid ((hb.block _ (Array.getElem?_eq_some_iff.1 RP3.out).1).trans RP3.out)
      have FP4 := Lib.hid (FP3.out.keep hb)
      clear RX3 RA3 RP3 FP3
      clear hb
      have FQ5 := Lib.hid hl7
      clear hl7
      have hbx := below1 w5 (.cells #[.int .i64 q_kx, .string q_tx, .bool q_nx, .slice q_xo q_xn q_xc, .slice q_yo q_yn q_yc, .int .i64 q_ax, .slice q_po q_pn q_pc, .slice q_qo q_qn q_qc] 35)
      have hnx := heap_alloc_new w5 (.cells #[.int .i64 q_kx, .string q_tx, .bool q_nx, .slice q_xo q_xn q_xc, .slice q_yo q_yn q_yc, .int .i64 q_ax, .slice q_po q_pn q_pc, .slice q_qo q_qn q_qc] 35)
      go_upto_region 5 with fail
      obtain ⟨bkQ, hbk⟩ : ∃ b, w5.heap.size = b := ⟨_, rfl⟩
      generalize w5.alloc (.cells #[.int .i64 q_kx, .string q_tx, .bool q_nx, .slice q_xo q_xn q_xc, .slice q_yo q_yn q_yc, .int .i64 q_ax, .slice q_po q_pn q_pc, .slice q_qo q_qn q_qc] 35) = w6 at *
      have HB6 := Lib.hid (HB4.out.trans (hbx.mono HB4.out.size))
      have RX6 := Lib.hid ((hbx.block _ (Array.getElem?_eq_some_iff.1 RX4.out).1).trans RX4.out)
      have RA6 := Lib.hid ((hbx.block _ (Array.getElem?_eq_some_iff.1 RA4.out).1).trans RA4.out)
      have RP6 := Lib.hid ((hbx.block _ (Array.getElem?_eq_some_iff.1 RP4.out).1).trans RP4.out)
      have FP6 := Lib.hid (FP4.out.keep hbx)
      have FQ6 := Lib.hid (FQ5.out.keep hbx)
      clear RX4 RA4 RP4 FP4 FQ5
      rw [hbk] at hnx ⊢
      have RQ6 := Lib.hid hnx
      clear hbx hnx hbk
      obtain ⟨e0, HE0⟩ : ∃ y, Hid (sndE D = y) := ⟨_, Lib.hid rfl⟩
      by_cases hz1 : er1 = 0
      case neg =>
        obtain ⟨hq1, hq2⟩ := ne_int hz1
        obtain ⟨c5_0, c5_1, c5_2, c5_3, c5_4, c5_5, c5_6, c5_7⟩ := rowS8 RX6.out
        go_wp2_with fail
        refine (own_sxK D HSM.out.owk _ w6 (HD.out.keep HB6.out)).mono ?_
        rintro e w8 ⟨vs, rfl, hl, hb⟩
        clear c5_0 c5_1 c5_2 c5_3 c5_4 c5_5 c5_6 c5_7
        have hlv := hl.lay
        clear hl
        have HB7 := Lib.hid (HB6.out.trans (hb.mono HB6.out.size))
        have RX7 := Lib.hid ((hb.block _ (Array.getElem?_eq_some_iff.1 RX6.out).1).trans RX6.out)
        have RA7 := Lib.hid ((hb.block _ (Array.getElem?_eq_some_iff.1 RA6.out).1).trans RA6.out)
        have RP7 := Lib.hid ((hb.block _ (Array.getElem?_eq_some_iff.1 RP6.out).1).trans RP6.out)
        have RQ7 := Lib.hid ((hb.block _ (Array.getElem?_eq_some_iff.1 RQ6.out).1).trans RQ6.out)
        have FP7 := Lib.hid (FP6.out.keep hb)
        have FQ7 := Lib.hid (FQ6.out.keep hb)
        clear RX6 RA6 RP6 RQ6 FP6 FQ6
        clear hb
        have FV8 := Lib.hid hlv
        clear hlv
        go_wp2_with fail
        refine (open1_any D _ w8 FV8.out HSM.out (HT.out.below HB7.out (Nat.le_refl _))).mono ?_
        rintro e w9 ⟨us7, rfl, hso7, hb⟩
        rw [HE0.out]
        obtain ⟨o_kx, o_tx, o_nx, o_xo, o_xn, o_xc, o_yo, o_yn, o_yc, o_ax, o_po, o_pn, o_pc, o_qo, o_qn, o_qc, rfl⟩ := sx_shapes hso7.lay
        have hly7 := hso7.lay
        have HB9 := Lib.hid (HB7.out.trans (hb.mono HB7.out.size))
        have RX9 := Lib.hid ((hb.block _ (Array.getElem?_eq_some_iff.1 RX7.out).1).trans RX7.out)
        have RA9 := Lib.hid ((hb.block _ (Array.getElem?_eq_some_iff.1 RA7.out).1).trans RA7.out)
        have RP9 := Lib.hid ((hb.block _ (Array.getElem?_eq_some_iff.1 RP7.out).1).trans RP7.out)
        have RQ9 := Lib.hid ((hb.block _ (Array.getElem?_eq_some_iff.1 RQ7.out).1).trans RQ7.out)
        have FP9 := Lib.hid (FP7.out.keep hb)
        have FQ9 := Lib.hid (FQ7.out.keep hb)
        have FV9 := Lib.hid (FV8.out.keep hb)
        clear RX7 RA7 RP7 RQ7 FP7 FQ7 FV8
        clear hb
        clear FV9
        have FO10 := Lib.hid hly7
        clear hly7 hso7
        have hbx := below1 w9 (.cells #[.int .i64 o_kx, .string o_tx, .bool o_nx, .slice o_xo o_xn o_xc, .slice o_yo o_yn o_yc, .int .i64 o_ax, .slice o_po o_pn o_pc, .slice o_qo o_qn o_qc] 35)
        have hnx := heap_alloc_new w9 (.cells #[.int .i64 o_kx, .string o_tx, .bool o_nx, .slice o_xo o_xn o_xc, .slice o_yo o_yn o_yc, .int .i64 o_ax, .slice o_po o_pn o_pc, .slice o_qo o_qn o_qc] 35)
        go_upto_region 8 with fail
        obtain ⟨bkO, hbk⟩ : ∃ b, w9.heap.size = b := ⟨_, rfl⟩
        generalize w9.alloc (.cells #[.int .i64 o_kx, .string o_tx, .bool o_nx, .slice o_xo o_xn o_xc, .slice o_yo o_yn o_yc, .int .i64 o_ax, .slice o_po o_pn o_pc, .slice o_qo o_qn o_qc] 35) = w10 at *
        have HB11 := Lib.hid (HB9.out.trans (hbx.mono HB9.out.size))
        have RX11 := Lib.hid ((hbx.block _ (Array.getElem?_eq_some_iff.1 RX9.out).1).trans RX9.out)
        have RA11 := Lib.hid ((hbx.block _ (Array.getElem?_eq_some_iff.1 RA9.out).1).trans RA9.out)
        have RP11 := Lib.hid ((hbx.block _ (Array.getElem?_eq_some_iff.1 RP9.out).1).trans RP9.out)
        have RQ11 := Lib.hid ((hbx.block _ (Array.getElem?_eq_some_iff.1 RQ9.out).1).trans RQ9.out)
        have FP11 := Lib.hid (FP9.out.keep hbx)
        have FQ11 := Lib.hid (FQ9.out.keep hbx)
        have FO11 := Lib.hid (FO10.out.keep hbx)
        clear RX9 RA9 RP9 RQ9 FP9 FQ9 FO10
        rw [hbk] at hnx ⊢
        have RO11 := Lib.hid hnx
        clear hbx hnx hbk
        obtain ⟨c6_0, c6_1, c6_2, c6_3, c6_4, c6_5, c6_6, c6_7⟩ := rowS8 RX11.out
        go_wp2_with fail
        refine (own_sxK D HSM.out.owk _ w10 (HD.out.keep HB11.out)).mono ?_
        rintro e w11 ⟨vs, rfl, hl, hb⟩
        clear c6_0 c6_1 c6_2 c6_3 c6_4 c6_5 c6_6 c6_7
        have hlv := hl.lay
        clear hl
        have HB12 := Lib.hid (HB11.out.trans (hb.mono HB11.out.size))
        have RX12 := Lib.hid ((hb.block _ (Array.getElem?_eq_some_iff.1 RX11.out).1).trans RX11.out)
        have RA12 := Lib.hid ((hb.block _ (Array.getElem?_eq_some_iff.1 RA11.out).1).trans RA11.out)
        have RP12 := Lib.hid ((hb.block _ (Array.getElem?_eq_some_iff.1 RP11.out).1).trans RP11.out)
        have RQ12 := Lib.hid ((hb.block _ (Array.getElem?_eq_some_iff.1 RQ11.out).1).trans RQ11.out)
        have RO12 := Lib.hid ((hb.block _ (Array.getElem?_eq_some_iff.1 RO11.out).1).trans RO11.out)
        have FP12 := Lib.hid (FP11.out.keep hb)
        have FQ12 := Lib.hid (FQ11.out.keep hb)
        have FO12 := Lib.hid (FO11.out.keep hb)
        clear RX11 RA11 RP11 RQ11 RO11 FP11 FQ11 FO11
        clear hb
        have FV13 := Lib.hid hlv
        clear hlv
        go_wp2_with fail
        refine (flat_any D _ w11 FV13.out HSM.out (HT.out.below HB12.out (Nat.le_refl _))).mono ?_
        rintro e w12 ⟨us7, rfl, hso7, hb⟩
        rw [HE0.out]
        obtain ⟨f_kx, f_tx, f_nx, f_xo, f_xn, f_xc, f_yo, f_yn, f_yc, f_ax, f_po, f_pn, f_pc, f_qo, f_qn, f_qc, rfl⟩ := sx_shapes hso7.lay
        have hly7 := hso7.lay
        have HB14 := Lib.hid (HB12.out.trans (hb.mono HB12.out.size))
        have RX14 := Lib.hid ((hb.block _ (Array.getElem?_eq_some_iff.1 RX12.out).1).trans RX12.out)
        have RA14 := Lib.hid ((hb.block _ (Array.getElem?_eq_some_iff.1 RA12.out).1).trans RA12.out)
        have RP14 := Lib.hid ((hb.block _ (Array.getElem?_eq_some_iff.1 RP12.out).1).trans RP12.out)
        have RQ14 := Lib.hid ((hb.block _ (Array.getElem?_eq_some_iff.1 RQ12.out).1).trans RQ12.out)
        have RO14 := Lib.hid ((hb.block _ (Array.getElem?_eq_some_iff.1 RO12.out).1).trans RO12.out)
        have FP14 := Lib.hid (FP12.out.keep hb)
        have FQ14 := Lib.hid (FQ12.out.keep hb)
        have FO14 := Lib.hid (FO12.out.keep hb)
        have FV14 := Lib.hid (FV13.out.keep hb)
        clear RX12 RA12 RP12 RQ12 RO12 FP12 FQ12 FO12 FV13
        clear hb
        clear FV14
        have FF15 := Lib.hid hly7
        clear hly7 hso7
        have hbx := below1 w12 (.cells #[.int .i64 f_kx, .string f_tx, .bool f_nx, .slice f_xo f_xn f_xc, .slice f_yo f_yn f_yc, .int .i64 f_ax, .slice f_po f_pn f_pc, .slice f_qo f_qn f_qc] 35)
        have hnx := heap_alloc_new w12 (.cells #[.int .i64 f_kx, .string f_tx, .bool f_nx, .slice f_xo f_xn f_xc, .slice f_yo f_yn f_yc, .int .i64 f_ax, .slice f_po f_pn f_pc, .slice f_qo f_qn f_qc] 35)
        go_upto_region 9 with fail
        obtain ⟨bkF, hbk⟩ : ∃ b, w12.heap.size = b := ⟨_, rfl⟩
        generalize w12.alloc (.cells #[.int .i64 f_kx, .string f_tx, .bool f_nx, .slice f_xo f_xn f_xc, .slice f_yo f_yn f_yc, .int .i64 f_ax, .slice f_po f_pn f_pc, .slice f_qo f_qn f_qc] 35) = w13 at *
        have HB16 := Lib.hid (HB14.out.trans (hbx.mono HB14.out.size))
        have RX16 := Lib.hid ((hbx.block _ (Array.getElem?_eq_some_iff.1 RX14.out).1).trans RX14.out)
        have RA16 := Lib.hid ((hbx.block _ (Array.getElem?_eq_some_iff.1 RA14.out).1).trans RA14.out)
        have RP16 := Lib.hid ((hbx.block _ (Array.getElem?_eq_some_iff.1 RP14.out).1).trans RP14.out)
        have RQ16 := Lib.hid ((hbx.block _ (Array.getElem?_eq_some_iff.1 RQ14.out).1).trans RQ14.out)
        have RO16 := Lib.hid ((hbx.block _ (Array.getElem?_eq_some_iff.1 RO14.out).1).trans RO14.out)
        have FP16 := Lib.hid (FP14.out.keep hbx)
        have FQ16 := Lib.hid (FQ14.out.keep hbx)
        have FO16 := Lib.hid (FO14.out.keep hbx)
        have FF16 := Lib.hid (FF15.out.keep hbx)
        clear RX14 RA14 RP14 RQ14 RO14 FP14 FQ14 FO14 FF15
        rw [hbk] at hnx ⊢
        have RF16 := Lib.hid hnx
        clear hbx hnx hbk
        obtain ⟨c7_0, c7_1, c7_2, c7_3, c7_4, c7_5, c7_6, c7_7⟩ := rowS8 RX16.out
        go_wp2_with fail
        refine (rxsound_any D _ w13 (HD.out.keep HB16.out) HSM.out).mono ?_
        rintro e w14 ⟨rfl, hb⟩
        clear c7_0 c7_1 c7_2 c7_3 c7_4 c7_5 c7_6 c7_7
        have HB17 := Lib.hid (HB16.out.trans (hb.mono HB16.out.size))
        have RX17 := Lib.hid ((hb.block _ (Array.getElem?_eq_some_iff.1 RX16.out).1).trans RX16.out)
        have RA17 := Lib.hid ((hb.block _ (Array.getElem?_eq_some_iff.1 RA16.out).1).trans RA16.out)
        have RP17 := Lib.hid ((hb.block _ (Array.getElem?_eq_some_iff.1 RP16.out).1).trans RP16.out)
        have RQ17 := Lib.hid ((hb.block _ (Array.getElem?_eq_some_iff.1 RQ16.out).1).trans RQ16.out)
        have RO17 := Lib.hid ((hb.block _ (Array.getElem?_eq_some_iff.1 RO16.out).1).trans RO16.out)
        have RF17 := Lib.hid ((hb.block _ (Array.getElem?_eq_some_iff.1 RF16.out).1).trans RF16.out)
        have FP17 := Lib.hid (FP16.out.keep hb)
        have FQ17 := Lib.hid (FQ16.out.keep hb)
        have FO17 := Lib.hid (FO16.out.keep hb)
        have FF17 := Lib.hid (FF16.out.keep hb)
        clear RX16 RA16 RP16 RQ16 RO16 RF16 FP16 FQ16 FO16 FF16
        clear hb
        cases hs : sndX D with
        | false =>
          obtain rfl : e0 = 2 := HE0.out.symm.trans (by unfold sndE; rw [if_neg (by rw [hs]; decide)])
          clear hs
          go_wp2_with fail
          go_ret
          exact ⟨rfl, HB17.out⟩
        | true =>
          obtain rfl : e0 = 0 := HE0.out.symm.trans (by unfold sndE; rw [if_pos hs])
          have hr1 : opnR D = opnS D := by unfold opnR; rw [if_pos hs]
          have hr2 : fltR D = fltS [] [] D := by unfold fltR; rw [if_pos hs]
          obtain ⟨c8_0, c8_1, c8_2, c8_3, c8_4, c8_5, c8_6, c8_7⟩ := rowS8 RX17.out
          go_wp2_with fail
          refine (rflat_any D _ w14 (HD.out.keep HB17.out) HSM.out).mono ?_
          rintro e w15 ⟨k_kx, k_tx, k_nx, k_xo, k_xn, k_xc, k_yo, k_yn, k_yc, k_ax, k_po, k_pn, k_pc, k_qo, k_qn, k_qc, rfl, hl7, hb⟩
          clear c8_0 c8_1 c8_2 c8_3 c8_4 c8_5 c8_6 c8_7
          rw [HE0.out]
          have HB18 := Lib.hid (HB17.out.trans (hb.mono HB17.out.size))
          have RX18 := Lib.hid ((hb.block _ (Array.getElem?_eq_some_iff.1 RX17.out).1).trans RX17.out)
          have RA18 := Lib.hid ((hb.block _ (Array.getElem?_eq_some_iff.1 RA17.out).1).trans RA17.out)
          have RP18 := Lib.hid ((hb.block _ (Array.getElem?_eq_some_iff.1 RP17.out).1).trans RP17.out)
          have RQ18 := Lib.hid ((hb.block _ (Array.getElem?_eq_some_iff.1 RQ17.out).1).trans RQ17.out)
          have RO18 := Lib.hid ((hb.block _ (Array.getElem?_eq_some_iff.1 RO17.out).1).trans RO17.out)
          have RF18 := Lib.hid ((hb.block _ (Array.getElem?_eq_some_iff.1 RF17.out).1).trans RF17.out)
          have FP18 := Lib.hid (FP17.out.keep hb)
          have FQ18 := Lib.hid (FQ17.out.keep hb)
          have FO18 := Lib.hid (FO17.out.keep hb)
          have FF18 := Lib.hid (FF17.out.keep hb)
          clear RX17 RA17 RP17 RQ17 RO17 RF17 FP17 FQ17 FO17 FF17
          clear hb
          have FK19 := Lib.hid hl7
          clear hl7
          have hbx := below1 w15 (.cells #[.int .i64 k_kx, .string k_tx, .bool k_nx, .slice k_xo k_xn k_xc, .slice k_yo k_yn k_yc, .int .i64 k_ax, .slice k_po k_pn k_pc, .slice k_qo k_qn k_qc] 35)
          have hnx := heap_alloc_new w15 (.cells #[.int .i64 k_kx, .string k_tx, .bool k_nx, .slice k_xo k_xn k_xc, .slice k_yo k_yn k_yc, .int .i64 k_ax, .slice k_po k_pn k_pc, .slice k_qo k_qn k_qc] 35)
          go_upto_region 12 with fail
          obtain ⟨bkK, hbk⟩ : ∃ b, w15.heap.size = b := ⟨_, rfl⟩
          generalize w15.alloc (.cells #[.int .i64 k_kx, .string k_tx, .bool k_nx, .slice k_xo k_xn k_xc, .slice k_yo k_yn k_yc, .int .i64 k_ax, .slice k_po k_pn k_pc, .slice k_qo k_qn k_qc] 35) = w16 at *
          have HB20 := Lib.hid (HB18.out.trans (hbx.mono HB18.out.size))
          have RX20 := Lib.hid ((hbx.block _ (Array.getElem?_eq_some_iff.1 RX18.out).1).trans RX18.out)
          have RA20 := Lib.hid ((hbx.block _ (Array.getElem?_eq_some_iff.1 RA18.out).1).trans RA18.out)
          have RP20 := Lib.hid ((hbx.block _ (Array.getElem?_eq_some_iff.1 RP18.out).1).trans RP18.out)
          have RQ20 := Lib.hid ((hbx.block _ (Array.getElem?_eq_some_iff.1 RQ18.out).1).trans RQ18.out)
          have RO20 := Lib.hid ((hbx.block _ (Array.getElem?_eq_some_iff.1 RO18.out).1).trans RO18.out)
          have RF20 := Lib.hid ((hbx.block _ (Array.getElem?_eq_some_iff.1 RF18.out).1).trans RF18.out)
          have FP20 := Lib.hid (FP18.out.keep hbx)
          have FQ20 := Lib.hid (FQ18.out.keep hbx)
          have FO20 := Lib.hid (FO18.out.keep hbx)
          have FF20 := Lib.hid (FF18.out.keep hbx)
          have FK20 := Lib.hid (FK19.out.keep hbx)
          clear RX18 RA18 RP18 RQ18 RO18 RF18 FP18 FQ18 FO18 FF18 FK19
          rw [hbk] at hnx ⊢
          have RK20 := Lib.hid hnx
          clear hbx hnx hbk
          have GO := FO20.out
          rw [hr1] at GO
          clear FO20
          have FO21 := Lib.hid GO
          clear GO
          have GF := FF20.out
          rw [hr2] at GF
          clear FF20
          have FF22 := Lib.hid GF
          clear GF
          have GK := FK20.out
          rw [hr2] at GK
          clear FK20
          have FK23 := Lib.hid GK
          clear GK
          clear hr1 hr2 hs
          have HLN := Lib.hid (And.intro (Array.getElem?_eq_some_iff.1 RX20.out).1 (And.intro (Array.getElem?_eq_some_iff.1 RO20.out).1 (And.intro (Array.getElem?_eq_some_iff.1 RF20.out).1 ((Array.getElem?_eq_some_iff.1 RK20.out).1))))
          refine wp_region_slotsG (psi [isV (.int .i64 0), isV (.bool true), isV (.bool true), isV (.int .i64 0), isV (.bool true), isV (.bool true), isV (.bool true), isV (.agg #[.int .i64 o_kx, .string o_tx, .bool o_nx, .slice o_xo o_xn o_xc, .slice o_yo o_yn o_yc, .int .i64 o_ax, .slice o_po o_pn o_pc, .slice o_qo o_qn o_qc]), isV (.agg #[.int .i64 kx, .string tx, .bool nx, .slice xo xn xc, .slice yo yn yc, .int .i64 ax, .slice po pn pc, .slice qo qn qc]), isOx (opnS D), isV (.bool true), isV (.bool true), isV (.bool true), isV (.agg #[.int .i64 f_kx, .string f_tx, .bool f_nx, .slice f_xo f_xn f_xc, .slice f_yo f_yn f_yc, .int .i64 f_ax, .slice f_po f_pn f_pc, .slice f_qo f_qn f_qc]), isV (.agg #[.int .i64 k_kx, .string k_tx, .bool k_nx, .slice k_xo k_xn k_xc, .slice k_yo k_yn k_yc, .int .i64 k_ax, .slice k_po k_pn k_pc, .slice k_qo k_qn k_qc]), isV (.bool true), isV (.bool true), isV (.bool true)]) (fun W => Below w16.heap.size w16 W) (by kernel_rfl) (Below.refl _ _).drew (psi_mono ?_) (by kernel_rfl) (by kernel_rfl) ?_ ?_
          · intro pq hp
            simp only [List.mem_cons, List.not_mem_nil, or_false] at hp
            (repeat' rcases hp with rfl | hp) <;> first | exact isV_stays _ | (subst hp; exact isV_stays _) | exact isOx_stays _ | (subst hp; exact isOx_stays _)
          · refine AllOps.cons ?_ ?_
            · intro ab W hC hB hdep
              refine .inl ⟨rfl, ?_⟩
              have b0 : ab.tmps.getD 10 undef = .int .i64 0 := hB.off 10 (by kernel_rfl)
              clear hB hdep
              refine goes_value (v := .int .i64 0) ?_ hC rfl
              simp only [execOp, Act.eval, b0]
              go_simp
            refine AllOps.cons ?_ ?_
            · intro ab W hC hB hdep
              refine .inl ⟨rfl, ?_⟩
              obtain ⟨x0, (q0 : (isV (.int .i64 0)) x0 W), e0⟩ := hdep 0 90 (by kernel_rfl)
              obtain rfl : x0 = .int .i64 0 := q0
              clear hB hdep
              refine goes_value (v := .bool true) ?_ hC rfl
              simp only [execOp, Act.eval, e0]
              go_simp
            refine AllOps.cons ?_ ?_
            · intro ab W hC hB hdep
              refine .inl ⟨rfl, ?_⟩
              obtain ⟨x0, (q0 : (isV (.bool true)) x0 W), e0⟩ := hdep 1 91 (by kernel_rfl)
              obtain rfl : x0 = .bool true := q0
              clear hB hdep
              refine goes_value (v := .bool true) ?_ hC rfl
              simp only [execOp, Act.eval, e0]
              go_simp
            refine AllOps.cons ?_ ?_
            · intro ab W hC hB hdep
              obtain ⟨xg, (qg : xg = .bool true), eg⟩ := hdep 2 92 (by kernel_rfl)
              subst qg
              refine .inl ⟨((wanted_is (g := 2) (t := 92) (b := true) (c := true) rfl rfl (by rw [hB.size]; exact Nat.le_of_ble_eq_true rfl) eg).trans rfl), ?_⟩
              have b0 : ab.tmps.getD 12 undef = .int .i64 0 := hB.off 12 (by kernel_rfl)
              clear hB hdep
              refine goes_value (v := .int .i64 0) ?_ hC rfl
              simp only [execOp, Act.eval, b0]
              go_simp
            refine AllOps.cons ?_ ?_
            · intro ab W hC hB hdep
              obtain ⟨xg, (qg : xg = .bool true), eg⟩ := hdep 2 92 (by kernel_rfl)
              subst qg
              refine .inl ⟨((wanted_is (g := 2) (t := 92) (b := true) (c := true) rfl rfl (by rw [hB.size]; exact Nat.le_of_ble_eq_true rfl) eg).trans rfl), ?_⟩
              obtain ⟨x0, (q0 : (isV (.int .i64 0)) x0 W), e0⟩ := hdep 3 93 (by kernel_rfl)
              obtain rfl : x0 = .int .i64 0 := q0
              clear hB hdep
              refine goes_value (v := .bool true) ?_ hC rfl
              simp only [execOp, Act.eval, e0]
              go_simp
            refine AllOps.cons ?_ ?_
            · intro ab W hC hB hdep
              refine .inl ⟨rfl, ?_⟩
              obtain ⟨x0, (q0 : (isV (.bool true)) x0 W), e0⟩ := hdep 2 92 (by kernel_rfl)
              obtain rfl : x0 = .bool true := q0
              obtain ⟨x1, (q1 : (isV (.bool true)) x1 W), e1⟩ := hdep 4 94 (by kernel_rfl)
              obtain rfl : x1 = .bool true := q1
              clear hB hdep
              refine goes_value (v := .bool true) ?_ hC rfl
              simp only [execOp, Act.eval, e0, e1]
              go_simp
            refine AllOps.cons ?_ ?_
            · intro ab W hC hB hdep
              refine .inl ⟨rfl, ?_⟩
              obtain ⟨x0, (q0 : (isV (.bool true)) x0 W), e0⟩ := hdep 5 95 (by kernel_rfl)
              obtain rfl : x0 = .bool true := q0
              clear hB hdep
              refine goes_value (v := .bool true) ?_ hC rfl
              simp only [execOp, Act.eval, e0]
              go_simp
            refine AllOps.cons ?_ ?_
            · intro ab W hC hB hdep
              obtain ⟨xg, (qg : xg = .bool true), eg⟩ := hdep 6 96 (by kernel_rfl)
              subst qg
              refine .inl ⟨((wanted_is (g := 6) (t := 96) (b := true) (c := true) rfl rfl (by rw [hB.size]; exact Nat.le_of_ble_eq_true rfl) eg).trans rfl), ?_⟩
              have b0 : ab.tmps.getD 9 undef = .pointer (some ⟨bkO, 0, none⟩) := hB.off 9 (by kernel_rfl)
              obtain ⟨c0, c1, c2, c3, c4, c5, c6, c7⟩ := rowS8 ((hC.block _ HLN.out.2.1).trans RO20.out)
              clear hB hdep
              refine goes_value (v := .agg #[.int .i64 o_kx, .string o_tx, .bool o_nx, .slice o_xo o_xn o_xc, .slice o_yo o_yn o_yc, .int .i64 o_ax, .slice o_po o_pn o_pc, .slice o_qo o_qn o_qc]) ?_ hC rfl
              simp only [execOp, Act.eval, b0]
              go_simp
            refine AllOps.cons ?_ ?_
            · intro ab W hC hB hdep
              obtain ⟨xg, (qg : xg = .bool true), eg⟩ := hdep 6 96 (by kernel_rfl)
              subst qg
              refine .inl ⟨((wanted_is (g := 6) (t := 96) (b := true) (c := true) rfl rfl (by rw [hB.size]; exact Nat.le_of_ble_eq_true rfl) eg).trans rfl), ?_⟩
              have b0 : ab.tmps.getD 2 undef = .pointer (some ⟨w.heap.size, 0, none⟩) := hB.off 2 (by kernel_rfl)
              obtain ⟨c0, c1, c2, c3, c4, c5, c6, c7⟩ := rowS8 ((hC.block _ HLN.out.1).trans RX20.out)
              clear hB hdep
              refine goes_value (v := .agg #[.int .i64 kx, .string tx, .bool nx, .slice xo xn xc, .slice yo yn yc, .int .i64 ax, .slice po pn pc, .slice qo qn qc]) ?_ hC rfl
              simp only [execOp, Act.eval, b0]
              go_simp
            refine AllOps.cons ?_ ?_
            · intro ab W hC hB hdep
              obtain ⟨xg, (qg : xg = .bool true), eg⟩ := hdep 6 96 (by kernel_rfl)
              subst qg
              refine .inl ⟨((wanted_is (g := 6) (t := 96) (b := true) (c := true) rfl rfl (by rw [hB.size]; exact Nat.le_of_ble_eq_true rfl) eg).trans rfl), ?_⟩
              obtain ⟨x0, (q0 : (isV (.agg #[.int .i64 kx, .string tx, .bool nx, .slice xo xn xc, .slice yo yn yc, .int .i64 ax, .slice po pn pc, .slice qo qn qc])) x0 W), e0⟩ := hdep 8 98 (by kernel_rfl)
              obtain rfl : x0 = .agg #[.int .i64 kx, .string tx, .bool nx, .slice xo xn xc, .slice yo yn yc, .int .i64 ax, .slice po pn pc, .slice qo qn qc] := q0
              clear hB hdep
              refine goes_call (f := 30) (args := #[.agg #[.int .i64 kx, .string tx, .bool nx, .slice xo xn xc, .slice yo yn yc, .int .i64 ax, .slice po pn pc, .slice qo qn qc]]) ?_ ?_
              · simp only [execOp]
                go_simp
              · exact (ropen_any D _ W (HD.out.keep (HB20.out.trans (hC.mono HB20.out.size))) HSM.out).mono fun e w7 ⟨_, _, _, _, _, _, _, _, _, _, _, _, _, _, _, _, he, hl, hb⟩ => ⟨_, he, hC.trans (hb.mono hC.size), hb, ⟨_, rfl, hl⟩⟩
            refine AllOps.cons ?_ ?_
            · intro ab W hC hB hdep
              obtain ⟨xg, (qg : xg = .bool true), eg⟩ := hdep 6 96 (by kernel_rfl)
              subst qg
              refine .inl ⟨((wanted_is (g := 6) (t := 96) (b := true) (c := true) rfl rfl (by rw [hB.size]; exact Nat.le_of_ble_eq_true rfl) eg).trans rfl), ?_⟩
              obtain ⟨x0, (q0 : (isV (.agg #[.int .i64 o_kx, .string o_tx, .bool o_nx, .slice o_xo o_xn o_xc, .slice o_yo o_yn o_yc, .int .i64 o_ax, .slice o_po o_pn o_pc, .slice o_qo o_qn o_qc])) x0 W), e0⟩ := hdep 7 97 (by kernel_rfl)
              obtain rfl : x0 = .agg #[.int .i64 o_kx, .string o_tx, .bool o_nx, .slice o_xo o_xn o_xc, .slice o_yo o_yn o_yc, .int .i64 o_ax, .slice o_po o_pn o_pc, .slice o_qo o_qn o_qc] := q0
              obtain ⟨x1, (q1 : (isOx (opnS D)) x1 W), e1⟩ := hdep 9 99 (by kernel_rfl)
              skip
              clear hB hdep
              refine goes_call (f := 21) (args := #[.agg #[.int .i64 o_kx, .string o_tx, .bool o_nx, .slice o_xo o_xn o_xc, .slice o_yo o_yn o_yc, .int .i64 o_ax, .slice o_po o_pn o_pc, .slice o_qo o_qn o_qc], x1]) ?_ ?_
              · simp only [execOp]
                go_simp
              · obtain ⟨ub, rfl, hlb⟩ := q1
                exact (exact_sx 100 (opnS D) (opnS D) (opn_light HLX.out) _ ub W (FO21.out.keep hC) hlb).mono fun e w7 ⟨he, hb⟩ => ⟨_, he, hC.trans (hb.mono hC.size), hb, by show Value.bool _ = _; rw [opn_same HLX.out]⟩
            refine AllOps.cons ?_ ?_
            · intro ab W hC hB hdep
              refine .inl ⟨rfl, ?_⟩
              obtain ⟨x0, (q0 : (isV (.bool true)) x0 W), e0⟩ := hdep 6 96 (by kernel_rfl)
              obtain rfl : x0 = .bool true := q0
              obtain ⟨x1, (q1 : (isV (.bool true)) x1 W), e1⟩ := hdep 10 100 (by kernel_rfl)
              obtain rfl : x1 = .bool true := q1
              clear hB hdep
              refine goes_value (v := .bool true) ?_ hC rfl
              simp only [execOp, Act.eval, e0, e1]
              go_simp
            refine AllOps.cons ?_ ?_
            · intro ab W hC hB hdep
              refine .inl ⟨rfl, ?_⟩
              obtain ⟨x0, (q0 : (isV (.bool true)) x0 W), e0⟩ := hdep 11 101 (by kernel_rfl)
              obtain rfl : x0 = .bool true := q0
              clear hB hdep
              refine goes_value (v := .bool true) ?_ hC rfl
              simp only [execOp, Act.eval, e0]
              go_simp
            refine AllOps.cons ?_ ?_
            · intro ab W hC hB hdep
              obtain ⟨xg, (qg : xg = .bool true), eg⟩ := hdep 12 102 (by kernel_rfl)
              subst qg
              refine .inl ⟨((wanted_is (g := 12) (t := 102) (b := true) (c := true) rfl rfl (by rw [hB.size]; exact Nat.le_of_ble_eq_true rfl) eg).trans rfl), ?_⟩
              have b0 : ab.tmps.getD 11 undef = .pointer (some ⟨bkF, 0, none⟩) := hB.off 11 (by kernel_rfl)
              obtain ⟨c0, c1, c2, c3, c4, c5, c6, c7⟩ := rowS8 ((hC.block _ HLN.out.2.2.1).trans RF20.out)
              clear hB hdep
              refine goes_value (v := .agg #[.int .i64 f_kx, .string f_tx, .bool f_nx, .slice f_xo f_xn f_xc, .slice f_yo f_yn f_yc, .int .i64 f_ax, .slice f_po f_pn f_pc, .slice f_qo f_qn f_qc]) ?_ hC rfl
              simp only [execOp, Act.eval, b0]
              go_simp
            refine AllOps.cons ?_ ?_
            · intro ab W hC hB hdep
              obtain ⟨xg, (qg : xg = .bool true), eg⟩ := hdep 12 102 (by kernel_rfl)
              subst qg
              refine .inl ⟨((wanted_is (g := 12) (t := 102) (b := true) (c := true) rfl rfl (by rw [hB.size]; exact Nat.le_of_ble_eq_true rfl) eg).trans rfl), ?_⟩
              have b0 : ab.tmps.getD 13 undef = .pointer (some ⟨bkK, 0, none⟩) := hB.off 13 (by kernel_rfl)
              obtain ⟨c0, c1, c2, c3, c4, c5, c6, c7⟩ := rowS8 ((hC.block _ HLN.out.2.2.2).trans RK20.out)
              clear hB hdep
              refine goes_value (v := .agg #[.int .i64 k_kx, .string k_tx, .bool k_nx, .slice k_xo k_xn k_xc, .slice k_yo k_yn k_yc, .int .i64 k_ax, .slice k_po k_pn k_pc, .slice k_qo k_qn k_qc]) ?_ hC rfl
              simp only [execOp, Act.eval, b0]
              go_simp
            refine AllOps.cons ?_ ?_
            · intro ab W hC hB hdep
              obtain ⟨xg, (qg : xg = .bool true), eg⟩ := hdep 12 102 (by kernel_rfl)
              subst qg
              refine .inl ⟨((wanted_is (g := 12) (t := 102) (b := true) (c := true) rfl rfl (by rw [hB.size]; exact Nat.le_of_ble_eq_true rfl) eg).trans rfl), ?_⟩
              obtain ⟨x0, (q0 : (isV (.agg #[.int .i64 f_kx, .string f_tx, .bool f_nx, .slice f_xo f_xn f_xc, .slice f_yo f_yn f_yc, .int .i64 f_ax, .slice f_po f_pn f_pc, .slice f_qo f_qn f_qc])) x0 W), e0⟩ := hdep 13 103 (by kernel_rfl)
              obtain rfl : x0 = .agg #[.int .i64 f_kx, .string f_tx, .bool f_nx, .slice f_xo f_xn f_xc, .slice f_yo f_yn f_yc, .int .i64 f_ax, .slice f_po f_pn f_pc, .slice f_qo f_qn f_qc] := q0
              obtain ⟨x1, (q1 : (isV (.agg #[.int .i64 k_kx, .string k_tx, .bool k_nx, .slice k_xo k_xn k_xc, .slice k_yo k_yn k_yc, .int .i64 k_ax, .slice k_po k_pn k_pc, .slice k_qo k_qn k_qc])) x1 W), e1⟩ := hdep 14 104 (by kernel_rfl)
              obtain rfl : x1 = .agg #[.int .i64 k_kx, .string k_tx, .bool k_nx, .slice k_xo k_xn k_xc, .slice k_yo k_yn k_yc, .int .i64 k_ax, .slice k_po k_pn k_pc, .slice k_qo k_qn k_qc] := q1
              clear hB hdep
              refine goes_call (f := 21) (args := #[.agg #[.int .i64 f_kx, .string f_tx, .bool f_nx, .slice f_xo f_xn f_xc, .slice f_yo f_yn f_yc, .int .i64 f_ax, .slice f_po f_pn f_pc, .slice f_qo f_qn f_qc], .agg #[.int .i64 k_kx, .string k_tx, .bool k_nx, .slice k_xo k_xn k_xc, .slice k_yo k_yn k_yc, .int .i64 k_ax, .slice k_po k_pn k_pc, .slice k_qo k_qn k_qc]]) ?_ ?_
              · simp only [execOp]
                go_simp
              · exact (exact_sx 100 (fltS [] [] D) (fltS [] [] D) (flt_light HLX.out _ _) _ _ W (FF22.out.keep hC) (FK23.out.keep hC)).mono fun e w7 ⟨he, hb⟩ => ⟨_, he, hC.trans (hb.mono hC.size), hb, by show Value.bool _ = _; rw [flt_same HLX.out]⟩
            refine AllOps.cons ?_ ?_
            · intro ab W hC hB hdep
              refine .inl ⟨rfl, ?_⟩
              obtain ⟨x0, (q0 : (isV (.bool true)) x0 W), e0⟩ := hdep 12 102 (by kernel_rfl)
              obtain rfl : x0 = .bool true := q0
              obtain ⟨x1, (q1 : (isV (.bool true)) x1 W), e1⟩ := hdep 15 105 (by kernel_rfl)
              obtain rfl : x1 = .bool true := q1
              clear hB hdep
              refine goes_value (v := .bool true) ?_ hC rfl
              simp only [execOp, Act.eval, e0, e1]
              go_simp
            refine AllOps.cons ?_ ?_
            · intro ab W hC hB hdep
              refine .inl ⟨rfl, ?_⟩
              obtain ⟨x0, (q0 : (isV (.bool true)) x0 W), e0⟩ := hdep 16 106 (by kernel_rfl)
              obtain rfl : x0 = .bool true := q0
              clear hB hdep
              refine goes_value (v := .bool true) ?_ hC rfl
              simp only [execOp, Act.eval, e0]
              go_simp
            exact trivial
          · intro aa wC hC hB hall
            obtain ⟨v0, (k0 : v0 = .int .i64 0), e0⟩ := hall 0 _ rfl
            obtain ⟨v1, (k1 : v1 = .bool true), e1⟩ := hall 1 _ rfl
            obtain ⟨v2, (k2 : v2 = .bool true), e2⟩ := hall 2 _ rfl
            obtain ⟨v3, (k3 : v3 = .int .i64 0), e3⟩ := hall 3 _ rfl
            obtain ⟨v4, (k4 : v4 = .bool true), e4⟩ := hall 4 _ rfl
            obtain ⟨v5, (k5 : v5 = .bool true), e5⟩ := hall 5 _ rfl
            obtain ⟨v6, (k6 : v6 = .bool true), e6⟩ := hall 6 _ rfl
            obtain ⟨v7, (k7 : v7 = .agg #[.int .i64 o_kx, .string o_tx, .bool o_nx, .slice o_xo o_xn o_xc, .slice o_yo o_yn o_yc, .int .i64 o_ax, .slice o_po o_pn o_pc, .slice o_qo o_qn o_qc]), e7⟩ := hall 7 _ rfl
            obtain ⟨v8, (k8 : v8 = .agg #[.int .i64 kx, .string tx, .bool nx, .slice xo xn xc, .slice yo yn yc, .int .i64 ax, .slice po pn pc, .slice qo qn qc]), e8⟩ := hall 8 _ rfl
            obtain ⟨v9, (k9 : (isOx (opnS D)) v9 wC), e9⟩ := hall 9 _ rfl
            obtain ⟨v10, (k10 : v10 = .bool true), e10⟩ := hall 10 _ rfl
            obtain ⟨v11, (k11 : v11 = .bool true), e11⟩ := hall 11 _ rfl
            obtain ⟨v12, (k12 : v12 = .bool true), e12⟩ := hall 12 _ rfl
            obtain ⟨v13, (k13 : v13 = .agg #[.int .i64 f_kx, .string f_tx, .bool f_nx, .slice f_xo f_xn f_xc, .slice f_yo f_yn f_yc, .int .i64 f_ax, .slice f_po f_pn f_pc, .slice f_qo f_qn f_qc]), e13⟩ := hall 13 _ rfl
            obtain ⟨v14, (k14 : v14 = .agg #[.int .i64 k_kx, .string k_tx, .bool k_nx, .slice k_xo k_xn k_xc, .slice k_yo k_yn k_yc, .int .i64 k_ax, .slice k_po k_pn k_pc, .slice k_qo k_qn k_qc]), e14⟩ := hall 14 _ rfl
            obtain ⟨v15, (k15 : v15 = .bool true), e15⟩ := hall 15 _ rfl
            obtain ⟨v16, (k16 : v16 = .bool true), e16⟩ := hall 16 _ rfl
            obtain ⟨v17, (k17 : v17 = .bool true), e17⟩ := hall 17 _ rfl
            subst k0 k1 k2 k3 k4 k5 k6 k7 k8 k10 k11 k12 k13 k14 k15 k16 k17
            have hv : ∀ pq ∈ [((90 : Nat), (.int .i64 0 : Value)), ((91 : Nat), (.bool true : Value)), ((92 : Nat), (.bool true : Value)), ((93 : Nat), (.int .i64 0 : Value)), ((94 : Nat), (.bool true : Value)), ((95 : Nat), (.bool true : Value)), ((96 : Nat), (.bool true : Value)), ((97 : Nat), (.agg #[.int .i64 o_kx, .string o_tx, .bool o_nx, .slice o_xo o_xn o_xc, .slice o_yo o_yn o_yc, .int .i64 o_ax, .slice o_po o_pn o_pc, .slice o_qo o_qn o_qc] : Value)), ((98 : Nat), (.agg #[.int .i64 kx, .string tx, .bool nx, .slice xo xn xc, .slice yo yn yc, .int .i64 ax, .slice po pn pc, .slice qo qn qc] : Value)), ((99 : Nat), (v9 : Value)), ((100 : Nat), (.bool true : Value)), ((101 : Nat), (.bool true : Value)), ((102 : Nat), (.bool true : Value)), ((103 : Nat), (.agg #[.int .i64 f_kx, .string f_tx, .bool f_nx, .slice f_xo f_xn f_xc, .slice f_yo f_yn f_yc, .int .i64 f_ax, .slice f_po f_pn f_pc, .slice f_qo f_qn f_qc] : Value)), ((104 : Nat), (.agg #[.int .i64 k_kx, .string k_tx, .bool k_nx, .slice k_xo k_xn k_xc, .slice k_yo k_yn k_yc, .int .i64 k_ax, .slice k_po k_pn k_pc, .slice k_qo k_qn k_qc] : Value)), ((105 : Nat), (.bool true : Value)), ((106 : Nat), (.bool true : Value)), ((4 : Nat), (.bool true : Value))], aa.tmps.getD pq.1 undef = pq.2 := by
              intro pq hp
              simp only [List.mem_cons, List.not_mem_nil, or_false] at hp
              rcases hp with rfl | rfl | rfl | rfl | rfl | rfl | rfl | rfl | rfl | rfl | rfl | rfl | rfl | rfl | rfl | rfl | rfl | rfl
              · exact e0 _ rfl
              · exact e1 _ rfl
              · exact e2 _ rfl
              · exact e3 _ rfl
              · exact e4 _ rfl
              · exact e5 _ rfl
              · exact e6 _ rfl
              · exact e7 _ rfl
              · exact e8 _ rfl
              · exact e9 _ rfl
              · exact e10 _ rfl
              · exact e11 _ rfl
              · exact e12 _ rfl
              · exact e13 _ rfl
              · exact e14 _ rfl
              · exact e15 _ rfl
              · exact e16 _ rfl
              · exact e17 _ rfl
            have hact := act_fold _ hB hv (by kernel_rfl)
            subst hact
            clear hv hall hB e0 e1 e2 e3 e4 e5 e6 e7 e8 e9 e10 e11 e12 e13 e14 e15 e16 e17
            refine (‹∀ (a : Act) (w : World), Code.wp Tryz.prog _ _ a w → _›) _ wC ?_
            simp only [List.foldl, List.setIfInBounds_toArray, List.set_cons_succ, List.set_cons_zero]
            clear HLN k9
            have HB24 := Lib.hid (HB20.out.trans (hC.mono HB20.out.size))
            have RX24 := Lib.hid ((hC.block _ (Array.getElem?_eq_some_iff.1 RX20.out).1).trans RX20.out)
            have RA24 := Lib.hid ((hC.block _ (Array.getElem?_eq_some_iff.1 RA20.out).1).trans RA20.out)
            have RP24 := Lib.hid ((hC.block _ (Array.getElem?_eq_some_iff.1 RP20.out).1).trans RP20.out)
            have RQ24 := Lib.hid ((hC.block _ (Array.getElem?_eq_some_iff.1 RQ20.out).1).trans RQ20.out)
            have RO24 := Lib.hid ((hC.block _ (Array.getElem?_eq_some_iff.1 RO20.out).1).trans RO20.out)
            have RF24 := Lib.hid ((hC.block _ (Array.getElem?_eq_some_iff.1 RF20.out).1).trans RF20.out)
            have RK24 := Lib.hid ((hC.block _ (Array.getElem?_eq_some_iff.1 RK20.out).1).trans RK20.out)
            have FP24 := Lib.hid (FP20.out.keep hC)
            have FQ24 := Lib.hid (FQ20.out.keep hC)
            have FO24 := Lib.hid (FO21.out.keep hC)
            have FF24 := Lib.hid (FF22.out.keep hC)
            have FK24 := Lib.hid (FK23.out.keep hC)
            clear RX20 RA20 RP20 RQ20 RO20 RF20 RK20 FP20 FQ20 FO21 FF22 FK23
            clear hC
            go_wp2_with fail
            go_ret
            exact ⟨rfl, HB24.out⟩
      subst hz1
      have hr0 : pshR m s D = pshS m s D := pshR_ok HERP.out
      have GP := FP6.out
      rw [hr0] at GP
      clear FP6
      have FP7 := Lib.hid GP
      clear GP
      have GQ := FQ6.out
      rw [hr0] at GQ
      clear FQ6
      have FQ8 := Lib.hid GQ
      clear GQ
      clear hr0
      obtain ⟨c5_0, c5_1, c5_2, c5_3, c5_4, c5_5, c5_6, c5_7⟩ := rowS8 RP6.out
      obtain ⟨c6_0, c6_1, c6_2, c6_3, c6_4, c6_5, c6_6, c6_7⟩ := rowS8 RQ6.out
      go_wp2_with fail
      refine (exact_sx 100 (pshS m s D) (pshS m s D) (psh_light HLX.out) _ _ w6 FP7.out FQ8.out).mono ?_
      rintro e w7 ⟨rfl, hb⟩
      clear c5_0 c5_1 c5_2 c5_3 c5_4 c5_5 c5_6 c5_7 c6_0 c6_1 c6_2 c6_3 c6_4 c6_5 c6_6 c6_7
      rw [psh_same HLX.out]
      have HB9 := Lib.hid (HB6.out.trans (hb.mono HB6.out.size))
      have RX9 := Lib.hid ((hb.block _ (Array.getElem?_eq_some_iff.1 RX6.out).1).trans RX6.out)
      have RA9 := Lib.hid ((hb.block _ (Array.getElem?_eq_some_iff.1 RA6.out).1).trans RA6.out)
      have RP9 := Lib.hid ((hb.block _ (Array.getElem?_eq_some_iff.1 RP6.out).1).trans RP6.out)
      have RQ9 := Lib.hid ((hb.block _ (Array.getElem?_eq_some_iff.1 RQ6.out).1).trans RQ6.out)
      have FP9 := Lib.hid (FP7.out.keep hb)
      have FQ9 := Lib.hid (FQ8.out.keep hb)
      clear RX6 RA6 RP6 RQ6 FP7 FQ8
      clear hb
      obtain ⟨c7_0, c7_1, c7_2, c7_3, c7_4, c7_5, c7_6, c7_7⟩ := rowS8 RX9.out
      go_wp2_with fail
      refine (own_sxK D HSM.out.owk _ w7 (HD.out.keep HB9.out)).mono ?_
      rintro e w8 ⟨vs, rfl, hl, hb⟩
      clear c7_0 c7_1 c7_2 c7_3 c7_4 c7_5 c7_6 c7_7
      have hlv := hl.lay
      clear hl
      have HB10 := Lib.hid (HB9.out.trans (hb.mono HB9.out.size))
      have RX10 := Lib.hid ((hb.block _ (Array.getElem?_eq_some_iff.1 RX9.out).1).trans RX9.out)
      have RA10 := Lib.hid ((hb.block _ (Array.getElem?_eq_some_iff.1 RA9.out).1).trans RA9.out)
      have RP10 := Lib.hid ((hb.block _ (Array.getElem?_eq_some_iff.1 RP9.out).1).trans RP9.out)
      have RQ10 := Lib.hid ((hb.block _ (Array.getElem?_eq_some_iff.1 RQ9.out).1).trans RQ9.out)
      have FP10 := Lib.hid (FP9.out.keep hb)
      have FQ10 := Lib.hid (FQ9.out.keep hb)
      clear RX9 RA9 RP9 RQ9 FP9 FQ9
      clear hb
      have FV11 := Lib.hid hlv
      clear hlv
      go_wp2_with fail
      refine (open1_any D _ w8 FV11.out HSM.out (HT.out.below HB10.out (Nat.le_refl _))).mono ?_
      rintro e w9 ⟨us7, rfl, hso7, hb⟩
      rw [HE0.out]
      obtain ⟨o_kx, o_tx, o_nx, o_xo, o_xn, o_xc, o_yo, o_yn, o_yc, o_ax, o_po, o_pn, o_pc, o_qo, o_qn, o_qc, rfl⟩ := sx_shapes hso7.lay
      have hly7 := hso7.lay
      have HB12 := Lib.hid (HB10.out.trans (hb.mono HB10.out.size))
      have RX12 := Lib.hid ((hb.block _ (Array.getElem?_eq_some_iff.1 RX10.out).1).trans RX10.out)
      have RA12 := Lib.hid ((hb.block _ (Array.getElem?_eq_some_iff.1 RA10.out).1).trans RA10.out)
      have RP12 := Lib.hid ((hb.block _ (Array.getElem?_eq_some_iff.1 RP10.out).1).trans RP10.out)
      have RQ12 := Lib.hid ((hb.block _ (Array.getElem?_eq_some_iff.1 RQ10.out).1).trans RQ10.out)
      have FP12 := Lib.hid (FP10.out.keep hb)
      have FQ12 := Lib.hid (FQ10.out.keep hb)
      have FV12 := Lib.hid (FV11.out.keep hb)
      clear RX10 RA10 RP10 RQ10 FP10 FQ10 FV11
      clear hb
      clear FV12
      have FO13 := Lib.hid hly7
      clear hly7 hso7
      have hbx := below1 w9 (.cells #[.int .i64 o_kx, .string o_tx, .bool o_nx, .slice o_xo o_xn o_xc, .slice o_yo o_yn o_yc, .int .i64 o_ax, .slice o_po o_pn o_pc, .slice o_qo o_qn o_qc] 35)
      have hnx := heap_alloc_new w9 (.cells #[.int .i64 o_kx, .string o_tx, .bool o_nx, .slice o_xo o_xn o_xc, .slice o_yo o_yn o_yc, .int .i64 o_ax, .slice o_po o_pn o_pc, .slice o_qo o_qn o_qc] 35)
      go_upto_region 8 with fail
      obtain ⟨bkO, hbk⟩ : ∃ b, w9.heap.size = b := ⟨_, rfl⟩
      generalize w9.alloc (.cells #[.int .i64 o_kx, .string o_tx, .bool o_nx, .slice o_xo o_xn o_xc, .slice o_yo o_yn o_yc, .int .i64 o_ax, .slice o_po o_pn o_pc, .slice o_qo o_qn o_qc] 35) = w10 at *
      have HB14 := Lib.hid (HB12.out.trans (hbx.mono HB12.out.size))
      have RX14 := Lib.hid ((hbx.block _ (Array.getElem?_eq_some_iff.1 RX12.out).1).trans RX12.out)
      have RA14 := Lib.hid ((hbx.block _ (Array.getElem?_eq_some_iff.1 RA12.out).1).trans RA12.out)
      have RP14 := Lib.hid ((hbx.block _ (Array.getElem?_eq_some_iff.1 RP12.out).1).trans RP12.out)
      have RQ14 := Lib.hid ((hbx.block _ (Array.getElem?_eq_some_iff.1 RQ12.out).1).trans RQ12.out)
      have FP14 := Lib.hid (FP12.out.keep hbx)
      have FQ14 := Lib.hid (FQ12.out.keep hbx)
      have FO14 := Lib.hid (FO13.out.keep hbx)
      clear RX12 RA12 RP12 RQ12 FP12 FQ12 FO13
      rw [hbk] at hnx ⊢
      have RO14 := Lib.hid hnx
      clear hbx hnx hbk
      obtain ⟨c8_0, c8_1, c8_2, c8_3, c8_4, c8_5, c8_6, c8_7⟩ := rowS8 RX14.out
      go_wp2_with fail
      refine (own_sxK D HSM.out.owk _ w10 (HD.out.keep HB14.out)).mono ?_
      rintro e w11 ⟨vs, rfl, hl, hb⟩
      clear c8_0 c8_1 c8_2 c8_3 c8_4 c8_5 c8_6 c8_7
      have hlv := hl.lay
      clear hl
      have HB15 := Lib.hid (HB14.out.trans (hb.mono HB14.out.size))
      have RX15 := Lib.hid ((hb.block _ (Array.getElem?_eq_some_iff.1 RX14.out).1).trans RX14.out)
      have RA15 := Lib.hid ((hb.block _ (Array.getElem?_eq_some_iff.1 RA14.out).1).trans RA14.out)
      have RP15 := Lib.hid ((hb.block _ (Array.getElem?_eq_some_iff.1 RP14.out).1).trans RP14.out)
      have RQ15 := Lib.hid ((hb.block _ (Array.getElem?_eq_some_iff.1 RQ14.out).1).trans RQ14.out)
      have RO15 := Lib.hid ((hb.block _ (Array.getElem?_eq_some_iff.1 RO14.out).1).trans RO14.out)
      have FP15 := Lib.hid (FP14.out.keep hb)
      have FQ15 := Lib.hid (FQ14.out.keep hb)
      have FO15 := Lib.hid (FO14.out.keep hb)
      clear RX14 RA14 RP14 RQ14 RO14 FP14 FQ14 FO14
      clear hb
      have FV16 := Lib.hid hlv
      clear hlv
      go_wp2_with fail
      refine (flat_any D _ w11 FV16.out HSM.out (HT.out.below HB15.out (Nat.le_refl _))).mono ?_
      rintro e w12 ⟨us7, rfl, hso7, hb⟩
      rw [HE0.out]
      obtain ⟨f_kx, f_tx, f_nx, f_xo, f_xn, f_xc, f_yo, f_yn, f_yc, f_ax, f_po, f_pn, f_pc, f_qo, f_qn, f_qc, rfl⟩ := sx_shapes hso7.lay
      have hly7 := hso7.lay
      have HB17 := Lib.hid (HB15.out.trans (hb.mono HB15.out.size))
      have RX17 := Lib.hid ((hb.block _ (Array.getElem?_eq_some_iff.1 RX15.out).1).trans RX15.out)
      have RA17 := Lib.hid ((hb.block _ (Array.getElem?_eq_some_iff.1 RA15.out).1).trans RA15.out)
      have RP17 := Lib.hid ((hb.block _ (Array.getElem?_eq_some_iff.1 RP15.out).1).trans RP15.out)
      have RQ17 := Lib.hid ((hb.block _ (Array.getElem?_eq_some_iff.1 RQ15.out).1).trans RQ15.out)
      have RO17 := Lib.hid ((hb.block _ (Array.getElem?_eq_some_iff.1 RO15.out).1).trans RO15.out)
      have FP17 := Lib.hid (FP15.out.keep hb)
      have FQ17 := Lib.hid (FQ15.out.keep hb)
      have FO17 := Lib.hid (FO15.out.keep hb)
      have FV17 := Lib.hid (FV16.out.keep hb)
      clear RX15 RA15 RP15 RQ15 RO15 FP15 FQ15 FO15 FV16
      clear hb
      clear FV17
      have FF18 := Lib.hid hly7
      clear hly7 hso7
      have hbx := below1 w12 (.cells #[.int .i64 f_kx, .string f_tx, .bool f_nx, .slice f_xo f_xn f_xc, .slice f_yo f_yn f_yc, .int .i64 f_ax, .slice f_po f_pn f_pc, .slice f_qo f_qn f_qc] 35)
      have hnx := heap_alloc_new w12 (.cells #[.int .i64 f_kx, .string f_tx, .bool f_nx, .slice f_xo f_xn f_xc, .slice f_yo f_yn f_yc, .int .i64 f_ax, .slice f_po f_pn f_pc, .slice f_qo f_qn f_qc] 35)
      go_upto_region 9 with fail
      obtain ⟨bkF, hbk⟩ : ∃ b, w12.heap.size = b := ⟨_, rfl⟩
      generalize w12.alloc (.cells #[.int .i64 f_kx, .string f_tx, .bool f_nx, .slice f_xo f_xn f_xc, .slice f_yo f_yn f_yc, .int .i64 f_ax, .slice f_po f_pn f_pc, .slice f_qo f_qn f_qc] 35) = w13 at *
      have HB19 := Lib.hid (HB17.out.trans (hbx.mono HB17.out.size))
      have RX19 := Lib.hid ((hbx.block _ (Array.getElem?_eq_some_iff.1 RX17.out).1).trans RX17.out)
      have RA19 := Lib.hid ((hbx.block _ (Array.getElem?_eq_some_iff.1 RA17.out).1).trans RA17.out)
      have RP19 := Lib.hid ((hbx.block _ (Array.getElem?_eq_some_iff.1 RP17.out).1).trans RP17.out)
      have RQ19 := Lib.hid ((hbx.block _ (Array.getElem?_eq_some_iff.1 RQ17.out).1).trans RQ17.out)
      have RO19 := Lib.hid ((hbx.block _ (Array.getElem?_eq_some_iff.1 RO17.out).1).trans RO17.out)
      have FP19 := Lib.hid (FP17.out.keep hbx)
      have FQ19 := Lib.hid (FQ17.out.keep hbx)
      have FO19 := Lib.hid (FO17.out.keep hbx)
      have FF19 := Lib.hid (FF18.out.keep hbx)
      clear RX17 RA17 RP17 RQ17 RO17 FP17 FQ17 FO17 FF18
      rw [hbk] at hnx ⊢
      have RF19 := Lib.hid hnx
      clear hbx hnx hbk
      obtain ⟨c9_0, c9_1, c9_2, c9_3, c9_4, c9_5, c9_6, c9_7⟩ := rowS8 RX19.out
      go_wp2_with fail
      refine (rxsound_any D _ w13 (HD.out.keep HB19.out) HSM.out).mono ?_
      rintro e w14 ⟨rfl, hb⟩
      clear c9_0 c9_1 c9_2 c9_3 c9_4 c9_5 c9_6 c9_7
      have HB20 := Lib.hid (HB19.out.trans (hb.mono HB19.out.size))
      have RX20 := Lib.hid ((hb.block _ (Array.getElem?_eq_some_iff.1 RX19.out).1).trans RX19.out)
      have RA20 := Lib.hid ((hb.block _ (Array.getElem?_eq_some_iff.1 RA19.out).1).trans RA19.out)
      have RP20 := Lib.hid ((hb.block _ (Array.getElem?_eq_some_iff.1 RP19.out).1).trans RP19.out)
      have RQ20 := Lib.hid ((hb.block _ (Array.getElem?_eq_some_iff.1 RQ19.out).1).trans RQ19.out)
      have RO20 := Lib.hid ((hb.block _ (Array.getElem?_eq_some_iff.1 RO19.out).1).trans RO19.out)
      have RF20 := Lib.hid ((hb.block _ (Array.getElem?_eq_some_iff.1 RF19.out).1).trans RF19.out)
      have FP20 := Lib.hid (FP19.out.keep hb)
      have FQ20 := Lib.hid (FQ19.out.keep hb)
      have FO20 := Lib.hid (FO19.out.keep hb)
      have FF20 := Lib.hid (FF19.out.keep hb)
      clear RX19 RA19 RP19 RQ19 RO19 RF19 FP19 FQ19 FO19 FF19
      clear hb
      cases hs : sndX D with
      | false =>
        obtain rfl : e0 = 2 := HE0.out.symm.trans (by unfold sndE; rw [if_neg (by rw [hs]; decide)])
        clear hs
        go_wp2_with fail
        go_ret
        exact ⟨rfl, HB20.out⟩
      | true =>
        obtain rfl : e0 = 0 := HE0.out.symm.trans (by unfold sndE; rw [if_pos hs])
        have hr1 : opnR D = opnS D := by unfold opnR; rw [if_pos hs]
        have hr2 : fltR D = fltS [] [] D := by unfold fltR; rw [if_pos hs]
        obtain ⟨c10_0, c10_1, c10_2, c10_3, c10_4, c10_5, c10_6, c10_7⟩ := rowS8 RX20.out
        go_wp2_with fail
        refine (rflat_any D _ w14 (HD.out.keep HB20.out) HSM.out).mono ?_
        rintro e w15 ⟨k_kx, k_tx, k_nx, k_xo, k_xn, k_xc, k_yo, k_yn, k_yc, k_ax, k_po, k_pn, k_pc, k_qo, k_qn, k_qc, rfl, hl7, hb⟩
        clear c10_0 c10_1 c10_2 c10_3 c10_4 c10_5 c10_6 c10_7
        rw [HE0.out]
        have HB21 := Lib.hid (HB20.out.trans (hb.mono HB20.out.size))
        have RX21 := Lib.hid ((hb.block _ (Array.getElem?_eq_some_iff.1 RX20.out).1).trans RX20.out)
        have RA21 := Lib.hid ((hb.block _ (Array.getElem?_eq_some_iff.1 RA20.out).1).trans RA20.out)
        have RP21 := Lib.hid ((hb.block _ (Array.getElem?_eq_some_iff.1 RP20.out).1).trans RP20.out)
        have RQ21 := Lib.hid ((hb.block _ (Array.getElem?_eq_some_iff.1 RQ20.out).1).trans RQ20.out)
        have RO21 := Lib.hid ((hb.block _ (Array.getElem?_eq_some_iff.1 RO20.out).1).trans RO20.out)
        have RF21 := Lib.hid ((hb.block _ (Array.getElem?_eq_some_iff.1 RF20.out).1).trans RF20.out)
        have FP21 := Lib.hid (FP20.out.keep hb)
        have FQ21 := Lib.hid (FQ20.out.keep hb)
        have FO21 := Lib.hid (FO20.out.keep hb)
        have FF21 := Lib.hid (FF20.out.keep hb)
        clear RX20 RA20 RP20 RQ20 RO20 RF20 FP20 FQ20 FO20 FF20
        clear hb
        have FK22 := Lib.hid hl7
        clear hl7
        have hbx := below1 w15 (.cells #[.int .i64 k_kx, .string k_tx, .bool k_nx, .slice k_xo k_xn k_xc, .slice k_yo k_yn k_yc, .int .i64 k_ax, .slice k_po k_pn k_pc, .slice k_qo k_qn k_qc] 35)
        have hnx := heap_alloc_new w15 (.cells #[.int .i64 k_kx, .string k_tx, .bool k_nx, .slice k_xo k_xn k_xc, .slice k_yo k_yn k_yc, .int .i64 k_ax, .slice k_po k_pn k_pc, .slice k_qo k_qn k_qc] 35)
        go_upto_region 12 with fail
        obtain ⟨bkK, hbk⟩ : ∃ b, w15.heap.size = b := ⟨_, rfl⟩
        generalize w15.alloc (.cells #[.int .i64 k_kx, .string k_tx, .bool k_nx, .slice k_xo k_xn k_xc, .slice k_yo k_yn k_yc, .int .i64 k_ax, .slice k_po k_pn k_pc, .slice k_qo k_qn k_qc] 35) = w16 at *
        have HB23 := Lib.hid (HB21.out.trans (hbx.mono HB21.out.size))
        have RX23 := Lib.hid ((hbx.block _ (Array.getElem?_eq_some_iff.1 RX21.out).1).trans RX21.out)
        have RA23 := Lib.hid ((hbx.block _ (Array.getElem?_eq_some_iff.1 RA21.out).1).trans RA21.out)
        have RP23 := Lib.hid ((hbx.block _ (Array.getElem?_eq_some_iff.1 RP21.out).1).trans RP21.out)
        have RQ23 := Lib.hid ((hbx.block _ (Array.getElem?_eq_some_iff.1 RQ21.out).1).trans RQ21.out)
        have RO23 := Lib.hid ((hbx.block _ (Array.getElem?_eq_some_iff.1 RO21.out).1).trans RO21.out)
        have RF23 := Lib.hid ((hbx.block _ (Array.getElem?_eq_some_iff.1 RF21.out).1).trans RF21.out)
        have FP23 := Lib.hid (FP21.out.keep hbx)
        have FQ23 := Lib.hid (FQ21.out.keep hbx)
        have FO23 := Lib.hid (FO21.out.keep hbx)
        have FF23 := Lib.hid (FF21.out.keep hbx)
        have FK23 := Lib.hid (FK22.out.keep hbx)
        clear RX21 RA21 RP21 RQ21 RO21 RF21 FP21 FQ21 FO21 FF21 FK22
        rw [hbk] at hnx ⊢
        have RK23 := Lib.hid hnx
        clear hbx hnx hbk
        have GO := FO23.out
        rw [hr1] at GO
        clear FO23
        have FO24 := Lib.hid GO
        clear GO
        have GF := FF23.out
        rw [hr2] at GF
        clear FF23
        have FF25 := Lib.hid GF
        clear GF
        have GK := FK23.out
        rw [hr2] at GK
        clear FK23
        have FK26 := Lib.hid GK
        clear GK
        clear hr1 hr2 hs
        have HLN := Lib.hid (And.intro (Array.getElem?_eq_some_iff.1 RX23.out).1 (And.intro (Array.getElem?_eq_some_iff.1 RO23.out).1 (And.intro (Array.getElem?_eq_some_iff.1 RF23.out).1 ((Array.getElem?_eq_some_iff.1 RK23.out).1))))
        refine wp_region_slotsG (psi [isV (.int .i64 0), isV (.bool true), isV (.bool true), isV (.int .i64 0), isV (.bool true), isV (.bool true), isV (.bool true), isV (.agg #[.int .i64 o_kx, .string o_tx, .bool o_nx, .slice o_xo o_xn o_xc, .slice o_yo o_yn o_yc, .int .i64 o_ax, .slice o_po o_pn o_pc, .slice o_qo o_qn o_qc]), isV (.agg #[.int .i64 kx, .string tx, .bool nx, .slice xo xn xc, .slice yo yn yc, .int .i64 ax, .slice po pn pc, .slice qo qn qc]), isOx (opnS D), isV (.bool true), isV (.bool true), isV (.bool true), isV (.agg #[.int .i64 f_kx, .string f_tx, .bool f_nx, .slice f_xo f_xn f_xc, .slice f_yo f_yn f_yc, .int .i64 f_ax, .slice f_po f_pn f_pc, .slice f_qo f_qn f_qc]), isV (.agg #[.int .i64 k_kx, .string k_tx, .bool k_nx, .slice k_xo k_xn k_xc, .slice k_yo k_yn k_yc, .int .i64 k_ax, .slice k_po k_pn k_pc, .slice k_qo k_qn k_qc]), isV (.bool true), isV (.bool true), isV (.bool true)]) (fun W => Below w16.heap.size w16 W) (by kernel_rfl) (Below.refl _ _).drew (psi_mono ?_) (by kernel_rfl) (by kernel_rfl) ?_ ?_
        · intro pq hp
          simp only [List.mem_cons, List.not_mem_nil, or_false] at hp
          (repeat' rcases hp with rfl | hp) <;> first | exact isV_stays _ | (subst hp; exact isV_stays _) | exact isOx_stays _ | (subst hp; exact isOx_stays _)
        · refine AllOps.cons ?_ ?_
          · intro ab W hC hB hdep
            refine .inl ⟨rfl, ?_⟩
            have b0 : ab.tmps.getD 10 undef = .int .i64 0 := hB.off 10 (by kernel_rfl)
            clear hB hdep
            refine goes_value (v := .int .i64 0) ?_ hC rfl
            simp only [execOp, Act.eval, b0]
            go_simp
          refine AllOps.cons ?_ ?_
          · intro ab W hC hB hdep
            refine .inl ⟨rfl, ?_⟩
            obtain ⟨x0, (q0 : (isV (.int .i64 0)) x0 W), e0⟩ := hdep 0 90 (by kernel_rfl)
            obtain rfl : x0 = .int .i64 0 := q0
            clear hB hdep
            refine goes_value (v := .bool true) ?_ hC rfl
            simp only [execOp, Act.eval, e0]
            go_simp
          refine AllOps.cons ?_ ?_
          · intro ab W hC hB hdep
            refine .inl ⟨rfl, ?_⟩
            obtain ⟨x0, (q0 : (isV (.bool true)) x0 W), e0⟩ := hdep 1 91 (by kernel_rfl)
            obtain rfl : x0 = .bool true := q0
            clear hB hdep
            refine goes_value (v := .bool true) ?_ hC rfl
            simp only [execOp, Act.eval, e0]
            go_simp
          refine AllOps.cons ?_ ?_
          · intro ab W hC hB hdep
            obtain ⟨xg, (qg : xg = .bool true), eg⟩ := hdep 2 92 (by kernel_rfl)
            subst qg
            refine .inl ⟨((wanted_is (g := 2) (t := 92) (b := true) (c := true) rfl rfl (by rw [hB.size]; exact Nat.le_of_ble_eq_true rfl) eg).trans rfl), ?_⟩
            have b0 : ab.tmps.getD 12 undef = .int .i64 0 := hB.off 12 (by kernel_rfl)
            clear hB hdep
            refine goes_value (v := .int .i64 0) ?_ hC rfl
            simp only [execOp, Act.eval, b0]
            go_simp
          refine AllOps.cons ?_ ?_
          · intro ab W hC hB hdep
            obtain ⟨xg, (qg : xg = .bool true), eg⟩ := hdep 2 92 (by kernel_rfl)
            subst qg
            refine .inl ⟨((wanted_is (g := 2) (t := 92) (b := true) (c := true) rfl rfl (by rw [hB.size]; exact Nat.le_of_ble_eq_true rfl) eg).trans rfl), ?_⟩
            obtain ⟨x0, (q0 : (isV (.int .i64 0)) x0 W), e0⟩ := hdep 3 93 (by kernel_rfl)
            obtain rfl : x0 = .int .i64 0 := q0
            clear hB hdep
            refine goes_value (v := .bool true) ?_ hC rfl
            simp only [execOp, Act.eval, e0]
            go_simp
          refine AllOps.cons ?_ ?_
          · intro ab W hC hB hdep
            refine .inl ⟨rfl, ?_⟩
            obtain ⟨x0, (q0 : (isV (.bool true)) x0 W), e0⟩ := hdep 2 92 (by kernel_rfl)
            obtain rfl : x0 = .bool true := q0
            obtain ⟨x1, (q1 : (isV (.bool true)) x1 W), e1⟩ := hdep 4 94 (by kernel_rfl)
            obtain rfl : x1 = .bool true := q1
            clear hB hdep
            refine goes_value (v := .bool true) ?_ hC rfl
            simp only [execOp, Act.eval, e0, e1]
            go_simp
          refine AllOps.cons ?_ ?_
          · intro ab W hC hB hdep
            refine .inl ⟨rfl, ?_⟩
            obtain ⟨x0, (q0 : (isV (.bool true)) x0 W), e0⟩ := hdep 5 95 (by kernel_rfl)
            obtain rfl : x0 = .bool true := q0
            clear hB hdep
            refine goes_value (v := .bool true) ?_ hC rfl
            simp only [execOp, Act.eval, e0]
            go_simp
          refine AllOps.cons ?_ ?_
          · intro ab W hC hB hdep
            obtain ⟨xg, (qg : xg = .bool true), eg⟩ := hdep 6 96 (by kernel_rfl)
            subst qg
            refine .inl ⟨((wanted_is (g := 6) (t := 96) (b := true) (c := true) rfl rfl (by rw [hB.size]; exact Nat.le_of_ble_eq_true rfl) eg).trans rfl), ?_⟩
            have b0 : ab.tmps.getD 9 undef = .pointer (some ⟨bkO, 0, none⟩) := hB.off 9 (by kernel_rfl)
            obtain ⟨c0, c1, c2, c3, c4, c5, c6, c7⟩ := rowS8 ((hC.block _ HLN.out.2.1).trans RO23.out)
            clear hB hdep
            refine goes_value (v := .agg #[.int .i64 o_kx, .string o_tx, .bool o_nx, .slice o_xo o_xn o_xc, .slice o_yo o_yn o_yc, .int .i64 o_ax, .slice o_po o_pn o_pc, .slice o_qo o_qn o_qc]) ?_ hC rfl
            simp only [execOp, Act.eval, b0]
            go_simp
          refine AllOps.cons ?_ ?_
          · intro ab W hC hB hdep
            obtain ⟨xg, (qg : xg = .bool true), eg⟩ := hdep 6 96 (by kernel_rfl)
            subst qg
            refine .inl ⟨((wanted_is (g := 6) (t := 96) (b := true) (c := true) rfl rfl (by rw [hB.size]; exact Nat.le_of_ble_eq_true rfl) eg).trans rfl), ?_⟩
            have b0 : ab.tmps.getD 2 undef = .pointer (some ⟨w.heap.size, 0, none⟩) := hB.off 2 (by kernel_rfl)
            obtain ⟨c0, c1, c2, c3, c4, c5, c6, c7⟩ := rowS8 ((hC.block _ HLN.out.1).trans RX23.out)
            clear hB hdep
            refine goes_value (v := .agg #[.int .i64 kx, .string tx, .bool nx, .slice xo xn xc, .slice yo yn yc, .int .i64 ax, .slice po pn pc, .slice qo qn qc]) ?_ hC rfl
            simp only [execOp, Act.eval, b0]
            go_simp
          refine AllOps.cons ?_ ?_
          · intro ab W hC hB hdep
            obtain ⟨xg, (qg : xg = .bool true), eg⟩ := hdep 6 96 (by kernel_rfl)
            subst qg
            refine .inl ⟨((wanted_is (g := 6) (t := 96) (b := true) (c := true) rfl rfl (by rw [hB.size]; exact Nat.le_of_ble_eq_true rfl) eg).trans rfl), ?_⟩
            obtain ⟨x0, (q0 : (isV (.agg #[.int .i64 kx, .string tx, .bool nx, .slice xo xn xc, .slice yo yn yc, .int .i64 ax, .slice po pn pc, .slice qo qn qc])) x0 W), e0⟩ := hdep 8 98 (by kernel_rfl)
            obtain rfl : x0 = .agg #[.int .i64 kx, .string tx, .bool nx, .slice xo xn xc, .slice yo yn yc, .int .i64 ax, .slice po pn pc, .slice qo qn qc] := q0
            clear hB hdep
            refine goes_call (f := 30) (args := #[.agg #[.int .i64 kx, .string tx, .bool nx, .slice xo xn xc, .slice yo yn yc, .int .i64 ax, .slice po pn pc, .slice qo qn qc]]) ?_ ?_
            · simp only [execOp]
              go_simp
            · exact (ropen_any D _ W (HD.out.keep (HB23.out.trans (hC.mono HB23.out.size))) HSM.out).mono fun e w7 ⟨_, _, _, _, _, _, _, _, _, _, _, _, _, _, _, _, he, hl, hb⟩ => ⟨_, he, hC.trans (hb.mono hC.size), hb, ⟨_, rfl, hl⟩⟩
          refine AllOps.cons ?_ ?_
          · intro ab W hC hB hdep
            obtain ⟨xg, (qg : xg = .bool true), eg⟩ := hdep 6 96 (by kernel_rfl)
            subst qg
            refine .inl ⟨((wanted_is (g := 6) (t := 96) (b := true) (c := true) rfl rfl (by rw [hB.size]; exact Nat.le_of_ble_eq_true rfl) eg).trans rfl), ?_⟩
            obtain ⟨x0, (q0 : (isV (.agg #[.int .i64 o_kx, .string o_tx, .bool o_nx, .slice o_xo o_xn o_xc, .slice o_yo o_yn o_yc, .int .i64 o_ax, .slice o_po o_pn o_pc, .slice o_qo o_qn o_qc])) x0 W), e0⟩ := hdep 7 97 (by kernel_rfl)
            obtain rfl : x0 = .agg #[.int .i64 o_kx, .string o_tx, .bool o_nx, .slice o_xo o_xn o_xc, .slice o_yo o_yn o_yc, .int .i64 o_ax, .slice o_po o_pn o_pc, .slice o_qo o_qn o_qc] := q0
            obtain ⟨x1, (q1 : (isOx (opnS D)) x1 W), e1⟩ := hdep 9 99 (by kernel_rfl)
            skip
            clear hB hdep
            refine goes_call (f := 21) (args := #[.agg #[.int .i64 o_kx, .string o_tx, .bool o_nx, .slice o_xo o_xn o_xc, .slice o_yo o_yn o_yc, .int .i64 o_ax, .slice o_po o_pn o_pc, .slice o_qo o_qn o_qc], x1]) ?_ ?_
            · simp only [execOp]
              go_simp
            · obtain ⟨ub, rfl, hlb⟩ := q1
              exact (exact_sx 100 (opnS D) (opnS D) (opn_light HLX.out) _ ub W (FO24.out.keep hC) hlb).mono fun e w7 ⟨he, hb⟩ => ⟨_, he, hC.trans (hb.mono hC.size), hb, by show Value.bool _ = _; rw [opn_same HLX.out]⟩
          refine AllOps.cons ?_ ?_
          · intro ab W hC hB hdep
            refine .inl ⟨rfl, ?_⟩
            obtain ⟨x0, (q0 : (isV (.bool true)) x0 W), e0⟩ := hdep 6 96 (by kernel_rfl)
            obtain rfl : x0 = .bool true := q0
            obtain ⟨x1, (q1 : (isV (.bool true)) x1 W), e1⟩ := hdep 10 100 (by kernel_rfl)
            obtain rfl : x1 = .bool true := q1
            clear hB hdep
            refine goes_value (v := .bool true) ?_ hC rfl
            simp only [execOp, Act.eval, e0, e1]
            go_simp
          refine AllOps.cons ?_ ?_
          · intro ab W hC hB hdep
            refine .inl ⟨rfl, ?_⟩
            obtain ⟨x0, (q0 : (isV (.bool true)) x0 W), e0⟩ := hdep 11 101 (by kernel_rfl)
            obtain rfl : x0 = .bool true := q0
            clear hB hdep
            refine goes_value (v := .bool true) ?_ hC rfl
            simp only [execOp, Act.eval, e0]
            go_simp
          refine AllOps.cons ?_ ?_
          · intro ab W hC hB hdep
            obtain ⟨xg, (qg : xg = .bool true), eg⟩ := hdep 12 102 (by kernel_rfl)
            subst qg
            refine .inl ⟨((wanted_is (g := 12) (t := 102) (b := true) (c := true) rfl rfl (by rw [hB.size]; exact Nat.le_of_ble_eq_true rfl) eg).trans rfl), ?_⟩
            have b0 : ab.tmps.getD 11 undef = .pointer (some ⟨bkF, 0, none⟩) := hB.off 11 (by kernel_rfl)
            obtain ⟨c0, c1, c2, c3, c4, c5, c6, c7⟩ := rowS8 ((hC.block _ HLN.out.2.2.1).trans RF23.out)
            clear hB hdep
            refine goes_value (v := .agg #[.int .i64 f_kx, .string f_tx, .bool f_nx, .slice f_xo f_xn f_xc, .slice f_yo f_yn f_yc, .int .i64 f_ax, .slice f_po f_pn f_pc, .slice f_qo f_qn f_qc]) ?_ hC rfl
            simp only [execOp, Act.eval, b0]
            go_simp
          refine AllOps.cons ?_ ?_
          · intro ab W hC hB hdep
            obtain ⟨xg, (qg : xg = .bool true), eg⟩ := hdep 12 102 (by kernel_rfl)
            subst qg
            refine .inl ⟨((wanted_is (g := 12) (t := 102) (b := true) (c := true) rfl rfl (by rw [hB.size]; exact Nat.le_of_ble_eq_true rfl) eg).trans rfl), ?_⟩
            have b0 : ab.tmps.getD 13 undef = .pointer (some ⟨bkK, 0, none⟩) := hB.off 13 (by kernel_rfl)
            obtain ⟨c0, c1, c2, c3, c4, c5, c6, c7⟩ := rowS8 ((hC.block _ HLN.out.2.2.2).trans RK23.out)
            clear hB hdep
            refine goes_value (v := .agg #[.int .i64 k_kx, .string k_tx, .bool k_nx, .slice k_xo k_xn k_xc, .slice k_yo k_yn k_yc, .int .i64 k_ax, .slice k_po k_pn k_pc, .slice k_qo k_qn k_qc]) ?_ hC rfl
            simp only [execOp, Act.eval, b0]
            go_simp
          refine AllOps.cons ?_ ?_
          · intro ab W hC hB hdep
            obtain ⟨xg, (qg : xg = .bool true), eg⟩ := hdep 12 102 (by kernel_rfl)
            subst qg
            refine .inl ⟨((wanted_is (g := 12) (t := 102) (b := true) (c := true) rfl rfl (by rw [hB.size]; exact Nat.le_of_ble_eq_true rfl) eg).trans rfl), ?_⟩
            obtain ⟨x0, (q0 : (isV (.agg #[.int .i64 f_kx, .string f_tx, .bool f_nx, .slice f_xo f_xn f_xc, .slice f_yo f_yn f_yc, .int .i64 f_ax, .slice f_po f_pn f_pc, .slice f_qo f_qn f_qc])) x0 W), e0⟩ := hdep 13 103 (by kernel_rfl)
            obtain rfl : x0 = .agg #[.int .i64 f_kx, .string f_tx, .bool f_nx, .slice f_xo f_xn f_xc, .slice f_yo f_yn f_yc, .int .i64 f_ax, .slice f_po f_pn f_pc, .slice f_qo f_qn f_qc] := q0
            obtain ⟨x1, (q1 : (isV (.agg #[.int .i64 k_kx, .string k_tx, .bool k_nx, .slice k_xo k_xn k_xc, .slice k_yo k_yn k_yc, .int .i64 k_ax, .slice k_po k_pn k_pc, .slice k_qo k_qn k_qc])) x1 W), e1⟩ := hdep 14 104 (by kernel_rfl)
            obtain rfl : x1 = .agg #[.int .i64 k_kx, .string k_tx, .bool k_nx, .slice k_xo k_xn k_xc, .slice k_yo k_yn k_yc, .int .i64 k_ax, .slice k_po k_pn k_pc, .slice k_qo k_qn k_qc] := q1
            clear hB hdep
            refine goes_call (f := 21) (args := #[.agg #[.int .i64 f_kx, .string f_tx, .bool f_nx, .slice f_xo f_xn f_xc, .slice f_yo f_yn f_yc, .int .i64 f_ax, .slice f_po f_pn f_pc, .slice f_qo f_qn f_qc], .agg #[.int .i64 k_kx, .string k_tx, .bool k_nx, .slice k_xo k_xn k_xc, .slice k_yo k_yn k_yc, .int .i64 k_ax, .slice k_po k_pn k_pc, .slice k_qo k_qn k_qc]]) ?_ ?_
            · simp only [execOp]
              go_simp
            · exact (exact_sx 100 (fltS [] [] D) (fltS [] [] D) (flt_light HLX.out _ _) _ _ W (FF25.out.keep hC) (FK26.out.keep hC)).mono fun e w7 ⟨he, hb⟩ => ⟨_, he, hC.trans (hb.mono hC.size), hb, by show Value.bool _ = _; rw [flt_same HLX.out]⟩
          refine AllOps.cons ?_ ?_
          · intro ab W hC hB hdep
            refine .inl ⟨rfl, ?_⟩
            obtain ⟨x0, (q0 : (isV (.bool true)) x0 W), e0⟩ := hdep 12 102 (by kernel_rfl)
            obtain rfl : x0 = .bool true := q0
            obtain ⟨x1, (q1 : (isV (.bool true)) x1 W), e1⟩ := hdep 15 105 (by kernel_rfl)
            obtain rfl : x1 = .bool true := q1
            clear hB hdep
            refine goes_value (v := .bool true) ?_ hC rfl
            simp only [execOp, Act.eval, e0, e1]
            go_simp
          refine AllOps.cons ?_ ?_
          · intro ab W hC hB hdep
            refine .inl ⟨rfl, ?_⟩
            obtain ⟨x0, (q0 : (isV (.bool true)) x0 W), e0⟩ := hdep 16 106 (by kernel_rfl)
            obtain rfl : x0 = .bool true := q0
            clear hB hdep
            refine goes_value (v := .bool true) ?_ hC rfl
            simp only [execOp, Act.eval, e0]
            go_simp
          exact trivial
        · intro aa wC hC hB hall
          obtain ⟨v0, (k0 : v0 = .int .i64 0), e0⟩ := hall 0 _ rfl
          obtain ⟨v1, (k1 : v1 = .bool true), e1⟩ := hall 1 _ rfl
          obtain ⟨v2, (k2 : v2 = .bool true), e2⟩ := hall 2 _ rfl
          obtain ⟨v3, (k3 : v3 = .int .i64 0), e3⟩ := hall 3 _ rfl
          obtain ⟨v4, (k4 : v4 = .bool true), e4⟩ := hall 4 _ rfl
          obtain ⟨v5, (k5 : v5 = .bool true), e5⟩ := hall 5 _ rfl
          obtain ⟨v6, (k6 : v6 = .bool true), e6⟩ := hall 6 _ rfl
          obtain ⟨v7, (k7 : v7 = .agg #[.int .i64 o_kx, .string o_tx, .bool o_nx, .slice o_xo o_xn o_xc, .slice o_yo o_yn o_yc, .int .i64 o_ax, .slice o_po o_pn o_pc, .slice o_qo o_qn o_qc]), e7⟩ := hall 7 _ rfl
          obtain ⟨v8, (k8 : v8 = .agg #[.int .i64 kx, .string tx, .bool nx, .slice xo xn xc, .slice yo yn yc, .int .i64 ax, .slice po pn pc, .slice qo qn qc]), e8⟩ := hall 8 _ rfl
          obtain ⟨v9, (k9 : (isOx (opnS D)) v9 wC), e9⟩ := hall 9 _ rfl
          obtain ⟨v10, (k10 : v10 = .bool true), e10⟩ := hall 10 _ rfl
          obtain ⟨v11, (k11 : v11 = .bool true), e11⟩ := hall 11 _ rfl
          obtain ⟨v12, (k12 : v12 = .bool true), e12⟩ := hall 12 _ rfl
          obtain ⟨v13, (k13 : v13 = .agg #[.int .i64 f_kx, .string f_tx, .bool f_nx, .slice f_xo f_xn f_xc, .slice f_yo f_yn f_yc, .int .i64 f_ax, .slice f_po f_pn f_pc, .slice f_qo f_qn f_qc]), e13⟩ := hall 13 _ rfl
          obtain ⟨v14, (k14 : v14 = .agg #[.int .i64 k_kx, .string k_tx, .bool k_nx, .slice k_xo k_xn k_xc, .slice k_yo k_yn k_yc, .int .i64 k_ax, .slice k_po k_pn k_pc, .slice k_qo k_qn k_qc]), e14⟩ := hall 14 _ rfl
          obtain ⟨v15, (k15 : v15 = .bool true), e15⟩ := hall 15 _ rfl
          obtain ⟨v16, (k16 : v16 = .bool true), e16⟩ := hall 16 _ rfl
          obtain ⟨v17, (k17 : v17 = .bool true), e17⟩ := hall 17 _ rfl
          subst k0 k1 k2 k3 k4 k5 k6 k7 k8 k10 k11 k12 k13 k14 k15 k16 k17
          have hv : ∀ pq ∈ [((90 : Nat), (.int .i64 0 : Value)), ((91 : Nat), (.bool true : Value)), ((92 : Nat), (.bool true : Value)), ((93 : Nat), (.int .i64 0 : Value)), ((94 : Nat), (.bool true : Value)), ((95 : Nat), (.bool true : Value)), ((96 : Nat), (.bool true : Value)), ((97 : Nat), (.agg #[.int .i64 o_kx, .string o_tx, .bool o_nx, .slice o_xo o_xn o_xc, .slice o_yo o_yn o_yc, .int .i64 o_ax, .slice o_po o_pn o_pc, .slice o_qo o_qn o_qc] : Value)), ((98 : Nat), (.agg #[.int .i64 kx, .string tx, .bool nx, .slice xo xn xc, .slice yo yn yc, .int .i64 ax, .slice po pn pc, .slice qo qn qc] : Value)), ((99 : Nat), (v9 : Value)), ((100 : Nat), (.bool true : Value)), ((101 : Nat), (.bool true : Value)), ((102 : Nat), (.bool true : Value)), ((103 : Nat), (.agg #[.int .i64 f_kx, .string f_tx, .bool f_nx, .slice f_xo f_xn f_xc, .slice f_yo f_yn f_yc, .int .i64 f_ax, .slice f_po f_pn f_pc, .slice f_qo f_qn f_qc] : Value)), ((104 : Nat), (.agg #[.int .i64 k_kx, .string k_tx, .bool k_nx, .slice k_xo k_xn k_xc, .slice k_yo k_yn k_yc, .int .i64 k_ax, .slice k_po k_pn k_pc, .slice k_qo k_qn k_qc] : Value)), ((105 : Nat), (.bool true : Value)), ((106 : Nat), (.bool true : Value)), ((4 : Nat), (.bool true : Value))], aa.tmps.getD pq.1 undef = pq.2 := by
            intro pq hp
            simp only [List.mem_cons, List.not_mem_nil, or_false] at hp
            rcases hp with rfl | rfl | rfl | rfl | rfl | rfl | rfl | rfl | rfl | rfl | rfl | rfl | rfl | rfl | rfl | rfl | rfl | rfl
            · exact e0 _ rfl
            · exact e1 _ rfl
            · exact e2 _ rfl
            · exact e3 _ rfl
            · exact e4 _ rfl
            · exact e5 _ rfl
            · exact e6 _ rfl
            · exact e7 _ rfl
            · exact e8 _ rfl
            · exact e9 _ rfl
            · exact e10 _ rfl
            · exact e11 _ rfl
            · exact e12 _ rfl
            · exact e13 _ rfl
            · exact e14 _ rfl
            · exact e15 _ rfl
            · exact e16 _ rfl
            · exact e17 _ rfl
          have hact := act_fold _ hB hv (by kernel_rfl)
          subst hact
          clear hv hall hB e0 e1 e2 e3 e4 e5 e6 e7 e8 e9 e10 e11 e12 e13 e14 e15 e16 e17
          refine (‹∀ (a : Act) (w : World), Code.wp Tryz.prog _ _ a w → _›) _ wC ?_
          simp only [List.foldl, List.setIfInBounds_toArray, List.set_cons_succ, List.set_cons_zero]
          clear HLN k9
          have HB27 := Lib.hid (HB23.out.trans (hC.mono HB23.out.size))
          have RX27 := Lib.hid ((hC.block _ (Array.getElem?_eq_some_iff.1 RX23.out).1).trans RX23.out)
          have RA27 := Lib.hid ((hC.block _ (Array.getElem?_eq_some_iff.1 RA23.out).1).trans RA23.out)
          have RP27 := Lib.hid ((hC.block _ (Array.getElem?_eq_some_iff.1 RP23.out).1).trans RP23.out)
          have RQ27 := Lib.hid ((hC.block _ (Array.getElem?_eq_some_iff.1 RQ23.out).1).trans RQ23.out)
          have RO27 := Lib.hid ((hC.block _ (Array.getElem?_eq_some_iff.1 RO23.out).1).trans RO23.out)
          have RF27 := Lib.hid ((hC.block _ (Array.getElem?_eq_some_iff.1 RF23.out).1).trans RF23.out)
          have RK27 := Lib.hid ((hC.block _ (Array.getElem?_eq_some_iff.1 RK23.out).1).trans RK23.out)
          have FP27 := Lib.hid (FP23.out.keep hC)
          have FQ27 := Lib.hid (FQ23.out.keep hC)
          have FO27 := Lib.hid (FO24.out.keep hC)
          have FF27 := Lib.hid (FF25.out.keep hC)
          have FK27 := Lib.hid (FK26.out.keep hC)
          clear RX23 RA23 RP23 RQ23 RO23 RF23 RK23 FP23 FQ23 FO24 FF25 FK26
          clear hC
          go_wp2_with fail
          go_ret
          exact ⟨rfl, HB27.out⟩
end Go.Proofs.YtbfcbicbeagjkaaGreatDoor
