/- StxLazy: to push two wraps, and to open, in any order, means the same as to push their join. Of any piece and wraps. -/
import Derived.Test.YtbfcbicbeagjkaaGreatDoorSxReg
import Derived.Test.YtbfcbicbeagjkaaGreatDoorSxAlk
import Derived.Test.YtbfcbicbeagjkaaGreatDoorSxPure2
import Derived.Test.YtbfcbicbeagjkaaGreatDoorSxStr
import Derived.Test.YtbfcbicbeagjkaaGreatDoorSxOf
namespace Go.Proofs.YtbfcbicbeagjkaaGreatDoor
open Go.RowKit

theorem lazy_same {ma sa mb sb : List Int} {D : Sx} (op : Bool) (hj : (wjA ma sa mb sb).2.2 = 0) (hb : mb ≠ []) (hm : ∀ j, j < mb.length → gz mb j ≠ -1) (h1 : pshE mb sb D = 0) (h2 : pshE ma sa (if op then opnR (pshR mb sb D) else pshR mb sb D) = 0) (h3 : pshE (wjA ma sa mb sb).1 (wjA ma sa mb sb).2.1 D = 0) :
    samX (pshR ma sa (if op then opnR (pshR mb sb D) else pshR mb sb D)) (pshR (wjA ma sa mb sb).1 (wjA ma sa mb sb).2.1 D) = true := by
  have hp : 0 < gz mb 0 := by
    have hl := List.length_pos_iff.2 hb
    have := mksB_at (sndW_mks (wjA_sound hj).2.2) hl
    have h0 := hm 0 hl
    unfold markB at this
    simp at this
    omega
  have p1 := psh_snd h1
  have p2 := psh_snd h2
  have p3 := psh_snd h3
  rw [pshR_ok h2, pshR_ok h3]
  unfold samX
  rw [p2.2.2.2, p3.2.2.2, Bool.true_and, Bool.true_and]
  refine mean_of p2.2.2.2 ?_
  rw [pshR_ok h1] at p2 ⊢
  cases op with
  | false =>
    simp only [Bool.false_eq_true, if_false] at p2 ⊢
    rw [psh_psh hj p1.2.1 hp]
  | true =>
    simp only [if_true] at p2 ⊢
    have ho : opnR (pshS mb sb D) = opnS (pshS mb sb D) := by unfold opnR; rw [if_pos p1.2.2.2]
    rw [ho] at p2 ⊢
    exact lazy_open hj hb hp p1.2.1 p1.2.2.1 p2.2.1 p2.2.2.1 p3.2.1 p3.2.2.1
theorem WrO.put8 {B : Nat} {W W' : World} {v : Value} {m s : List Int} (h : WrO B W v m s) {g : Nat} {cs : Array Value} (hg : W.heap[g]? = some (.cells cs 35 (0, 0))) (hk : Keeps (fun b => b ≠ g) W W') : WrO B W' v m s := by
  obtain ⟨mv, sv, rfl, h1, h2⟩ := h.own
  exact .of (ownsRow_keep h1 hk fun b hb => own_farT h1 hg (by decide) b hb) (ownsRow_keep h2 hk fun b hb => own_farT h2 hg (by decide) b hb)
theorem ne_int {z k : Int} (h : ¬ z = k) : (z != k) = true ∧ (z == k) = false := by
  constructor
  · rw [bne_iff_ne]; exact h
  · rw [beq_eq_false_iff_ne]; exact h

set_option maxRecDepth 100000 in
set_option maxHeartbeats 16000000 in
theorem stxlazy_any (D : Sx) (us : List Value) (x y : Value) (ma sa mb sb : List Int) (op : Bool) (w : World) (hd : SLay w D us) (hsm : SmS 1100000 D) (hx : Wr w x ma sa) (hy : Wr w y mb sb) (ht : Tabs w) :
    Calls Tryz.prog 6 #[.agg us.toArray, x, y, .bool op] w fun e w' => e = .returned (.bool true) ∧ Below w.heap.size w w' := by
  have HD := Lib.hid hd
  have HSM := Lib.hid hsm
  have HT := Lib.hid ht
  have HX := Lib.hid hx
  have HY := Lib.hid hy
  obtain ⟨kx, tx, nx, xo, xn, xc, yo, yn, yc, ax, po, pn, pc, qo, qn, qc, rfl⟩ := sx_shapes hd
  obtain ⟨wm, ws, rfl, hwm, hws⟩ := hx.cells
  obtain ⟨_, amo, amc, rfl, _, _⟩ := hwm.cases
  obtain ⟨_, aso, asc, rfl, _, _⟩ := hws.cases
  obtain ⟨wm', ws', rfl, hwm', hws'⟩ := hy.cells
  obtain ⟨_, bmo, bmc, rfl, _, _⟩ := hwm'.cases
  obtain ⟨_, bso, bsc, rfl, _, _⟩ := hws'.cases
  have hmx : mb.length ≤ 9223372036854775807 := by have := hwm'.cases.1; unfold maxLen at this; omega
  have HMX := Lib.hid hmx
  clear hd hsm ht hx hy hwm hws hwm' hws' hmx
  have hb := below3 w (.cells #[.int .i64 kx, .string tx, .bool nx, .slice xo xn xc, .slice yo yn yc, .int .i64 ax, .slice po pn pc, .slice qo qn qc] 35) (.cells #[.slice amo ma.length amc, .slice aso sa.length asc] 30) (.cells #[.slice bmo mb.length bmc, .slice bso sb.length bsc] 30)
  have hn := @newsp3 w (.cells #[.int .i64 kx, .string tx, .bool nx, .slice xo xn xc, .slice yo yn yc, .int .i64 ax, .slice po pn pc, .slice qo qn qc] 35) (.cells #[.slice amo ma.length amc, .slice aso sa.length asc] 30) (.cells #[.slice bmo mb.length bmc, .slice bso sb.length bsc] 30)
  show Calls Tryz.prog 6 #[.agg #[.int .i64 kx, .string tx, .bool nx, .slice xo xn xc, .slice yo yn yc, .int .i64 ax, .slice po pn pc, .slice qo qn qc], .agg #[.slice amo ma.length amc, .slice aso sa.length asc], .agg #[.slice bmo mb.length bmc, .slice bso sb.length bsc], .bool op] w _
  go_enter Tryz.func6, Tryz.ntmps6
  go_upto_region 1 with fail
  generalize ((w.alloc (.cells #[.int .i64 kx, .string tx, .bool nx, .slice xo xn xc, .slice yo yn yc, .int .i64 ax, .slice po pn pc, .slice qo qn qc] 35)).alloc (.cells #[.slice amo ma.length amc, .slice aso sa.length asc] 30)).alloc (.cells #[.slice bmo mb.length bmc, .slice bso sb.length bsc] 30) = w1 at *
  have HB0 := Lib.hid hb
  have RX0 := Lib.hid hn.1
  have RA0 := Lib.hid hn.2.1
  have RB0 := Lib.hid hn.2.2
  clear hb hn
  go_wp2_with fail
  refine (answers10_any w1 (HT.out.below HB0.out (Nat.le_refl _))).mono ?_
  rintro e w2 ⟨rfl, hb⟩
  have HB1 := Lib.hid (HB0.out.trans (hb.mono HB0.out.size))
  have RX1 := Lib.hid ((hb.block _ (Array.getElem?_eq_some_iff.1 RX0.out).1).trans RX0.out)
  have RA1 := Lib.hid ((hb.block _ (Array.getElem?_eq_some_iff.1 RA0.out).1).trans RA0.out)
  have RB1 := Lib.hid ((hb.block _ (Array.getElem?_eq_some_iff.1 RB0.out).1).trans RB0.out)
  clear RX0 RA0 RB0
  clear hb
  obtain ⟨c1_0, c1_1, c1_2, c1_3, c1_4, c1_5, c1_6, c1_7⟩ := rowS8 RX1.out
  go_wp2_with fail
  refine (light_sx 100 D _ w2 1 (by omega) (by omega) (HD.out.keep HB1.out)).mono ?_
  rintro e w3 ⟨rfl, hb⟩
  clear c1_0 c1_1 c1_2 c1_3 c1_4 c1_5 c1_6 c1_7
  have HB2 := Lib.hid (HB1.out.trans (hb.mono HB1.out.size))
  have RX2 := Lib.hid ((hb.block _ (Array.getElem?_eq_some_iff.1 RX1.out).1).trans RX1.out)
  have RA2 := Lib.hid ((hb.block _ (Array.getElem?_eq_some_iff.1 RA1.out).1).trans RA1.out)
  have RB2 := Lib.hid ((hb.block _ (Array.getElem?_eq_some_iff.1 RB1.out).1).trans RB1.out)
  clear RX1 RA1 RB1
  clear hb
  obtain ⟨l0, HL0⟩ : ∃ b, Hid (lightS 100 D = b) := ⟨_, Lib.hid rfl⟩
  rw [HL0.out]
  cases l0 with
  | false =>
    go_wp2_with fail
    refine (answers10_any w3 (HT.out.below HB2.out (Nat.le_refl _))).mono ?_
    rintro e wz ⟨rfl, hbz⟩
    have HBZ := Lib.hid (HB2.out.trans (hbz.mono HB2.out.size))
    clear hbz
    go_wp2_with fail
    go_ret
    exact ⟨rfl, HBZ.out⟩
  | true =>
    obtain ⟨c2_0, c2_1, c2_2, c2_3, c2_4, c2_5, c2_6, c2_7⟩ := rowS8 RX2.out
    go_wp2_with fail
    refine (rxsound_any D _ w3 (HD.out.keep HB2.out) HSM.out).mono ?_
    rintro e w4 ⟨rfl, hb⟩
    clear c2_0 c2_1 c2_2 c2_3 c2_4 c2_5 c2_6 c2_7
    have HB3 := Lib.hid (HB2.out.trans (hb.mono HB2.out.size))
    have RX3 := Lib.hid ((hb.block _ (Array.getElem?_eq_some_iff.1 RX2.out).1).trans RX2.out)
    have RA3 := Lib.hid ((hb.block _ (Array.getElem?_eq_some_iff.1 RA2.out).1).trans RA2.out)
    have RB3 := Lib.hid ((hb.block _ (Array.getElem?_eq_some_iff.1 RB2.out).1).trans RB2.out)
    clear RX2 RA2 RB2
    clear hb
    obtain ⟨d0, HS0⟩ : ∃ b, Hid (sndX D = b) := ⟨_, Lib.hid rfl⟩
    rw [HS0.out]
    cases d0 with
    | false =>
      go_wp2_with fail
      refine (answers10_any w4 (HT.out.below HB3.out (Nat.le_refl _))).mono ?_
      rintro e wz ⟨rfl, hbz⟩
      have HBZ := Lib.hid (HB3.out.trans (hbz.mono HB3.out.size))
      clear hbz
      go_wp2_with fail
      go_ret
      exact ⟨rfl, HBZ.out⟩
    | true =>
      by_cases hlen : sa.length ≤ 60 ∧ sb.length ≤ 60 ∧ ma.length ≤ 60 ∧ mb.length ≤ 60
      case neg =>
        have h4 : 60 < sa.length ∨ (sa.length ≤ 60 ∧ 60 < sb.length) ∨ (sa.length ≤ 60 ∧ sb.length ≤ 60 ∧ 60 < ma.length) ∨ (sa.length ≤ 60 ∧ sb.length ≤ 60 ∧ ma.length ≤ 60 ∧ 60 < mb.length) := by omega
        clear hlen
        rcases h4 with h4 | ⟨h4, h5⟩ | ⟨h4, h5, h6⟩ | ⟨h4, h5, h6, h7⟩
        all_goals
          obtain ⟨c3_0, c3_1, _, _⟩ := rowp2d RA3.out
          obtain ⟨c4_0, c4_1, _, _⟩ := rowp2d RB3.out
          go_wp2_with fail
          clear c3_0 c3_1 c4_0 c4_1
          refine (answers10_any w4 (HT.out.below HB3.out (Nat.le_refl _))).mono ?_
          rintro e wz ⟨rfl, hbz⟩
          have HBZ := Lib.hid (HB3.out.trans (hbz.mono HB3.out.size))
          clear hbz
          go_wp2_with fail
          go_ret
          exact ⟨rfl, HBZ.out⟩
      obtain ⟨h4, h5, h6, h7⟩ := hlen
      obtain ⟨c3_0, c3_1, _, _⟩ := rowp2d RA3.out
      obtain ⟨c4_0, c4_1, _, _⟩ := rowp2d RB3.out
      go_wp2_with fail
      clear c3_0 c3_1 c4_0 c4_1
      clear h4 h5 h6 h7
      go_loopw [9] (fun v wr => ∃ i : Nat, v = .int .i64 (i : Nat) ∧ i ≤ mb.length ∧ (∀ j, j < i → gz mb j ≠ -1) ∧ Below w4.heap.size w4 wr) (fun v _ => mb.length - (intOf v).toNat)
      case atStart => exact ⟨0, rfl, Nat.zero_le _, fun j h => by omega, Below.refl _ _⟩
      case round =>
        obtain ⟨i, rfl, hi, hall, hb⟩ := hrel
        have hmx := HMX.out
        have HALL := Lib.hid hall
        clear hall
        have HBL := Lib.hid hb
        have HB4 := Lib.hid (HB3.out.trans (hb.mono HB3.out.size))
        have RX4 := Lib.hid ((hb.block _ (Array.getElem?_eq_some_iff.1 RX3.out).1).trans RX3.out)
        have RA4 := Lib.hid ((hb.block _ (Array.getElem?_eq_some_iff.1 RA3.out).1).trans RA3.out)
        have RB4 := Lib.hid ((hb.block _ (Array.getElem?_eq_some_iff.1 RB3.out).1).trans RB3.out)
        clear RX3 RA3 RB3
        clear hb
        obtain ⟨c5_0, c5_1, _, _⟩ := rowp2d RB4.out
        by_cases hil : i < mb.length
        · have hii : ((i : Nat) : Int) < ((mb.length : Nat) : Int) := by omega
          obtain ⟨mv9, sv9, he9, hm9, _⟩ := (HY.out.below HB4.out).cells
          simp only [Value.agg.injEq, Array.mk.injEq, List.cons.injEq, and_true] at he9
          obtain ⟨rfl, rfl⟩ := he9
          obtain ⟨_, ao9, cap9, hv9, _, hc9⟩ := hm9.read
          simp only [Value.slice.injEq, true_and] at hv9
          obtain ⟨rfl, rfl⟩ := hv9
          obtain ⟨b9, off9, rfl, _, hcell⟩ := hc9 i hil
          obtain ⟨z, hz⟩ : ∃ z, gz mb i = z := ⟨_, rfl⟩
          rw [hz] at hcell
          have HZ := Lib.hid hz
          clear hz hc9 hm9
          by_cases hm1 : z = -1
          · subst hm1
            go_wp2_with fail
            go_ret
            exact ⟨rfl, HB4.out⟩
          · obtain ⟨hq1, hq2⟩ := ne_int hm1
            have HM1 := Lib.hid hm1
            go_wp2_with fail
            go_roundw
            case measure => simp only [intOf]; omega
            case rel =>
              refine ⟨i + 1, by go_num, by omega, fun j hj => ?_, (show Below w4.heap.size w4 wr from HBL.out)⟩
              rcases Nat.lt_or_eq_of_le (Nat.le_of_lt_succ hj) with h2 | h2
              · exact HALL.out j h2
              · subst h2; rw [HZ.out]; exact HM1.out
        · obtain rfl : i = mb.length := by omega
          obtain ⟨c6_0, c6_1, _, _⟩ := rowp2d RA4.out
          go_wp2_with fail
          refine (wjoinO_any _ _ ma sa mb sb wr (HX.out.below HB4.out) (HY.out.below HB4.out)).mono ?_
          rintro e w5 ⟨⟨xj, rfl, hj⟩, hb⟩
          clear c5_0 c5_1 c6_0 c6_1
          obtain ⟨J, HJ⟩ : ∃ J, Hid (wjA ma sa mb sb = J) := ⟨_, Lib.hid rfl⟩
          rw [HJ.out] at hj ⊢
          obtain ⟨jm, js, rfl, hjm, hjs⟩ := hj.own
          obtain ⟨jmo, jmc, rfl⟩ := own_dslice hjm
          obtain ⟨jso, jsc, rfl⟩ := own_dslice hjs
          clear hjm hjs
          have HB5 := Lib.hid (HB4.out.trans (hb.mono HB4.out.size))
          have RX5 := Lib.hid ((hb.block _ (Array.getElem?_eq_some_iff.1 RX4.out).1).trans RX4.out)
          have RA5 := Lib.hid ((hb.block _ (Array.getElem?_eq_some_iff.1 RA4.out).1).trans RA4.out)
          have RB5 := Lib.hid ((hb.block _ (Array.getElem?_eq_some_iff.1 RB4.out).1).trans RB4.out)
          clear RX4 RA4 RB4
          clear hb
          have FJ6 := Lib.hid hj
          clear hj
          have hbx := below1 w5 (.cells #[.slice jmo J.1.length jmc, .slice jso J.2.1.length jsc] 30)
          have hnx := heap_alloc_new w5 (.cells #[.slice jmo J.1.length jmc, .slice jso J.2.1.length jsc] 30)
          go_upto_region 9 with fail
          obtain ⟨bkJ, hbk⟩ : ∃ b, w5.heap.size = b := ⟨_, rfl⟩
          generalize w5.alloc (.cells #[.slice jmo J.1.length jmc, .slice jso J.2.1.length jsc] 30) = w6 at *
          have HB7 := Lib.hid (HB5.out.trans (hbx.mono HB5.out.size))
          have RX7 := Lib.hid ((hbx.block _ (Array.getElem?_eq_some_iff.1 RX5.out).1).trans RX5.out)
          have RA7 := Lib.hid ((hbx.block _ (Array.getElem?_eq_some_iff.1 RA5.out).1).trans RA5.out)
          have RB7 := Lib.hid ((hbx.block _ (Array.getElem?_eq_some_iff.1 RB5.out).1).trans RB5.out)
          have FJ7 := Lib.hid (FJ6.out.below hbx)
          clear RX5 RA5 RB5 FJ6
          rw [hbk] at hnx ⊢
          have RJ7 := Lib.hid hnx
          clear hbx hnx hbk
          have HJL := Lib.hid (Array.getElem?_eq_some_iff.1 RJ7.out).1
          have HBW6 : Hid (w.heap.size + 2 < w6.heap.size) := Lib.hid (Array.getElem?_eq_some_iff.1 RB7.out).1
          obtain ⟨er1, HERP⟩ : ∃ z, Hid (pshE mb sb D = z) := ⟨_, Lib.hid rfl⟩
          go_upto_region 9 with fail
          have HLX := Lib.hid (And.intro (Array.getElem?_eq_some_iff.1 RX7.out).1 (Array.getElem?_eq_some_iff.1 RB7.out).1)
          refine wp_region_late 8 7 5 12 79 (psi [isV (.agg #[.int .i64 kx, .string tx, .bool nx, .slice xo xn xc, .slice yo yn yc, .int .i64 ax, .slice po pn pc, .slice qo qn qc]), isOx D, isV (.agg #[.slice bmo mb.length bmc, .slice bso sb.length bsc]), isRes er1 (pshR mb sb D), isRes er1 (pshR mb sb D), isPs (pshR mb sb D), isV (.int .i64 er1), isBoxS w6.heap.size, nothing, isV (.int .i64 er1)]) (fun W => Below w6.heap.size w6 W) (FillsS) (by kernel_rfl) (Below.refl _ _).drew (psi_mono ?_) (by kernel_rfl) (by kernel_rfl) (by kernel_rfl) ?_ ?_
          · intro pq hp
            simp only [List.mem_cons, List.not_mem_nil, or_false] at hp
            (repeat' rcases hp with rfl | hp) <;> first | exact isV_stays _ | exact nothing_stays | (subst hp; first | exact isV_stays _ | exact nothing_stays) | exact isBoxS_stays _ | exact isOx_stays _ | exact isPs_stays _ | exact isRes_stays _ _ | (subst hp; exact isBoxS_stays _) | (subst hp; exact isOx_stays _) | (subst hp; exact isPs_stays _) | (subst hp; exact isRes_stays _ _)
          · refine AllOps.cons ?_ ?_
            · refine OpL.early (by kernel_rfl) (by kernel_rfl) fun ab W hC hB hdep => ?_
              refine .inl ⟨rfl, ?_⟩
              have b0 : ab.tmps.getD 4 undef = .pointer (some ⟨w.heap.size, 0, none⟩) := hB.off 4 (by kernel_rfl)
              obtain ⟨c0, c1, c2, c3, c4, c5, c6, c7⟩ := rowS8 ((hC.block _ HLX.out.1).trans RX7.out)
              clear hB hdep
              refine goes_value (v := .agg #[.int .i64 kx, .string tx, .bool nx, .slice xo xn xc, .slice yo yn yc, .int .i64 ax, .slice po pn pc, .slice qo qn qc]) ?_ hC rfl
              simp only [execOp, Act.eval, b0]
              go_simp
            refine AllOps.cons ?_ ?_
            · refine OpL.early (by kernel_rfl) (by kernel_rfl) fun ab W hC hB hdep => ?_
              refine .inl ⟨rfl, ?_⟩
              obtain ⟨x0, (q0 : (isV (.agg #[.int .i64 kx, .string tx, .bool nx, .slice xo xn xc, .slice yo yn yc, .int .i64 ax, .slice po pn pc, .slice qo qn qc])) x0 W), e0⟩ := hdep 0 75 (by kernel_rfl)
              obtain rfl : x0 = .agg #[.int .i64 kx, .string tx, .bool nx, .slice xo xn xc, .slice yo yn yc, .int .i64 ax, .slice po pn pc, .slice qo qn qc] := q0
              clear hB hdep
              refine goes_call (f := 24) (args := #[.agg #[.int .i64 kx, .string tx, .bool nx, .slice xo xn xc, .slice yo yn yc, .int .i64 ax, .slice po pn pc, .slice qo qn qc]]) ?_ ?_
              · simp only [execOp]
                go_simp
              · exact (own_sxK D HSM.out.owk _ W (HD.out.keep (HB7.out.trans (hC.mono HB7.out.size)))).mono fun e w7 ⟨vs, he, hl, hb⟩ => ⟨_, he, hC.trans (hb.mono hC.size), hb, ⟨vs, rfl, hl.lay⟩⟩
            refine AllOps.cons ?_ ?_
            · refine OpL.early (by kernel_rfl) (by kernel_rfl) fun ab W hC hB hdep => ?_
              refine .inl ⟨rfl, ?_⟩
              have b0 : ab.tmps.getD 6 undef = .pointer (some ⟨w.heap.size + 2, 0, none⟩) := hB.off 6 (by kernel_rfl)
              obtain ⟨c0, c1, _, _⟩ := rowp2d ((hC.block _ HLX.out.2).trans RB7.out)
              clear hB hdep
              refine goes_value (v := .agg #[.slice bmo mb.length bmc, .slice bso sb.length bsc]) ?_ hC rfl
              simp only [execOp, Act.eval, b0]
              go_simp
            refine AllOps.cons ?_ ?_
            · refine OpL.early (by kernel_rfl) (by kernel_rfl) fun ab W hC hB hdep => ?_
              refine .inl ⟨rfl, ?_⟩
              obtain ⟨x0, (q0 : (isOx D) x0 W), e0⟩ := hdep 1 76 (by kernel_rfl)
              skip
              obtain ⟨x1, (q1 : (isV (.agg #[.slice bmo mb.length bmc, .slice bso sb.length bsc])) x1 W), e1⟩ := hdep 2 77 (by kernel_rfl)
              obtain rfl : x1 = .agg #[.slice bmo mb.length bmc, .slice bso sb.length bsc] := q1
              clear hB hdep
              refine goes_call (f := 23) (args := #[x0, .agg #[.slice bmo mb.length bmc, .slice bso sb.length bsc]]) ?_ ?_
              · simp only [execOp]
                go_simp
              · obtain ⟨ua, rfl, hla⟩ := q0
                exact (push_any D ua _ mb sb W hla HSM.out (HY.out.below (HB7.out.trans (hC.mono HB7.out.size))) (HT.out.below (HB7.out.trans (hC.mono HB7.out.size)) (Nat.le_refl _))).mono fun e w7 ⟨us7, he, hl, hb⟩ => ⟨_, by rw [HERP.out] at he; exact he, hC.trans (hb.mono hC.size), hb, ⟨us7, _, rfl, hl⟩⟩
            refine AllOps.cons ?_ ?_
            · refine OpL.early (by kernel_rfl) (by kernel_rfl) fun ab W hC hB hdep => ?_
              refine .inl ⟨rfl, ?_⟩
              obtain ⟨x0, (q0 : (isRes er1 (pshR mb sb D)) x0 W), e0⟩ := hdep 3 78 (by kernel_rfl)
              obtain ⟨us0, S0, rfl, hs0⟩ := q0
              clear hB hdep
              refine goes_value (v := .tuple #[.agg us0.toArray, .int .i64 er1]) ?_ hC ⟨us0, S0, rfl, hs0⟩
              simp only [execOp, Act.eval, e0]
              go_simp
            refine AllOps.cons ?_ ?_
            · refine OpL.early (by kernel_rfl) (by kernel_rfl) fun ab W hC hB hdep => ?_
              refine .inl ⟨rfl, ?_⟩
              obtain ⟨x0, (q0 : (isRes er1 (pshR mb sb D)) x0 W), e0⟩ := hdep 4 74 (by kernel_rfl)
              obtain ⟨us0, S0, rfl, hs0⟩ := q0
              clear hB hdep
              refine goes_value (v := .agg us0.toArray) ?_ hC ⟨us0, S0, rfl, hs0⟩
              simp only [execOp, Act.eval, e0]
              go_simp
            refine AllOps.cons ?_ ?_
            · refine OpL.pure (by kernel_rfl) (by kernel_rfl) fun ab W W1 hC hB hdep => .inl ⟨rfl, ?_⟩
              obtain ⟨x0, (q0 : (isRes er1 (pshR mb sb D)) x0 W), e0⟩ := hdep 4 74 (by kernel_rfl)
              obtain ⟨us0, S0, rfl, hs0⟩ := q0
              clear hB hdep
              refine ⟨.int .i64 er1, ?_, rfl⟩
              simp only [execOp, Act.eval, e0]
              go_simp
            refine AllOps.cons ?_ ?_
            · refine OpL.early (by kernel_rfl) (by kernel_rfl) fun ab W hC hB hdep => ?_
              refine .inl ⟨rfl, ?_⟩
              clear hB hdep
              refine goes_world (v := .pointer (some ⟨W.heap.size, 0, none⟩)) (w1 := W.alloc (.cells #[.int .i64 0, .string ⟨#[]⟩, .bool false, .slice none 0 0, .slice none 0 0, .int .i64 0, .slice none 0 0, .slice none 0 0] 35)) ?_ (hC.trans ((below1 W _).mono hC.size)) (below1 W _) ⟨_, rfl, hC.size, heap_alloc_new W _⟩
              simp only [execOp]
              go_simp
            refine AllOps.cons ?_ ?_
            · refine OpL.write (by kernel_rfl) fun vals ab W hC hB hdep => ⟨rfl, ?_⟩
              obtain ⟨(q0 : (isBoxS w6.heap.size) (vals 7) W), e0⟩ := hdep 7 12 (by kernel_rfl)
              generalize vals 7 = x0 at *
              obtain ⟨g0, rfl, hge0, hg0⟩ := q0
              obtain ⟨(q1 : (isPs (pshR mb sb D)) (vals 5) W), e1⟩ := hdep 5 79 (by kernel_rfl)
              generalize vals 5 = x1 at *
              obtain ⟨us1, S1, rfl, hs1⟩ := q1
              obtain ⟨ka, ta, na, xoa, xna, xca, yoa, yna, yca, aa, poa, pna, pca, qoa, qna, qca, rfl⟩ := sx_shapes hs1.lay
              clear hB hdep
              obtain ⟨c0, c1, c2, c3, c4, c5, c6, c7⟩ := rowS8 hg0
              have z0 := frozen_heap hg0 0
              have z1 := frozen_heap hg0 1
              have z2 := frozen_heap hg0 2
              have z3 := frozen_heap hg0 3
              have z4 := frozen_heap hg0 4
              have z5 := frozen_heap hg0 5
              have z6 := frozen_heap hg0 6
              have z7 := frozen_heap hg0 7
              refine writes_skip (w1 := put8w W g0 (.int .i64 ka) (.string ta) (.bool na) (.slice xoa xna xca) (.slice yoa yna yca) (.int .i64 aa) (.slice poa pna pca) (.slice qoa qna qca)) ?_ ⟨_, _, _, _, _, _, _, _, _, rfl, rfl, rfl⟩
              unfold put8w
              simp only [execOp, Act.eval, e0, e1]
              go_simp
            refine AllOps.cons ?_ ?_
            · refine OpL.pure (by kernel_rfl) (by kernel_rfl) fun ab W W1 hC hB hdep => .inl ⟨rfl, ?_⟩
              obtain ⟨x0, (q0 : (isV (.int .i64 er1)) x0 W), e0⟩ := hdep 6 80 (by kernel_rfl)
              obtain rfl : x0 = .int .i64 er1 := q0
              clear hB hdep
              refine ⟨.int .i64 er1, ?_, rfl⟩
              simp only [execOp, Act.eval, e0]
              go_simp
            exact trivial
          · intro vals aa W0 wPr hC hFin hB hall
            obtain ⟨(k0 : (isV (.agg #[.int .i64 kx, .string tx, .bool nx, .slice xo xn xc, .slice yo yn yc, .int .i64 ax, .slice po pn pc, .slice qo qn qc])) (vals 0) W0), e0⟩ := hall 0 _ rfl (by decide)
            obtain ⟨(k1 : (isOx D) (vals 1) W0), e1⟩ := hall 1 _ rfl (by decide)
            obtain ⟨(k2 : (isV (.agg #[.slice bmo mb.length bmc, .slice bso sb.length bsc])) (vals 2) W0), e2⟩ := hall 2 _ rfl (by decide)
            obtain ⟨(k3 : (isRes er1 (pshR mb sb D)) (vals 3) W0), e3⟩ := hall 3 _ rfl (by decide)
            obtain ⟨(k4 : (isRes er1 (pshR mb sb D)) (vals 4) W0), e4⟩ := hall 4 _ rfl (by decide)
            obtain ⟨(k5 : (isPs (pshR mb sb D)) (vals 5) W0), e5⟩ := hall 5 _ rfl (by decide)
            obtain ⟨(k6 : (isV (.int .i64 er1)) (vals 6) W0), e6⟩ := hall 6 _ rfl (by decide)
            obtain ⟨(k7 : (isBoxS w6.heap.size) (vals 7) W0), e7⟩ := hall 7 _ rfl (by decide)
            obtain ⟨(k9 : (isV (.int .i64 er1)) (vals 9) W0), e9⟩ := hall 9 _ rfl (by decide)
            have hv : ∀ pq ∈ [((75 : Nat), (.agg #[.int .i64 kx, .string tx, .bool nx, .slice xo xn xc, .slice yo yn yc, .int .i64 ax, .slice po pn pc, .slice qo qn qc] : Value)), ((76 : Nat), (vals 1 : Value)), ((77 : Nat), (.agg #[.slice bmo mb.length bmc, .slice bso sb.length bsc] : Value)), ((78 : Nat), (vals 3 : Value)), ((74 : Nat), (vals 4 : Value)), ((79 : Nat), (vals 5 : Value)), ((80 : Nat), (.int .i64 er1 : Value)), ((12 : Nat), (vals 7 : Value)), ((13 : Nat), (.int .i64 er1 : Value))], aa.tmps.getD pq.1 undef = pq.2 := by
              intro pq hp
              simp only [List.mem_cons, List.not_mem_nil, or_false] at hp
              rcases hp with rfl | rfl | rfl | rfl | rfl | rfl | rfl | rfl | rfl
              · exact (e0 _ rfl).trans k0
              · exact e1 _ rfl
              · exact (e2 _ rfl).trans k2
              · exact e3 _ rfl
              · exact e4 _ rfl
              · exact e5 _ rfl
              · exact (e6 _ rfl).trans k6
              · exact e7 _ rfl
              · exact (e9 _ rfl).trans k9
            have hact := act_fold _ hB hv (by kernel_rfl)
            subst hact
            clear hv hall hB e0 e1 e2 e3 e4 e5 e6 e7 e9
            refine (‹∀ (a : Act) (w : World), Code.wp Tryz.prog _ _ a w → _›) _ _ ?_
            simp only [List.foldl, List.setIfInBounds_toArray, List.set_cons_succ, List.set_cons_zero]
            obtain ⟨bkP, pkx, ptx, pnx, pxo, pxn, pxc, pyo, pyn, pyc, pax, ppo, ppn, ppc, pqo, pqn, pqc, hpq, hpv, hq, hqx, hly, hb⟩ := fillsS_end hC hFin k7 k5 (nz_psh _ _ _)
            rw [hpq, hpv]
            clear hpq hpv hC hFin k3 k4 HLX
            have HGP := Lib.hid hq
            generalize vals 1 = vaP at *
            generalize vals 3 = vbP at *
            generalize vals 4 = vcP at *
            have HB8 := Lib.hid (HB7.out.trans (hb.mono HB7.out.size))
            have RX8 := Lib.hid ((hb.block _ (Array.getElem?_eq_some_iff.1 RX7.out).1).trans RX7.out)
            have RA8 := Lib.hid ((hb.block _ (Array.getElem?_eq_some_iff.1 RA7.out).1).trans RA7.out)
            have RB8 := Lib.hid ((hb.block _ (Array.getElem?_eq_some_iff.1 RB7.out).1).trans RB7.out)
            have RJ8 := Lib.hid ((hb.block _ (Array.getElem?_eq_some_iff.1 RJ7.out).1).trans RJ7.out)
            have FJ8 := Lib.hid (FJ7.out.below hb)
            clear RX7 RA7 RB7 RJ7 FJ7
            have RP8 := Lib.hid hqx
            have FP8 := Lib.hid hly
            clear hb hqx hly hq
            obtain ⟨je, HJE⟩ : ∃ z, Hid (J.2.2 = z) := ⟨_, Lib.hid rfl⟩
            rw [HJE.out]
            by_cases hz1 : je = 0
            case neg =>
              obtain ⟨hq1, hq2⟩ := ne_int hz1
              go_wp2_with fail
              go_ret
              exact ⟨rfl, HB8.out⟩
            by_cases hz2 : er1 = 0
            case neg =>
              obtain ⟨hq1, hq2⟩ := ne_int hz2
              subst hz1
              go_wp2_with fail
              go_ret
              exact ⟨rfl, HB8.out⟩
            subst hz1 hz2
            cases op with
            | false =>
              obtain ⟨c7_0, c7_1, c7_2, c7_3, c7_4, c7_5, c7_6, c7_7⟩ := rowS8 RP8.out
              obtain ⟨c8_0, c8_1, _, _⟩ := rowp2d RA8.out
              go_wp2_with fail
              refine (push_any (pshR mb sb D) _ _ ma sa wPr FP8.out (pshR_sms HSM.out (by omega)) (HX.out.below HB8.out) (HT.out.below HB8.out (Nat.le_refl _))).mono ?_
              rintro e w8 ⟨us8, rfl, hso8, hb⟩
              clear c7_0 c7_1 c7_2 c7_3 c7_4 c7_5 c7_6 c7_7 c8_0 c8_1
              obtain ⟨q_kx, q_tx, q_nx, q_xo, q_xn, q_xc, q_yo, q_yn, q_yc, q_ax, q_po, q_pn, q_pc, q_qo, q_qn, q_qc, rfl⟩ := sx_shapes hso8.lay
              have hly8 := hso8.lay
              have HB9 := Lib.hid (HB8.out.trans (hb.mono HB8.out.size))
              have RX9 := Lib.hid ((hb.block _ (Array.getElem?_eq_some_iff.1 RX8.out).1).trans RX8.out)
              have RA9 := Lib.hid ((hb.block _ (Array.getElem?_eq_some_iff.1 RA8.out).1).trans RA8.out)
              have RB9 := Lib.hid ((hb.block _ (Array.getElem?_eq_some_iff.1 RB8.out).1).trans RB8.out)
              have RJ9 := Lib.hid ((hb.block _ (Array.getElem?_eq_some_iff.1 RJ8.out).1).trans RJ8.out)
              have RP9 := Lib.hid ((hb.block _ (Array.getElem?_eq_some_iff.1 RP8.out).1).trans RP8.out)
              have FJ9 := Lib.hid (FJ8.out.below hb)
              have FP9 := Lib.hid (FP8.out.keep hb)
              clear RX8 RA8 RB8 RJ8 RP8 FJ8 FP8
              clear hb
              have FQ10 := Lib.hid hly8
              clear hly8 hso8
              have hbx := below1 w8 (.cells #[.int .i64 q_kx, .string q_tx, .bool q_nx, .slice q_xo q_xn q_xc, .slice q_yo q_yn q_yc, .int .i64 q_ax, .slice q_po q_pn q_pc, .slice q_qo q_qn q_qc] 35)
              have hnx := heap_alloc_new w8 (.cells #[.int .i64 q_kx, .string q_tx, .bool q_nx, .slice q_xo q_xn q_xc, .slice q_yo q_yn q_yc, .int .i64 q_ax, .slice q_po q_pn q_pc, .slice q_qo q_qn q_qc] 35)
              go_upto_region 15 with fail
              obtain ⟨bkQ, hbk⟩ : ∃ b, w8.heap.size = b := ⟨_, rfl⟩
              generalize w8.alloc (.cells #[.int .i64 q_kx, .string q_tx, .bool q_nx, .slice q_xo q_xn q_xc, .slice q_yo q_yn q_yc, .int .i64 q_ax, .slice q_po q_pn q_pc, .slice q_qo q_qn q_qc] 35) = w9 at *
              have HB11 := Lib.hid (HB9.out.trans (hbx.mono HB9.out.size))
              have RX11 := Lib.hid ((hbx.block _ (Array.getElem?_eq_some_iff.1 RX9.out).1).trans RX9.out)
              have RA11 := Lib.hid ((hbx.block _ (Array.getElem?_eq_some_iff.1 RA9.out).1).trans RA9.out)
              have RB11 := Lib.hid ((hbx.block _ (Array.getElem?_eq_some_iff.1 RB9.out).1).trans RB9.out)
              have RJ11 := Lib.hid ((hbx.block _ (Array.getElem?_eq_some_iff.1 RJ9.out).1).trans RJ9.out)
              have RP11 := Lib.hid ((hbx.block _ (Array.getElem?_eq_some_iff.1 RP9.out).1).trans RP9.out)
              have FJ11 := Lib.hid (FJ9.out.below hbx)
              have FP11 := Lib.hid (FP9.out.keep hbx)
              have FQ11 := Lib.hid (FQ10.out.keep hbx)
              clear RX9 RA9 RB9 RJ9 RP9 FJ9 FP9 FQ10
              rw [hbk] at hnx ⊢
              have RQ11 := Lib.hid hnx
              clear hbx hnx hbk
              obtain ⟨er3, HERR⟩ : ∃ z, Hid (pshE J.1 J.2.1 D = z) := ⟨_, Lib.hid rfl⟩
              have FJX := Lib.hid FJ11.out
              go_upto_region 15 with fail
              have HLX := Lib.hid (And.intro (Array.getElem?_eq_some_iff.1 RX11.out).1 (Array.getElem?_eq_some_iff.1 RJ11.out).1)
              refine wp_region_late 8 7 5 16 104 (psi [isV (.agg #[.int .i64 kx, .string tx, .bool nx, .slice xo xn xc, .slice yo yn yc, .int .i64 ax, .slice po pn pc, .slice qo qn qc]), isOx D, isV (.agg #[.slice jmo J.1.length jmc, .slice jso J.2.1.length jsc]), isRes er3 (pshR J.1 J.2.1 D), isRes er3 (pshR J.1 J.2.1 D), isPs (pshR J.1 J.2.1 D), isV (.int .i64 er3), isBoxS w9.heap.size, nothing, isV (.int .i64 er3)]) (fun W => Below w9.heap.size w9 W) (FillsS) (by kernel_rfl) (Below.refl _ _).drew (psi_mono ?_) (by kernel_rfl) (by kernel_rfl) (by kernel_rfl) ?_ ?_
              · intro pq hp
                simp only [List.mem_cons, List.not_mem_nil, or_false] at hp
                (repeat' rcases hp with rfl | hp) <;> first | exact isV_stays _ | exact nothing_stays | (subst hp; first | exact isV_stays _ | exact nothing_stays) | exact isBoxS_stays _ | exact isOx_stays _ | exact isPs_stays _ | exact isRes_stays _ _ | (subst hp; exact isBoxS_stays _) | (subst hp; exact isOx_stays _) | (subst hp; exact isPs_stays _) | (subst hp; exact isRes_stays _ _)
              · refine AllOps.cons ?_ ?_
                · refine OpL.early (by kernel_rfl) (by kernel_rfl) fun ab W hC hB hdep => ?_
                  refine .inl ⟨rfl, ?_⟩
                  have b0 : ab.tmps.getD 4 undef = .pointer (some ⟨w.heap.size, 0, none⟩) := hB.off 4 (by kernel_rfl)
                  obtain ⟨c0, c1, c2, c3, c4, c5, c6, c7⟩ := rowS8 ((hC.block _ HLX.out.1).trans RX11.out)
                  clear hB hdep
                  refine goes_value (v := .agg #[.int .i64 kx, .string tx, .bool nx, .slice xo xn xc, .slice yo yn yc, .int .i64 ax, .slice po pn pc, .slice qo qn qc]) ?_ hC rfl
                  simp only [execOp, Act.eval, b0]
                  go_simp
                refine AllOps.cons ?_ ?_
                · refine OpL.early (by kernel_rfl) (by kernel_rfl) fun ab W hC hB hdep => ?_
                  refine .inl ⟨rfl, ?_⟩
                  obtain ⟨x0, (q0 : (isV (.agg #[.int .i64 kx, .string tx, .bool nx, .slice xo xn xc, .slice yo yn yc, .int .i64 ax, .slice po pn pc, .slice qo qn qc])) x0 W), e0⟩ := hdep 0 100 (by kernel_rfl)
                  obtain rfl : x0 = .agg #[.int .i64 kx, .string tx, .bool nx, .slice xo xn xc, .slice yo yn yc, .int .i64 ax, .slice po pn pc, .slice qo qn qc] := q0
                  clear hB hdep
                  refine goes_call (f := 24) (args := #[.agg #[.int .i64 kx, .string tx, .bool nx, .slice xo xn xc, .slice yo yn yc, .int .i64 ax, .slice po pn pc, .slice qo qn qc]]) ?_ ?_
                  · simp only [execOp]
                    go_simp
                  · exact (own_sxK D HSM.out.owk _ W (HD.out.keep (HB11.out.trans (hC.mono HB11.out.size)))).mono fun e w7 ⟨vs, he, hl, hb⟩ => ⟨_, he, hC.trans (hb.mono hC.size), hb, ⟨vs, rfl, hl.lay⟩⟩
                refine AllOps.cons ?_ ?_
                · refine OpL.early (by kernel_rfl) (by kernel_rfl) fun ab W hC hB hdep => ?_
                  refine .inl ⟨rfl, ?_⟩
                  have b0 : ab.tmps.getD 10 undef = .pointer (some ⟨bkJ, 0, none⟩) := hB.off 10 (by kernel_rfl)
                  obtain ⟨c0, c1, _, _⟩ := rowp2d ((hC.block _ HLX.out.2).trans RJ11.out)
                  clear hB hdep
                  refine goes_value (v := .agg #[.slice jmo J.1.length jmc, .slice jso J.2.1.length jsc]) ?_ hC rfl
                  simp only [execOp, Act.eval, b0]
                  go_simp
                refine AllOps.cons ?_ ?_
                · refine OpL.early (by kernel_rfl) (by kernel_rfl) fun ab W hC hB hdep => ?_
                  refine .inl ⟨rfl, ?_⟩
                  obtain ⟨x0, (q0 : (isOx D) x0 W), e0⟩ := hdep 1 101 (by kernel_rfl)
                  skip
                  obtain ⟨x1, (q1 : (isV (.agg #[.slice jmo J.1.length jmc, .slice jso J.2.1.length jsc])) x1 W), e1⟩ := hdep 2 102 (by kernel_rfl)
                  obtain rfl : x1 = .agg #[.slice jmo J.1.length jmc, .slice jso J.2.1.length jsc] := q1
                  clear hB hdep
                  refine goes_call (f := 23) (args := #[x0, .agg #[.slice jmo J.1.length jmc, .slice jso J.2.1.length jsc]]) ?_ ?_
                  · simp only [execOp]
                    go_simp
                  · obtain ⟨ua, rfl, hla⟩ := q0
                    exact (push_any D ua _ J.1 J.2.1 W hla HSM.out (FJX.out.wr.below hC) (HT.out.below (HB11.out.trans (hC.mono HB11.out.size)) (Nat.le_refl _))).mono fun e w7 ⟨us7, he, hl, hb⟩ => ⟨_, by rw [HERR.out] at he; exact he, hC.trans (hb.mono hC.size), hb, ⟨us7, _, rfl, hl⟩⟩
                refine AllOps.cons ?_ ?_
                · refine OpL.early (by kernel_rfl) (by kernel_rfl) fun ab W hC hB hdep => ?_
                  refine .inl ⟨rfl, ?_⟩
                  obtain ⟨x0, (q0 : (isRes er3 (pshR J.1 J.2.1 D)) x0 W), e0⟩ := hdep 3 103 (by kernel_rfl)
                  obtain ⟨us0, S0, rfl, hs0⟩ := q0
                  clear hB hdep
                  refine goes_value (v := .tuple #[.agg us0.toArray, .int .i64 er3]) ?_ hC ⟨us0, S0, rfl, hs0⟩
                  simp only [execOp, Act.eval, e0]
                  go_simp
                refine AllOps.cons ?_ ?_
                · refine OpL.early (by kernel_rfl) (by kernel_rfl) fun ab W hC hB hdep => ?_
                  refine .inl ⟨rfl, ?_⟩
                  obtain ⟨x0, (q0 : (isRes er3 (pshR J.1 J.2.1 D)) x0 W), e0⟩ := hdep 4 99 (by kernel_rfl)
                  obtain ⟨us0, S0, rfl, hs0⟩ := q0
                  clear hB hdep
                  refine goes_value (v := .agg us0.toArray) ?_ hC ⟨us0, S0, rfl, hs0⟩
                  simp only [execOp, Act.eval, e0]
                  go_simp
                refine AllOps.cons ?_ ?_
                · refine OpL.pure (by kernel_rfl) (by kernel_rfl) fun ab W W1 hC hB hdep => .inl ⟨rfl, ?_⟩
                  obtain ⟨x0, (q0 : (isRes er3 (pshR J.1 J.2.1 D)) x0 W), e0⟩ := hdep 4 99 (by kernel_rfl)
                  obtain ⟨us0, S0, rfl, hs0⟩ := q0
                  clear hB hdep
                  refine ⟨.int .i64 er3, ?_, rfl⟩
                  simp only [execOp, Act.eval, e0]
                  go_simp
                refine AllOps.cons ?_ ?_
                · refine OpL.early (by kernel_rfl) (by kernel_rfl) fun ab W hC hB hdep => ?_
                  refine .inl ⟨rfl, ?_⟩
                  clear hB hdep
                  refine goes_world (v := .pointer (some ⟨W.heap.size, 0, none⟩)) (w1 := W.alloc (.cells #[.int .i64 0, .string ⟨#[]⟩, .bool false, .slice none 0 0, .slice none 0 0, .int .i64 0, .slice none 0 0, .slice none 0 0] 35)) ?_ (hC.trans ((below1 W _).mono hC.size)) (below1 W _) ⟨_, rfl, hC.size, heap_alloc_new W _⟩
                  simp only [execOp]
                  go_simp
                refine AllOps.cons ?_ ?_
                · refine OpL.write (by kernel_rfl) fun vals ab W hC hB hdep => ⟨rfl, ?_⟩
                  obtain ⟨(q0 : (isBoxS w9.heap.size) (vals 7) W), e0⟩ := hdep 7 16 (by kernel_rfl)
                  generalize vals 7 = x0 at *
                  obtain ⟨g0, rfl, hge0, hg0⟩ := q0
                  obtain ⟨(q1 : (isPs (pshR J.1 J.2.1 D)) (vals 5) W), e1⟩ := hdep 5 104 (by kernel_rfl)
                  generalize vals 5 = x1 at *
                  obtain ⟨us1, S1, rfl, hs1⟩ := q1
                  obtain ⟨ka, ta, na, xoa, xna, xca, yoa, yna, yca, aa, poa, pna, pca, qoa, qna, qca, rfl⟩ := sx_shapes hs1.lay
                  clear hB hdep
                  obtain ⟨c0, c1, c2, c3, c4, c5, c6, c7⟩ := rowS8 hg0
                  have z0 := frozen_heap hg0 0
                  have z1 := frozen_heap hg0 1
                  have z2 := frozen_heap hg0 2
                  have z3 := frozen_heap hg0 3
                  have z4 := frozen_heap hg0 4
                  have z5 := frozen_heap hg0 5
                  have z6 := frozen_heap hg0 6
                  have z7 := frozen_heap hg0 7
                  refine writes_skip (w1 := put8w W g0 (.int .i64 ka) (.string ta) (.bool na) (.slice xoa xna xca) (.slice yoa yna yca) (.int .i64 aa) (.slice poa pna pca) (.slice qoa qna qca)) ?_ ⟨_, _, _, _, _, _, _, _, _, rfl, rfl, rfl⟩
                  unfold put8w
                  simp only [execOp, Act.eval, e0, e1]
                  go_simp
                refine AllOps.cons ?_ ?_
                · refine OpL.pure (by kernel_rfl) (by kernel_rfl) fun ab W W1 hC hB hdep => .inl ⟨rfl, ?_⟩
                  obtain ⟨x0, (q0 : (isV (.int .i64 er3)) x0 W), e0⟩ := hdep 6 105 (by kernel_rfl)
                  obtain rfl : x0 = .int .i64 er3 := q0
                  clear hB hdep
                  refine ⟨.int .i64 er3, ?_, rfl⟩
                  simp only [execOp, Act.eval, e0]
                  go_simp
                exact trivial
              · intro vals aa W0 wRr hC hFin hB hall
                obtain ⟨(k0 : (isV (.agg #[.int .i64 kx, .string tx, .bool nx, .slice xo xn xc, .slice yo yn yc, .int .i64 ax, .slice po pn pc, .slice qo qn qc])) (vals 0) W0), e0⟩ := hall 0 _ rfl (by decide)
                obtain ⟨(k1 : (isOx D) (vals 1) W0), e1⟩ := hall 1 _ rfl (by decide)
                obtain ⟨(k2 : (isV (.agg #[.slice jmo J.1.length jmc, .slice jso J.2.1.length jsc])) (vals 2) W0), e2⟩ := hall 2 _ rfl (by decide)
                obtain ⟨(k3 : (isRes er3 (pshR J.1 J.2.1 D)) (vals 3) W0), e3⟩ := hall 3 _ rfl (by decide)
                obtain ⟨(k4 : (isRes er3 (pshR J.1 J.2.1 D)) (vals 4) W0), e4⟩ := hall 4 _ rfl (by decide)
                obtain ⟨(k5 : (isPs (pshR J.1 J.2.1 D)) (vals 5) W0), e5⟩ := hall 5 _ rfl (by decide)
                obtain ⟨(k6 : (isV (.int .i64 er3)) (vals 6) W0), e6⟩ := hall 6 _ rfl (by decide)
                obtain ⟨(k7 : (isBoxS w9.heap.size) (vals 7) W0), e7⟩ := hall 7 _ rfl (by decide)
                obtain ⟨(k9 : (isV (.int .i64 er3)) (vals 9) W0), e9⟩ := hall 9 _ rfl (by decide)
                have hv : ∀ pq ∈ [((100 : Nat), (.agg #[.int .i64 kx, .string tx, .bool nx, .slice xo xn xc, .slice yo yn yc, .int .i64 ax, .slice po pn pc, .slice qo qn qc] : Value)), ((101 : Nat), (vals 1 : Value)), ((102 : Nat), (.agg #[.slice jmo J.1.length jmc, .slice jso J.2.1.length jsc] : Value)), ((103 : Nat), (vals 3 : Value)), ((99 : Nat), (vals 4 : Value)), ((104 : Nat), (vals 5 : Value)), ((105 : Nat), (.int .i64 er3 : Value)), ((16 : Nat), (vals 7 : Value)), ((17 : Nat), (.int .i64 er3 : Value))], aa.tmps.getD pq.1 undef = pq.2 := by
                  intro pq hp
                  simp only [List.mem_cons, List.not_mem_nil, or_false] at hp
                  rcases hp with rfl | rfl | rfl | rfl | rfl | rfl | rfl | rfl | rfl
                  · exact (e0 _ rfl).trans k0
                  · exact e1 _ rfl
                  · exact (e2 _ rfl).trans k2
                  · exact e3 _ rfl
                  · exact e4 _ rfl
                  · exact e5 _ rfl
                  · exact (e6 _ rfl).trans k6
                  · exact e7 _ rfl
                  · exact (e9 _ rfl).trans k9
                have hact := act_fold _ hB hv (by kernel_rfl)
                subst hact
                clear hv hall hB e0 e1 e2 e3 e4 e5 e6 e7 e9
                refine (‹∀ (a : Act) (w : World), Code.wp Tryz.prog _ _ a w → _›) _ _ ?_
                simp only [List.foldl, List.setIfInBounds_toArray, List.set_cons_succ, List.set_cons_zero]
                obtain ⟨bkR, r_kx, r_tx, r_nx, r_xo, r_xn, r_xc, r_yo, r_yn, r_yc, r_ax, r_po, r_pn, r_pc, r_qo, r_qn, r_qc, hpq, hpv, hq, hqx, hly, hb⟩ := fillsS_end hC hFin k7 k5 (nz_psh _ _ _)
                rw [hpq, hpv]
                clear hpq hpv hC hFin k3 k4 HLX
                have HGR := Lib.hid hq
                generalize vals 1 = vaR at *
                generalize vals 3 = vbR at *
                generalize vals 4 = vcR at *
                have HB12 := Lib.hid (HB11.out.trans (hb.mono HB11.out.size))
                have RX12 := Lib.hid ((hb.block _ (Array.getElem?_eq_some_iff.1 RX11.out).1).trans RX11.out)
                have RA12 := Lib.hid ((hb.block _ (Array.getElem?_eq_some_iff.1 RA11.out).1).trans RA11.out)
                have RB12 := Lib.hid ((hb.block _ (Array.getElem?_eq_some_iff.1 RB11.out).1).trans RB11.out)
                have RJ12 := Lib.hid ((hb.block _ (Array.getElem?_eq_some_iff.1 RJ11.out).1).trans RJ11.out)
                have RP12 := Lib.hid ((hb.block _ (Array.getElem?_eq_some_iff.1 RP11.out).1).trans RP11.out)
                have RQ12 := Lib.hid ((hb.block _ (Array.getElem?_eq_some_iff.1 RQ11.out).1).trans RQ11.out)
                have FJ12 := Lib.hid (FJ11.out.below hb)
                have FP12 := Lib.hid (FP11.out.keep hb)
                have FQ12 := Lib.hid (FQ11.out.keep hb)
                clear RX11 RA11 RB11 RJ11 RP11 RQ11 FJ11 FP11 FQ11
                have RR12 := Lib.hid hqx
                have FR12 := Lib.hid hly
                clear hb hqx hly hq
                obtain ⟨er2, HE2⟩ : ∃ z, Hid (pshE ma sa (pshR mb sb D) = z) := ⟨_, Lib.hid rfl⟩
                rw [HE2.out]
                by_cases hz1 : er2 = 0
                case neg =>
                  obtain ⟨hq1, hq2⟩ := ne_int hz1
                  go_wp2_with fail
                  go_ret
                  exact ⟨rfl, HB12.out⟩
                by_cases hz2 : er3 = 0
                case neg =>
                  obtain ⟨hq1, hq2⟩ := ne_int hz2
                  subst hz1
                  go_wp2_with fail
                  go_ret
                  exact ⟨rfl, HB12.out⟩
                subst hz1 hz2
                by_cases hmb : mb = []
                case pos =>
                  obtain ⟨c9_0, c9_1, _, _⟩ := rowp2d RB12.out
                  have hm0 : mb.length = 0 := by rw [hmb]; rfl
                  clear hmb
                  go_wp2_with fail
                  go_ret
                  exact ⟨rfl, HB12.out⟩
                have hm0 : 0 < mb.length := List.length_pos_iff.2 hmb
                have HMB := Lib.hid hmb
                clear hmb
                have hm1 : ¬ ((mb.length : Nat) : Int) = 0 := by omega
                obtain ⟨hq1, hq2⟩ := ne_int hm1
                obtain ⟨c9_0, c9_1, _, _⟩ := rowp2d RB12.out
                obtain ⟨c10_0, c10_1, c10_2, c10_3, c10_4, c10_5, c10_6, c10_7⟩ := rowS8 RQ12.out
                obtain ⟨c11_0, c11_1, c11_2, c11_3, c11_4, c11_5, c11_6, c11_7⟩ := rowS8 RR12.out
                go_wp2_with fail
                clear c9_0 c9_1 c10_0 c10_1 c10_2 c10_3 c10_4 c10_5 c10_6 c10_7 c11_0 c11_1 c11_2 c11_3 c11_4 c11_5 c11_6 c11_7
                refine (xsame_any (pshR ma sa (pshR mb sb D)) (pshR J.1 J.2.1 D) _ _ wRr FQ12.out FR12.out (pshR_sms (pshR_sms HSM.out (by omega)) (by omega)) (pshR_sms HSM.out (by omega)) (HT.out.below HB12.out (Nat.le_refl _))).mono ?_
                rintro e wz ⟨rfl, hbz⟩
                have HBZ := Lib.hid (HB12.out.trans (hbz.mono HB12.out.size))
                clear hbz hq1 hq2 hm1
                have HFS : Hid (samX (pshR ma sa (pshR mb sb D)) (pshR J.1 J.2.1 D) = true) := Lib.hid (by
                  have h := lazy_same (D := D) false (by rw [HJ.out]; exact HJE.out) HMB.out (fun j hj => HALL.out j hj) HERP.out HE2.out (by rw [HJ.out]; exact HERR.out)
                  rw [HJ.out] at h
                  exact h)
                go_wp2_with fail
                go_ret
                exact ⟨ret_bl HFS.out, HBZ.out⟩
            | true =>
              obtain ⟨c7_0, c7_1, c7_2, c7_3, c7_4, c7_5, c7_6, c7_7⟩ := rowS8 RP8.out
              go_wp2_with fail
              have HLP := Lib.hid (Array.getElem?_eq_some_iff.1 RP8.out).1
              refine (open1_any (pshR mb sb D) _ wPr FP8.out (pshR_sms HSM.out (by omega)) (HT.out.below HB8.out (Nat.le_refl _))).mono ?_
              rintro e w7 ⟨us7, rfl, hso7, hb⟩
              clear c7_0 c7_1 c7_2 c7_3 c7_4 c7_5 c7_6 c7_7
              obtain ⟨o_kx, o_tx, o_nx, o_xo, o_xn, o_xc, o_yo, o_yn, o_yc, o_ax, o_po, o_pn, o_pc, o_qo, o_qn, o_qc, rfl⟩ := sx_shapes hso7.lay
              have HB9 := Lib.hid (HB8.out.trans (hb.mono HB8.out.size))
              have RX9 := Lib.hid ((hb.block _ (Array.getElem?_eq_some_iff.1 RX8.out).1).trans RX8.out)
              have RA9 := Lib.hid ((hb.block _ (Array.getElem?_eq_some_iff.1 RA8.out).1).trans RA8.out)
              have RB9 := Lib.hid ((hb.block _ (Array.getElem?_eq_some_iff.1 RB8.out).1).trans RB8.out)
              have RJ9 := Lib.hid ((hb.block _ (Array.getElem?_eq_some_iff.1 RJ8.out).1).trans RJ8.out)
              have RP9 := Lib.hid ((hb.block _ (Array.getElem?_eq_some_iff.1 RP8.out).1).trans RP8.out)
              have FJ9 := Lib.hid (FJ8.out.below hb)
              have FP9 := Lib.hid (FP8.out.keep hb)
              clear RX8 RA8 RB8 RJ8 RP8 FJ8 FP8
              clear hb
              have hz := RP9.out
              obtain ⟨d0, d1, d2, d3, d4, d5, d6, d7⟩ := rowS8 hz
              have z0 := frozen_heap hz 0
              have z1 := frozen_heap hz 1
              have z2 := frozen_heap hz 2
              have z3 := frozen_heap hz 3
              have z4 := frozen_heap hz 4
              have z5 := frozen_heap hz 5
              have z6 := frozen_heap hz 6
              have z7 := frozen_heap hz 7
              have hgp := HGP.out
              have hge : w.heap.size ≤ bkP := by have := HBW6.out; omega
              have hrow := put8w_row hz (.int .i64 o_kx) (.string o_tx) (.bool o_nx) (.slice o_xo o_xn o_xc) (.slice o_yo o_yn o_yc) (.int .i64 o_ax) (.slice o_po o_pn o_pc) (.slice o_qo o_qn o_qc)
              have hkf := put8w_keep (fun b => b ≠ bkP) w7 bkP (by simp) (.int .i64 o_kx) (.string o_tx) (.bool o_nx) (.slice o_xo o_xn o_xc) (.slice o_yo o_yn o_yc) (.int .i64 o_ax) (.slice o_po o_pn o_pc) (.slice o_qo o_qn o_qc)
              have hbf := put8w_below HB9.out hge (.int .i64 o_kx) (.string o_tx) (.bool o_nx) (.slice o_xo o_xn o_xc) (.slice o_yo o_yn o_yc) (.int .i64 o_ax) (.slice o_po o_pn o_pc) (.slice o_qo o_qn o_qc)
              have hly7 := (hso7.move (hkf.mono fun b _ hb => by have := hb.1; have := HLP.out; omega)).lay
              have HF7 := Lib.hid (And.intro hrow (And.intro hkf (And.intro hbf hly7)))
              clear hrow hkf hbf hz hso7 hly7
              go_upto_region 14 with fail
              clear d0 d1 d2 d3 d4 d5 d6 d7 z0 z1 z2 z3 z4 z5 z6 z7 hge hgp
              unfold put8w at HF7
              generalize World.setCell _ ⟨bkP, 7, none⟩ (.slice o_qo o_qn o_qc) = w7b at *
              have HB10 := Lib.hid HF7.out.2.2.1
              have RX10 := Lib.hid ((HF7.out.2.1.2 _ (Array.getElem?_eq_some_iff.1 RX9.out).1 (by have := HGP.out; have := HBW6.out; omega)).trans RX9.out)
              have RA10 := Lib.hid ((HF7.out.2.1.2 _ (Array.getElem?_eq_some_iff.1 RA9.out).1 (by have := HGP.out; have := HBW6.out; omega)).trans RA9.out)
              have RB10 := Lib.hid ((HF7.out.2.1.2 _ (Array.getElem?_eq_some_iff.1 RB9.out).1 (by have := HGP.out; have := HBW6.out; omega)).trans RB9.out)
              have RJ10 := Lib.hid ((HF7.out.2.1.2 _ (Array.getElem?_eq_some_iff.1 RJ9.out).1 (by have := HGP.out; have := HBW6.out; have := HJL.out; omega)).trans RJ9.out)
              have FJ10 := Lib.hid (FJ9.out.put8 RP9.out HF7.out.2.1)
              have RP10 := Lib.hid HF7.out.1
              have FP10 := Lib.hid HF7.out.2.2.2
              clear HF7
              obtain ⟨c8_0, c8_1, c8_2, c8_3, c8_4, c8_5, c8_6, c8_7⟩ := rowS8 RP10.out
              obtain ⟨c9_0, c9_1, _, _⟩ := rowp2d RA10.out
              go_wp2_with fail
              refine (push_any (opnR (pshR mb sb D)) _ _ ma sa w7b FP10.out (opnR_sms (pshR_sms HSM.out (by omega)) (by omega)) (HX.out.below HB10.out) (HT.out.below HB10.out (Nat.le_refl _))).mono ?_
              rintro e w8 ⟨us8, rfl, hso8, hb⟩
              clear c8_0 c8_1 c8_2 c8_3 c8_4 c8_5 c8_6 c8_7 c9_0 c9_1
              obtain ⟨q_kx, q_tx, q_nx, q_xo, q_xn, q_xc, q_yo, q_yn, q_yc, q_ax, q_po, q_pn, q_pc, q_qo, q_qn, q_qc, rfl⟩ := sx_shapes hso8.lay
              have hly8 := hso8.lay
              have HB11 := Lib.hid (HB10.out.trans (hb.mono HB10.out.size))
              have RX11 := Lib.hid ((hb.block _ (Array.getElem?_eq_some_iff.1 RX10.out).1).trans RX10.out)
              have RA11 := Lib.hid ((hb.block _ (Array.getElem?_eq_some_iff.1 RA10.out).1).trans RA10.out)
              have RB11 := Lib.hid ((hb.block _ (Array.getElem?_eq_some_iff.1 RB10.out).1).trans RB10.out)
              have RJ11 := Lib.hid ((hb.block _ (Array.getElem?_eq_some_iff.1 RJ10.out).1).trans RJ10.out)
              have RP11 := Lib.hid ((hb.block _ (Array.getElem?_eq_some_iff.1 RP10.out).1).trans RP10.out)
              have FJ11 := Lib.hid (FJ10.out.below hb)
              have FP11 := Lib.hid (FP10.out.keep hb)
              clear RX10 RA10 RB10 RJ10 RP10 FJ10 FP10
              clear hb
              have FQ12 := Lib.hid hly8
              clear hly8 hso8
              have hbx := below1 w8 (.cells #[.int .i64 q_kx, .string q_tx, .bool q_nx, .slice q_xo q_xn q_xc, .slice q_yo q_yn q_yc, .int .i64 q_ax, .slice q_po q_pn q_pc, .slice q_qo q_qn q_qc] 35)
              have hnx := heap_alloc_new w8 (.cells #[.int .i64 q_kx, .string q_tx, .bool q_nx, .slice q_xo q_xn q_xc, .slice q_yo q_yn q_yc, .int .i64 q_ax, .slice q_po q_pn q_pc, .slice q_qo q_qn q_qc] 35)
              go_upto_region 15 with fail
              obtain ⟨bkQ, hbk⟩ : ∃ b, w8.heap.size = b := ⟨_, rfl⟩
              generalize w8.alloc (.cells #[.int .i64 q_kx, .string q_tx, .bool q_nx, .slice q_xo q_xn q_xc, .slice q_yo q_yn q_yc, .int .i64 q_ax, .slice q_po q_pn q_pc, .slice q_qo q_qn q_qc] 35) = w9 at *
              have HB13 := Lib.hid (HB11.out.trans (hbx.mono HB11.out.size))
              have RX13 := Lib.hid ((hbx.block _ (Array.getElem?_eq_some_iff.1 RX11.out).1).trans RX11.out)
              have RA13 := Lib.hid ((hbx.block _ (Array.getElem?_eq_some_iff.1 RA11.out).1).trans RA11.out)
              have RB13 := Lib.hid ((hbx.block _ (Array.getElem?_eq_some_iff.1 RB11.out).1).trans RB11.out)
              have RJ13 := Lib.hid ((hbx.block _ (Array.getElem?_eq_some_iff.1 RJ11.out).1).trans RJ11.out)
              have RP13 := Lib.hid ((hbx.block _ (Array.getElem?_eq_some_iff.1 RP11.out).1).trans RP11.out)
              have FJ13 := Lib.hid (FJ11.out.below hbx)
              have FP13 := Lib.hid (FP11.out.keep hbx)
              have FQ13 := Lib.hid (FQ12.out.keep hbx)
              clear RX11 RA11 RB11 RJ11 RP11 FJ11 FP11 FQ12
              rw [hbk] at hnx ⊢
              have RQ13 := Lib.hid hnx
              clear hbx hnx hbk
              obtain ⟨er3, HERR⟩ : ∃ z, Hid (pshE J.1 J.2.1 D = z) := ⟨_, Lib.hid rfl⟩
              have FJX := Lib.hid FJ13.out
              go_upto_region 15 with fail
              have HLX := Lib.hid (And.intro (Array.getElem?_eq_some_iff.1 RX13.out).1 (Array.getElem?_eq_some_iff.1 RJ13.out).1)
              refine wp_region_late 8 7 5 16 104 (psi [isV (.agg #[.int .i64 kx, .string tx, .bool nx, .slice xo xn xc, .slice yo yn yc, .int .i64 ax, .slice po pn pc, .slice qo qn qc]), isOx D, isV (.agg #[.slice jmo J.1.length jmc, .slice jso J.2.1.length jsc]), isRes er3 (pshR J.1 J.2.1 D), isRes er3 (pshR J.1 J.2.1 D), isPs (pshR J.1 J.2.1 D), isV (.int .i64 er3), isBoxS w9.heap.size, nothing, isV (.int .i64 er3)]) (fun W => Below w9.heap.size w9 W) (FillsS) (by kernel_rfl) (Below.refl _ _).drew (psi_mono ?_) (by kernel_rfl) (by kernel_rfl) (by kernel_rfl) ?_ ?_
              · intro pq hp
                simp only [List.mem_cons, List.not_mem_nil, or_false] at hp
                (repeat' rcases hp with rfl | hp) <;> first | exact isV_stays _ | exact nothing_stays | (subst hp; first | exact isV_stays _ | exact nothing_stays) | exact isBoxS_stays _ | exact isOx_stays _ | exact isPs_stays _ | exact isRes_stays _ _ | (subst hp; exact isBoxS_stays _) | (subst hp; exact isOx_stays _) | (subst hp; exact isPs_stays _) | (subst hp; exact isRes_stays _ _)
              · refine AllOps.cons ?_ ?_
                · refine OpL.early (by kernel_rfl) (by kernel_rfl) fun ab W hC hB hdep => ?_
                  refine .inl ⟨rfl, ?_⟩
                  have b0 : ab.tmps.getD 4 undef = .pointer (some ⟨w.heap.size, 0, none⟩) := hB.off 4 (by kernel_rfl)
                  obtain ⟨c0, c1, c2, c3, c4, c5, c6, c7⟩ := rowS8 ((hC.block _ HLX.out.1).trans RX13.out)
                  clear hB hdep
                  refine goes_value (v := .agg #[.int .i64 kx, .string tx, .bool nx, .slice xo xn xc, .slice yo yn yc, .int .i64 ax, .slice po pn pc, .slice qo qn qc]) ?_ hC rfl
                  simp only [execOp, Act.eval, b0]
                  go_simp
                refine AllOps.cons ?_ ?_
                · refine OpL.early (by kernel_rfl) (by kernel_rfl) fun ab W hC hB hdep => ?_
                  refine .inl ⟨rfl, ?_⟩
                  obtain ⟨x0, (q0 : (isV (.agg #[.int .i64 kx, .string tx, .bool nx, .slice xo xn xc, .slice yo yn yc, .int .i64 ax, .slice po pn pc, .slice qo qn qc])) x0 W), e0⟩ := hdep 0 100 (by kernel_rfl)
                  obtain rfl : x0 = .agg #[.int .i64 kx, .string tx, .bool nx, .slice xo xn xc, .slice yo yn yc, .int .i64 ax, .slice po pn pc, .slice qo qn qc] := q0
                  clear hB hdep
                  refine goes_call (f := 24) (args := #[.agg #[.int .i64 kx, .string tx, .bool nx, .slice xo xn xc, .slice yo yn yc, .int .i64 ax, .slice po pn pc, .slice qo qn qc]]) ?_ ?_
                  · simp only [execOp]
                    go_simp
                  · exact (own_sxK D HSM.out.owk _ W (HD.out.keep (HB13.out.trans (hC.mono HB13.out.size)))).mono fun e w7 ⟨vs, he, hl, hb⟩ => ⟨_, he, hC.trans (hb.mono hC.size), hb, ⟨vs, rfl, hl.lay⟩⟩
                refine AllOps.cons ?_ ?_
                · refine OpL.early (by kernel_rfl) (by kernel_rfl) fun ab W hC hB hdep => ?_
                  refine .inl ⟨rfl, ?_⟩
                  have b0 : ab.tmps.getD 10 undef = .pointer (some ⟨bkJ, 0, none⟩) := hB.off 10 (by kernel_rfl)
                  obtain ⟨c0, c1, _, _⟩ := rowp2d ((hC.block _ HLX.out.2).trans RJ13.out)
                  clear hB hdep
                  refine goes_value (v := .agg #[.slice jmo J.1.length jmc, .slice jso J.2.1.length jsc]) ?_ hC rfl
                  simp only [execOp, Act.eval, b0]
                  go_simp
                refine AllOps.cons ?_ ?_
                · refine OpL.early (by kernel_rfl) (by kernel_rfl) fun ab W hC hB hdep => ?_
                  refine .inl ⟨rfl, ?_⟩
                  obtain ⟨x0, (q0 : (isOx D) x0 W), e0⟩ := hdep 1 101 (by kernel_rfl)
                  skip
                  obtain ⟨x1, (q1 : (isV (.agg #[.slice jmo J.1.length jmc, .slice jso J.2.1.length jsc])) x1 W), e1⟩ := hdep 2 102 (by kernel_rfl)
                  obtain rfl : x1 = .agg #[.slice jmo J.1.length jmc, .slice jso J.2.1.length jsc] := q1
                  clear hB hdep
                  refine goes_call (f := 23) (args := #[x0, .agg #[.slice jmo J.1.length jmc, .slice jso J.2.1.length jsc]]) ?_ ?_
                  · simp only [execOp]
                    go_simp
                  · obtain ⟨ua, rfl, hla⟩ := q0
                    exact (push_any D ua _ J.1 J.2.1 W hla HSM.out (FJX.out.wr.below hC) (HT.out.below (HB13.out.trans (hC.mono HB13.out.size)) (Nat.le_refl _))).mono fun e w7 ⟨us7, he, hl, hb⟩ => ⟨_, by rw [HERR.out] at he; exact he, hC.trans (hb.mono hC.size), hb, ⟨us7, _, rfl, hl⟩⟩
                refine AllOps.cons ?_ ?_
                · refine OpL.early (by kernel_rfl) (by kernel_rfl) fun ab W hC hB hdep => ?_
                  refine .inl ⟨rfl, ?_⟩
                  obtain ⟨x0, (q0 : (isRes er3 (pshR J.1 J.2.1 D)) x0 W), e0⟩ := hdep 3 103 (by kernel_rfl)
                  obtain ⟨us0, S0, rfl, hs0⟩ := q0
                  clear hB hdep
                  refine goes_value (v := .tuple #[.agg us0.toArray, .int .i64 er3]) ?_ hC ⟨us0, S0, rfl, hs0⟩
                  simp only [execOp, Act.eval, e0]
                  go_simp
                refine AllOps.cons ?_ ?_
                · refine OpL.early (by kernel_rfl) (by kernel_rfl) fun ab W hC hB hdep => ?_
                  refine .inl ⟨rfl, ?_⟩
                  obtain ⟨x0, (q0 : (isRes er3 (pshR J.1 J.2.1 D)) x0 W), e0⟩ := hdep 4 99 (by kernel_rfl)
                  obtain ⟨us0, S0, rfl, hs0⟩ := q0
                  clear hB hdep
                  refine goes_value (v := .agg us0.toArray) ?_ hC ⟨us0, S0, rfl, hs0⟩
                  simp only [execOp, Act.eval, e0]
                  go_simp
                refine AllOps.cons ?_ ?_
                · refine OpL.pure (by kernel_rfl) (by kernel_rfl) fun ab W W1 hC hB hdep => .inl ⟨rfl, ?_⟩
                  obtain ⟨x0, (q0 : (isRes er3 (pshR J.1 J.2.1 D)) x0 W), e0⟩ := hdep 4 99 (by kernel_rfl)
                  obtain ⟨us0, S0, rfl, hs0⟩ := q0
                  clear hB hdep
                  refine ⟨.int .i64 er3, ?_, rfl⟩
                  simp only [execOp, Act.eval, e0]
                  go_simp
                refine AllOps.cons ?_ ?_
                · refine OpL.early (by kernel_rfl) (by kernel_rfl) fun ab W hC hB hdep => ?_
                  refine .inl ⟨rfl, ?_⟩
                  clear hB hdep
                  refine goes_world (v := .pointer (some ⟨W.heap.size, 0, none⟩)) (w1 := W.alloc (.cells #[.int .i64 0, .string ⟨#[]⟩, .bool false, .slice none 0 0, .slice none 0 0, .int .i64 0, .slice none 0 0, .slice none 0 0] 35)) ?_ (hC.trans ((below1 W _).mono hC.size)) (below1 W _) ⟨_, rfl, hC.size, heap_alloc_new W _⟩
                  simp only [execOp]
                  go_simp
                refine AllOps.cons ?_ ?_
                · refine OpL.write (by kernel_rfl) fun vals ab W hC hB hdep => ⟨rfl, ?_⟩
                  obtain ⟨(q0 : (isBoxS w9.heap.size) (vals 7) W), e0⟩ := hdep 7 16 (by kernel_rfl)
                  generalize vals 7 = x0 at *
                  obtain ⟨g0, rfl, hge0, hg0⟩ := q0
                  obtain ⟨(q1 : (isPs (pshR J.1 J.2.1 D)) (vals 5) W), e1⟩ := hdep 5 104 (by kernel_rfl)
                  generalize vals 5 = x1 at *
                  obtain ⟨us1, S1, rfl, hs1⟩ := q1
                  obtain ⟨ka, ta, na, xoa, xna, xca, yoa, yna, yca, aa, poa, pna, pca, qoa, qna, qca, rfl⟩ := sx_shapes hs1.lay
                  clear hB hdep
                  obtain ⟨c0, c1, c2, c3, c4, c5, c6, c7⟩ := rowS8 hg0
                  have z0 := frozen_heap hg0 0
                  have z1 := frozen_heap hg0 1
                  have z2 := frozen_heap hg0 2
                  have z3 := frozen_heap hg0 3
                  have z4 := frozen_heap hg0 4
                  have z5 := frozen_heap hg0 5
                  have z6 := frozen_heap hg0 6
                  have z7 := frozen_heap hg0 7
                  refine writes_skip (w1 := put8w W g0 (.int .i64 ka) (.string ta) (.bool na) (.slice xoa xna xca) (.slice yoa yna yca) (.int .i64 aa) (.slice poa pna pca) (.slice qoa qna qca)) ?_ ⟨_, _, _, _, _, _, _, _, _, rfl, rfl, rfl⟩
                  unfold put8w
                  simp only [execOp, Act.eval, e0, e1]
                  go_simp
                refine AllOps.cons ?_ ?_
                · refine OpL.pure (by kernel_rfl) (by kernel_rfl) fun ab W W1 hC hB hdep => .inl ⟨rfl, ?_⟩
                  obtain ⟨x0, (q0 : (isV (.int .i64 er3)) x0 W), e0⟩ := hdep 6 105 (by kernel_rfl)
                  obtain rfl : x0 = .int .i64 er3 := q0
                  clear hB hdep
                  refine ⟨.int .i64 er3, ?_, rfl⟩
                  simp only [execOp, Act.eval, e0]
                  go_simp
                exact trivial
              · intro vals aa W0 wRr hC hFin hB hall
                obtain ⟨(k0 : (isV (.agg #[.int .i64 kx, .string tx, .bool nx, .slice xo xn xc, .slice yo yn yc, .int .i64 ax, .slice po pn pc, .slice qo qn qc])) (vals 0) W0), e0⟩ := hall 0 _ rfl (by decide)
                obtain ⟨(k1 : (isOx D) (vals 1) W0), e1⟩ := hall 1 _ rfl (by decide)
                obtain ⟨(k2 : (isV (.agg #[.slice jmo J.1.length jmc, .slice jso J.2.1.length jsc])) (vals 2) W0), e2⟩ := hall 2 _ rfl (by decide)
                obtain ⟨(k3 : (isRes er3 (pshR J.1 J.2.1 D)) (vals 3) W0), e3⟩ := hall 3 _ rfl (by decide)
                obtain ⟨(k4 : (isRes er3 (pshR J.1 J.2.1 D)) (vals 4) W0), e4⟩ := hall 4 _ rfl (by decide)
                obtain ⟨(k5 : (isPs (pshR J.1 J.2.1 D)) (vals 5) W0), e5⟩ := hall 5 _ rfl (by decide)
                obtain ⟨(k6 : (isV (.int .i64 er3)) (vals 6) W0), e6⟩ := hall 6 _ rfl (by decide)
                obtain ⟨(k7 : (isBoxS w9.heap.size) (vals 7) W0), e7⟩ := hall 7 _ rfl (by decide)
                obtain ⟨(k9 : (isV (.int .i64 er3)) (vals 9) W0), e9⟩ := hall 9 _ rfl (by decide)
                have hv : ∀ pq ∈ [((100 : Nat), (.agg #[.int .i64 kx, .string tx, .bool nx, .slice xo xn xc, .slice yo yn yc, .int .i64 ax, .slice po pn pc, .slice qo qn qc] : Value)), ((101 : Nat), (vals 1 : Value)), ((102 : Nat), (.agg #[.slice jmo J.1.length jmc, .slice jso J.2.1.length jsc] : Value)), ((103 : Nat), (vals 3 : Value)), ((99 : Nat), (vals 4 : Value)), ((104 : Nat), (vals 5 : Value)), ((105 : Nat), (.int .i64 er3 : Value)), ((16 : Nat), (vals 7 : Value)), ((17 : Nat), (.int .i64 er3 : Value))], aa.tmps.getD pq.1 undef = pq.2 := by
                  intro pq hp
                  simp only [List.mem_cons, List.not_mem_nil, or_false] at hp
                  rcases hp with rfl | rfl | rfl | rfl | rfl | rfl | rfl | rfl | rfl
                  · exact (e0 _ rfl).trans k0
                  · exact e1 _ rfl
                  · exact (e2 _ rfl).trans k2
                  · exact e3 _ rfl
                  · exact e4 _ rfl
                  · exact e5 _ rfl
                  · exact (e6 _ rfl).trans k6
                  · exact e7 _ rfl
                  · exact (e9 _ rfl).trans k9
                have hact := act_fold _ hB hv (by kernel_rfl)
                subst hact
                clear hv hall hB e0 e1 e2 e3 e4 e5 e6 e7 e9
                refine (‹∀ (a : Act) (w : World), Code.wp Tryz.prog _ _ a w → _›) _ _ ?_
                simp only [List.foldl, List.setIfInBounds_toArray, List.set_cons_succ, List.set_cons_zero]
                obtain ⟨bkR, r_kx, r_tx, r_nx, r_xo, r_xn, r_xc, r_yo, r_yn, r_yc, r_ax, r_po, r_pn, r_pc, r_qo, r_qn, r_qc, hpq, hpv, hq, hqx, hly, hb⟩ := fillsS_end hC hFin k7 k5 (nz_psh _ _ _)
                rw [hpq, hpv]
                clear hpq hpv hC hFin k3 k4 HLX
                have HGR := Lib.hid hq
                generalize vals 1 = vaR at *
                generalize vals 3 = vbR at *
                generalize vals 4 = vcR at *
                have HB14 := Lib.hid (HB13.out.trans (hb.mono HB13.out.size))
                have RX14 := Lib.hid ((hb.block _ (Array.getElem?_eq_some_iff.1 RX13.out).1).trans RX13.out)
                have RA14 := Lib.hid ((hb.block _ (Array.getElem?_eq_some_iff.1 RA13.out).1).trans RA13.out)
                have RB14 := Lib.hid ((hb.block _ (Array.getElem?_eq_some_iff.1 RB13.out).1).trans RB13.out)
                have RJ14 := Lib.hid ((hb.block _ (Array.getElem?_eq_some_iff.1 RJ13.out).1).trans RJ13.out)
                have RP14 := Lib.hid ((hb.block _ (Array.getElem?_eq_some_iff.1 RP13.out).1).trans RP13.out)
                have RQ14 := Lib.hid ((hb.block _ (Array.getElem?_eq_some_iff.1 RQ13.out).1).trans RQ13.out)
                have FJ14 := Lib.hid (FJ13.out.below hb)
                have FP14 := Lib.hid (FP13.out.keep hb)
                have FQ14 := Lib.hid (FQ13.out.keep hb)
                clear RX13 RA13 RB13 RJ13 RP13 RQ13 FJ13 FP13 FQ13
                have RR14 := Lib.hid hqx
                have FR14 := Lib.hid hly
                clear hb hqx hly hq
                obtain ⟨er2, HE2⟩ : ∃ z, Hid (pshE ma sa (opnR (pshR mb sb D)) = z) := ⟨_, Lib.hid rfl⟩
                rw [HE2.out]
                by_cases hz1 : er2 = 0
                case neg =>
                  obtain ⟨hq1, hq2⟩ := ne_int hz1
                  go_wp2_with fail
                  go_ret
                  exact ⟨rfl, HB14.out⟩
                by_cases hz2 : er3 = 0
                case neg =>
                  obtain ⟨hq1, hq2⟩ := ne_int hz2
                  subst hz1
                  go_wp2_with fail
                  go_ret
                  exact ⟨rfl, HB14.out⟩
                subst hz1 hz2
                by_cases hmb : mb = []
                case pos =>
                  obtain ⟨c10_0, c10_1, _, _⟩ := rowp2d RB14.out
                  have hm0 : mb.length = 0 := by rw [hmb]; rfl
                  clear hmb
                  go_wp2_with fail
                  go_ret
                  exact ⟨rfl, HB14.out⟩
                have hm0 : 0 < mb.length := List.length_pos_iff.2 hmb
                have HMB := Lib.hid hmb
                clear hmb
                have hm1 : ¬ ((mb.length : Nat) : Int) = 0 := by omega
                obtain ⟨hq1, hq2⟩ := ne_int hm1
                obtain ⟨c10_0, c10_1, _, _⟩ := rowp2d RB14.out
                obtain ⟨c11_0, c11_1, c11_2, c11_3, c11_4, c11_5, c11_6, c11_7⟩ := rowS8 RQ14.out
                obtain ⟨c12_0, c12_1, c12_2, c12_3, c12_4, c12_5, c12_6, c12_7⟩ := rowS8 RR14.out
                go_wp2_with fail
                clear c10_0 c10_1 c11_0 c11_1 c11_2 c11_3 c11_4 c11_5 c11_6 c11_7 c12_0 c12_1 c12_2 c12_3 c12_4 c12_5 c12_6 c12_7
                refine (xsame_any (pshR ma sa (opnR (pshR mb sb D))) (pshR J.1 J.2.1 D) _ _ wRr FQ14.out FR14.out (pshR_sms (opnR_sms (pshR_sms HSM.out (by omega)) (by omega)) (by omega)) (pshR_sms HSM.out (by omega)) (HT.out.below HB14.out (Nat.le_refl _))).mono ?_
                rintro e wz ⟨rfl, hbz⟩
                have HBZ := Lib.hid (HB14.out.trans (hbz.mono HB14.out.size))
                clear hbz hq1 hq2 hm1
                have HFS : Hid (samX (pshR ma sa (opnR (pshR mb sb D))) (pshR J.1 J.2.1 D) = true) := Lib.hid (by
                  have h := lazy_same (D := D) true (by rw [HJ.out]; exact HJE.out) HMB.out (fun j hj => HALL.out j hj) HERP.out HE2.out (by rw [HJ.out]; exact HERR.out)
                  rw [HJ.out] at h
                  exact h)
                go_wp2_with fail
                go_ret
                exact ⟨ret_bl HFS.out, HBZ.out⟩
end Go.Proofs.YtbfcbicbeagjkaaGreatDoor
