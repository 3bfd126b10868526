/- StxKeeps: what is handed in stays as it is; what is answered is not shared. Of any piece and wrap. -/
import Derived.Test.YtbfcbicbeagjkaaDoorSxKO
import Derived.Test.YtbfcbicbeagjkaaDoorSxOf
import Derived.Test.YtbfcbicbeagjkaaDoorSxEq
namespace Go.Proofs.YtbfcbicbeagjkaaDoor
open Go.RowKit

theorem SLayP.kb {P : Nat → Prop} {w w' : World} {D : Sx} {us : List Value} (h : SLayP P w D us) (hb : Below w.heap.size w w') : SLayP P w' D us := h.move (Keeps.of_below hb)
/-- A row of datums in blocks from B up to U. -/
def RoU (W : World) (B U : Nat) (v : Value) (n : Nat) : Prop := n ≤ maxLen ∧ ((∃ c, v = .slice none n c ∧ n = 0) ∨ ∃ (g cap : Nat) (cur : Array Value), v = .slice (some ⟨g, 0, none⟩) n cap ∧ B ≤ g ∧ g < U ∧ W.heap[g]? = some (.cells cur 40 (0, 0)) ∧ n * 6 ≤ cur.size)
theorem Ro.up {W : World} {B n : Nat} {v : Value} (h : Ro W B v n) : RoU W B W.heap.size v n := by
  obtain ⟨h0, h1 | ⟨g, cap, cur, hv, hB, hb, hn⟩⟩ := h
  · exact ⟨h0, .inl h1⟩
  · exact ⟨h0, .inr ⟨g, cap, cur, hv, hB, (Array.getElem?_eq_some_iff.1 hb).1, hb, hn⟩⟩
theorem RoU.keep {w w' : World} {B U n : Nat} {v : Value} (h : RoU w B U v n) {P : Nat → Prop} (hk : Keeps P w w') (hp : ∀ b, B ≤ b → b < U → P b) : RoU w' B U v n := by
  obtain ⟨h0, h1 | ⟨g, cap, cur, hv, hB, hU, hb, hn⟩⟩ := h
  · exact ⟨h0, .inl h1⟩
  · exact ⟨h0, .inr ⟨g, cap, cur, hv, hB, hU, (hk.2 g (Array.getElem?_eq_some_iff.1 hb).1 (hp g hB hU)).trans hb, hn⟩⟩
theorem RoU.kb {w w' : World} {B U n : Nat} {v : Value} (h : RoU w B U v n) (hb : Below w.heap.size w w') : RoU w' B U v n := h.keep (P := fun _ => True) (Keeps.of_below hb) fun _ _ _ => trivial
theorem RoU.set {w : World} {B U n : Nat} {v : Value} (h : RoU w B U v n) (q i : Nat) (u : Value) : RoU (w.setCell ⟨q, i, none⟩ u) B U v n := by
  obtain ⟨h0, h1 | ⟨g, cap, cur, hv, hB, hU, hb, hn⟩⟩ := h
  · exact ⟨h0, .inl h1⟩
  · refine ⟨h0, .inr ?_⟩
    by_cases e : g = q
    · subst e
      exact ⟨g, cap, _, hv, hB, hU, rowSet hb i u, by simpa using hn⟩
    · exact ⟨g, cap, cur, hv, hB, hU, (((Keeps.refl (fun b => b ≠ q) w).set (p := ⟨q, i, none⟩) (fun h => h rfl) u).2 g (Array.getElem?_eq_some_iff.1 hb).1 e).trans hb, hn⟩

set_option maxRecDepth 100000 in
set_option maxHeartbeats 16000000 in
theorem stxkeeps_any (D : Sx) (us : List Value) (x : Value) (m s : List Int) (w : World) (hd : SLay w D us) (hsm : SmS 1100000 D) (hx : Wr w x m s) (ht : Tabs w) :
    Calls Tryd.prog 3 #[.agg us.toArray, x] w fun e w' => e = .returned (.bool true) ∧ Below w.heap.size w w' := by
  have HD := Lib.hid hd
  have HSM := Lib.hid hsm
  have HT := Lib.hid ht
  have HX := Lib.hid hx
  obtain ⟨kx, tx, nx, xo, xn, xc, yo, yn, yc, ax, po, pn, pc, qo, qn, qc, rfl⟩ := sx_shapes hd
  obtain ⟨wm, ws, rfl, hwm, hws⟩ := hx.cells
  obtain ⟨_, amo, amc, rfl, _, _⟩ := hwm.cases
  obtain ⟨_, aso, asc, rfl, _, _⟩ := hws.cases
  clear hd hsm ht hx hwm hws
  have hb := below2 w (.cells #[.int .i64 kx, .string tx, .bool nx, .slice xo xn xc, .slice yo yn yc, .int .i64 ax, .slice po pn pc, .slice qo qn qc] 28) (.cells #[.slice amo m.length amc, .slice aso s.length asc] 30)
  have hn := @newsd2 w (.cells #[.int .i64 kx, .string tx, .bool nx, .slice xo xn xc, .slice yo yn yc, .int .i64 ax, .slice po pn pc, .slice qo qn qc] 28) (.cells #[.slice amo m.length amc, .slice aso s.length asc] 30)
  show Calls Tryd.prog 3 #[.agg #[.int .i64 kx, .string tx, .bool nx, .slice xo xn xc, .slice yo yn yc, .int .i64 ax, .slice po pn pc, .slice qo qn qc], .agg #[.slice amo m.length amc, .slice aso s.length asc]] w _
  go_enter Tryd.func3, Tryd.ntmps3
  go_upto_region 1 with fail
  generalize (w.alloc (.cells #[.int .i64 kx, .string tx, .bool nx, .slice xo xn xc, .slice yo yn yc, .int .i64 ax, .slice po pn pc, .slice qo qn qc] 28)).alloc (.cells #[.slice amo m.length amc, .slice aso s.length asc] 30) = w1 at *
  have HB0 := Lib.hid hb
  have RX0 := Lib.hid hn.1
  have RA0 := Lib.hid hn.2
  clear hb hn
  go_wp2_with fail
  refine (answers10_any w1 (HT.out.below HB0.out (Nat.le_refl _))).mono ?_
  rintro e w2 ⟨rfl, hb⟩
  have HB1 := Lib.hid (HB0.out.trans (hb.mono HB0.out.size))
  have RX1 := Lib.hid ((hb.block _ (Array.getElem?_eq_some_iff.1 RX0.out).1).trans RX0.out)
  have RA1 := Lib.hid ((hb.block _ (Array.getElem?_eq_some_iff.1 RA0.out).1).trans RA0.out)
  clear RX0 RA0
  clear hb
  obtain ⟨c1_0, c1_1, c1_2, c1_3, c1_4, c1_5, c1_6, c1_7⟩ := rowS8 RX1.out
  go_wp2_with fail
  refine (light_sx 100 D _ w2 1 (by omega) (by omega) (HD.out.keep HB1.out)).mono ?_
  rintro e w3 ⟨rfl, hb⟩
  clear c1_0 c1_1 c1_2 c1_3 c1_4 c1_5 c1_6 c1_7
  have HB2 := Lib.hid (HB1.out.trans (hb.mono HB1.out.size))
  have RX2 := Lib.hid ((hb.block _ (Array.getElem?_eq_some_iff.1 RX1.out).1).trans RX1.out)
  have RA2 := Lib.hid ((hb.block _ (Array.getElem?_eq_some_iff.1 RA1.out).1).trans RA1.out)
  clear RX1 RA1
  clear hb
  cases hl : lightS 100 D with
  | false =>
    clear hl
    go_wp2_with fail
    refine (answers10_any w3 (HT.out.below HB2.out (Nat.le_refl _))).mono ?_
    rintro e wz ⟨rfl, hbz⟩
    have HBZ := Lib.hid (HB2.out.trans (hbz.mono HB2.out.size))
    clear hbz
    go_wp2_with fail
    go_ret
    exact ⟨rfl, HBZ.out⟩
  | true =>
    have HLX := Lib.hid hl
    clear hl
    by_cases hlen : s.length ≤ 100 ∧ m.length ≤ 100
    case neg =>
      have h4 : 100 < s.length ∨ (s.length ≤ 100 ∧ 100 < m.length) := by omega
      clear hlen
      rcases h4 with h4 | ⟨h4, h5⟩
      all_goals
        obtain ⟨c2_0, c2_1, _, _⟩ := rowp2d RA2.out
        go_wp2_with fail
        clear c2_0 c2_1
        refine (answers10_any w3 (HT.out.below HB2.out (Nat.le_refl _))).mono ?_
        rintro e wz ⟨rfl, hbz⟩
        have HBZ := Lib.hid (HB2.out.trans (hbz.mono HB2.out.size))
        clear hbz
        go_wp2_with fail
        go_ret
        exact ⟨rfl, HBZ.out⟩
    obtain ⟨h4, h5⟩ := hlen
    obtain ⟨c2_0, c2_1, c2_2, c2_3, c2_4, c2_5, c2_6, c2_7⟩ := rowS8 RX2.out
    obtain ⟨c3_0, c3_1, _, _⟩ := rowp2d RA2.out
    go_wp2_with fail
    clear h4 h5
    refine (own_sxK D HSM.out.owk _ w3 (HD.out.keep HB2.out)).mono ?_
    rintro e w4 ⟨vs, rfl, hl, hb⟩
    clear c2_0 c2_1 c2_2 c2_3 c2_4 c2_5 c2_6 c2_7 c3_0 c3_1
    obtain ⟨i_kx, i_tx, i_nx, i_xo, i_xn, i_xc, i_yo, i_yn, i_yc, i_ax, i_po, i_pn, i_pc, i_qo, i_qn, i_qc, rfl⟩ := sx_shapes hl.lay
    have hll := hl.lay
    clear hl
    have HB3 := Lib.hid (HB2.out.trans (hb.mono HB2.out.size))
    have RX3 := Lib.hid ((hb.block _ (Array.getElem?_eq_some_iff.1 RX2.out).1).trans RX2.out)
    have RA3 := Lib.hid ((hb.block _ (Array.getElem?_eq_some_iff.1 RA2.out).1).trans RA2.out)
    clear RX2 RA2
    clear hb
    have FI4 := Lib.hid hll
    clear hll
    have hbx := below1 w4 (.cells #[.int .i64 i_kx, .string i_tx, .bool i_nx, .slice i_xo i_xn i_xc, .slice i_yo i_yn i_yc, .int .i64 i_ax, .slice i_po i_pn i_pc, .slice i_qo i_qn i_qc] 28)
    have hnx := heap_alloc_new w4 (.cells #[.int .i64 i_kx, .string i_tx, .bool i_nx, .slice i_xo i_xn i_xc, .slice i_yo i_yn i_yc, .int .i64 i_ax, .slice i_po i_pn i_pc, .slice i_qo i_qn i_qc] 28)
    go_upto_region 4 with fail
    obtain ⟨bkI, hbk⟩ : ∃ b, w4.heap.size = b := ⟨_, rfl⟩
    generalize w4.alloc (.cells #[.int .i64 i_kx, .string i_tx, .bool i_nx, .slice i_xo i_xn i_xc, .slice i_yo i_yn i_yc, .int .i64 i_ax, .slice i_po i_pn i_pc, .slice i_qo i_qn i_qc] 28) = w5 at *
    have HB5 := Lib.hid (HB3.out.trans (hbx.mono HB3.out.size))
    have RX5 := Lib.hid ((hbx.block _ (Array.getElem?_eq_some_iff.1 RX3.out).1).trans RX3.out)
    have RA5 := Lib.hid ((hbx.block _ (Array.getElem?_eq_some_iff.1 RA3.out).1).trans RA3.out)
    have FI5 := Lib.hid (FI4.out.keep hbx)
    clear RX3 RA3 FI4
    rw [hbk] at hnx ⊢
    have RI5 := Lib.hid hnx
    clear hbx hnx hbk
    obtain ⟨n1, HNn1⟩ : ∃ n, Hid (w5.heap.size = n) := ⟨_, Lib.hid rfl⟩
    have HLn1 : Hid (bkI < n1) := Lib.hid (by rw [← HNn1.out]; exact (Array.getElem?_eq_some_iff.1 RI5.out).1)
    have HLA : Hid (w.heap.size + 1 < n1) := Lib.hid (by rw [← HNn1.out]; exact (Array.getElem?_eq_some_iff.1 RA5.out).1)
    have hli := (FI5.out).layP
    rw [HNn1.out] at hli
    clear FI5
    have FI6 := Lib.hid hli
    clear hli
    obtain ⟨c4_0, c4_1, c4_2, c4_3, c4_4, c4_5, c4_6, c4_7⟩ := rowS8 RI5.out
    obtain ⟨c5_0, c5_1, _, _⟩ := rowp2d RA5.out
    go_wp2_with fail
    clear c4_0 c4_1 c4_2 c4_3 c4_4 c4_5 c4_6 c4_7 c5_0 c5_1
    refine (push_any D _ _ m s w5 (FI6.out).lay HSM.out (HX.out.below HB5.out) (HT.out.below HB5.out (Nat.le_refl _))).mono ?_
    rintro e w6 ⟨us7, rfl, hso7, hb⟩
    obtain ⟨p_kx, p_tx, p_nx, p_xo, p_xn, p_xc, p_yo, p_yn, p_yc, p_ax, p_po, p_pn, p_pc, p_qo, p_qn, p_qc, rfl⟩ := sx_shapes hso7.lay
    have hge := hb.size
    rw [HNn1.out] at hso7 hge
    have HB7 := Lib.hid (HB5.out.trans (hb.mono HB5.out.size))
    have RX7 := Lib.hid ((hb.block _ (Array.getElem?_eq_some_iff.1 RX5.out).1).trans RX5.out)
    have RA7 := Lib.hid ((hb.block _ (Array.getElem?_eq_some_iff.1 RA5.out).1).trans RA5.out)
    have RI7 := Lib.hid ((hb.block _ (Array.getElem?_eq_some_iff.1 RI5.out).1).trans RI5.out)
    have FI7 := Lib.hid (FI6.out.kb hb)
    clear RX5 RA5 RI5 FI6
    clear hb
    have hbx := below1 w6 (.cells #[.int .i64 p_kx, .string p_tx, .bool p_nx, .slice p_xo p_xn p_xc, .slice p_yo p_yn p_yc, .int .i64 p_ax, .slice p_po p_pn p_pc, .slice p_qo p_qn p_qc] 28)
    have hnx := heap_alloc_new w6 (.cells #[.int .i64 p_kx, .string p_tx, .bool p_nx, .slice p_xo p_xn p_xc, .slice p_yo p_yn p_yc, .int .i64 p_ax, .slice p_po p_pn p_pc, .slice p_qo p_qn p_qc] 28)
    have hso8 := hso7.under hbx
    clear hso7
    go_upto_region 5 with fail
    obtain ⟨bkP, hbk⟩ : ∃ b, w6.heap.size = b := ⟨_, rfl⟩
    generalize w6.alloc (.cells #[.int .i64 p_kx, .string p_tx, .bool p_nx, .slice p_xo p_xn p_xc, .slice p_yo p_yn p_yc, .int .i64 p_ax, .slice p_po p_pn p_pc, .slice p_qo p_qn p_qc] 28) = w7 at *
    have HB8 := Lib.hid (HB7.out.trans (hbx.mono HB7.out.size))
    have RX8 := Lib.hid ((hbx.block _ (Array.getElem?_eq_some_iff.1 RX7.out).1).trans RX7.out)
    have RA8 := Lib.hid ((hbx.block _ (Array.getElem?_eq_some_iff.1 RA7.out).1).trans RA7.out)
    have RI8 := Lib.hid ((hbx.block _ (Array.getElem?_eq_some_iff.1 RI7.out).1).trans RI7.out)
    have FI8 := Lib.hid (FI7.out.kb hbx)
    clear RX7 RA7 RI7 FI7
    rw [hbk] at hnx hge hso8 ⊢
    have RP8 := Lib.hid hnx
    have HEn1 := Lib.hid hge
    clear hbx hnx hbk hge
    have FP9 := Lib.hid hso8
    clear hso8
    obtain ⟨n2, HNn2⟩ : ∃ n, Hid (w7.heap.size = n) := ⟨_, Lib.hid rfl⟩
    have HLn2 : Hid (bkP < n2) := Lib.hid (by rw [← HNn2.out]; exact (Array.getElem?_eq_some_iff.1 RP8.out).1)
    obtain ⟨c6_0, c6_1, c6_2, c6_3, c6_4, c6_5, c6_6, c6_7⟩ := rowS8 RI8.out
    go_wp2_with fail
    clear c6_0 c6_1 c6_2 c6_3 c6_4 c6_5 c6_6 c6_7
    refine (open1_any D _ w7 (FI8.out).lay HSM.out (HT.out.below HB8.out (Nat.le_refl _))).mono ?_
    rintro e w8 ⟨us7, rfl, hso7, hb⟩
    obtain ⟨o_kx, o_tx, o_nx, o_xo, o_xn, o_xc, o_yo, o_yn, o_yc, o_ax, o_po, o_pn, o_pc, o_qo, o_qn, o_qc, rfl⟩ := sx_shapes hso7.lay
    have hge := hb.size
    rw [HNn2.out] at hso7 hge
    have HB10 := Lib.hid (HB8.out.trans (hb.mono HB8.out.size))
    have RX10 := Lib.hid ((hb.block _ (Array.getElem?_eq_some_iff.1 RX8.out).1).trans RX8.out)
    have RA10 := Lib.hid ((hb.block _ (Array.getElem?_eq_some_iff.1 RA8.out).1).trans RA8.out)
    have RI10 := Lib.hid ((hb.block _ (Array.getElem?_eq_some_iff.1 RI8.out).1).trans RI8.out)
    have RP10 := Lib.hid ((hb.block _ (Array.getElem?_eq_some_iff.1 RP8.out).1).trans RP8.out)
    have FI10 := Lib.hid (FI8.out.kb hb)
    have FP10 := Lib.hid (FP9.out.under hb)
    clear RX8 RA8 RI8 RP8 FI8 FP9
    clear hb
    have hbx := below1 w8 (.cells #[.int .i64 o_kx, .string o_tx, .bool o_nx, .slice o_xo o_xn o_xc, .slice o_yo o_yn o_yc, .int .i64 o_ax, .slice o_po o_pn o_pc, .slice o_qo o_qn o_qc] 28)
    have hnx := heap_alloc_new w8 (.cells #[.int .i64 o_kx, .string o_tx, .bool o_nx, .slice o_xo o_xn o_xc, .slice o_yo o_yn o_yc, .int .i64 o_ax, .slice o_po o_pn o_pc, .slice o_qo o_qn o_qc] 28)
    have hso8 := hso7.under hbx
    clear hso7
    go_upto_region 6 with fail
    obtain ⟨bkO, hbk⟩ : ∃ b, w8.heap.size = b := ⟨_, rfl⟩
    generalize w8.alloc (.cells #[.int .i64 o_kx, .string o_tx, .bool o_nx, .slice o_xo o_xn o_xc, .slice o_yo o_yn o_yc, .int .i64 o_ax, .slice o_po o_pn o_pc, .slice o_qo o_qn o_qc] 28) = w9 at *
    have HB11 := Lib.hid (HB10.out.trans (hbx.mono HB10.out.size))
    have RX11 := Lib.hid ((hbx.block _ (Array.getElem?_eq_some_iff.1 RX10.out).1).trans RX10.out)
    have RA11 := Lib.hid ((hbx.block _ (Array.getElem?_eq_some_iff.1 RA10.out).1).trans RA10.out)
    have RI11 := Lib.hid ((hbx.block _ (Array.getElem?_eq_some_iff.1 RI10.out).1).trans RI10.out)
    have RP11 := Lib.hid ((hbx.block _ (Array.getElem?_eq_some_iff.1 RP10.out).1).trans RP10.out)
    have FI11 := Lib.hid (FI10.out.kb hbx)
    have FP11 := Lib.hid (FP10.out.under hbx)
    clear RX10 RA10 RI10 RP10 FI10 FP10
    rw [hbk] at hnx hge hso8 ⊢
    have RO11 := Lib.hid hnx
    have HEn2 := Lib.hid hge
    clear hbx hnx hbk hge
    have FO12 := Lib.hid hso8
    clear hso8
    obtain ⟨n3, HNn3⟩ : ∃ n, Hid (w9.heap.size = n) := ⟨_, Lib.hid rfl⟩
    have HLn3 : Hid (bkO < n3) := Lib.hid (by rw [← HNn3.out]; exact (Array.getElem?_eq_some_iff.1 RO11.out).1)
    obtain ⟨c7_0, c7_1, c7_2, c7_3, c7_4, c7_5, c7_6, c7_7⟩ := rowS8 RI11.out
    go_wp2_with fail
    clear c7_0 c7_1 c7_2 c7_3 c7_4 c7_5 c7_6 c7_7
    refine (flat_any D _ w9 (FI11.out).lay HSM.out (HT.out.below HB11.out (Nat.le_refl _))).mono ?_
    rintro e w10 ⟨us7, rfl, hso7, hb⟩
    obtain ⟨f_kx, f_tx, f_nx, f_xo, f_xn, f_xc, f_yo, f_yn, f_yc, f_ax, f_po, f_pn, f_pc, f_qo, f_qn, f_qc, rfl⟩ := sx_shapes hso7.lay
    have hge := hb.size
    rw [HNn3.out] at hso7 hge
    have HB13 := Lib.hid (HB11.out.trans (hb.mono HB11.out.size))
    have RX13 := Lib.hid ((hb.block _ (Array.getElem?_eq_some_iff.1 RX11.out).1).trans RX11.out)
    have RA13 := Lib.hid ((hb.block _ (Array.getElem?_eq_some_iff.1 RA11.out).1).trans RA11.out)
    have RI13 := Lib.hid ((hb.block _ (Array.getElem?_eq_some_iff.1 RI11.out).1).trans RI11.out)
    have RP13 := Lib.hid ((hb.block _ (Array.getElem?_eq_some_iff.1 RP11.out).1).trans RP11.out)
    have RO13 := Lib.hid ((hb.block _ (Array.getElem?_eq_some_iff.1 RO11.out).1).trans RO11.out)
    have FI13 := Lib.hid (FI11.out.kb hb)
    have FP13 := Lib.hid (FP11.out.under hb)
    have FO13 := Lib.hid (FO12.out.under hb)
    clear RX11 RA11 RI11 RP11 RO11 FI11 FP11 FO12
    clear hb
    have hbx := below1 w10 (.cells #[.int .i64 f_kx, .string f_tx, .bool f_nx, .slice f_xo f_xn f_xc, .slice f_yo f_yn f_yc, .int .i64 f_ax, .slice f_po f_pn f_pc, .slice f_qo f_qn f_qc] 28)
    have hnx := heap_alloc_new w10 (.cells #[.int .i64 f_kx, .string f_tx, .bool f_nx, .slice f_xo f_xn f_xc, .slice f_yo f_yn f_yc, .int .i64 f_ax, .slice f_po f_pn f_pc, .slice f_qo f_qn f_qc] 28)
    have hso8 := hso7.under hbx
    clear hso7
    go_upto_region 7 with fail
    obtain ⟨bkF, hbk⟩ : ∃ b, w10.heap.size = b := ⟨_, rfl⟩
    generalize w10.alloc (.cells #[.int .i64 f_kx, .string f_tx, .bool f_nx, .slice f_xo f_xn f_xc, .slice f_yo f_yn f_yc, .int .i64 f_ax, .slice f_po f_pn f_pc, .slice f_qo f_qn f_qc] 28) = w11 at *
    have HB14 := Lib.hid (HB13.out.trans (hbx.mono HB13.out.size))
    have RX14 := Lib.hid ((hbx.block _ (Array.getElem?_eq_some_iff.1 RX13.out).1).trans RX13.out)
    have RA14 := Lib.hid ((hbx.block _ (Array.getElem?_eq_some_iff.1 RA13.out).1).trans RA13.out)
    have RI14 := Lib.hid ((hbx.block _ (Array.getElem?_eq_some_iff.1 RI13.out).1).trans RI13.out)
    have RP14 := Lib.hid ((hbx.block _ (Array.getElem?_eq_some_iff.1 RP13.out).1).trans RP13.out)
    have RO14 := Lib.hid ((hbx.block _ (Array.getElem?_eq_some_iff.1 RO13.out).1).trans RO13.out)
    have FI14 := Lib.hid (FI13.out.kb hbx)
    have FP14 := Lib.hid (FP13.out.under hbx)
    have FO14 := Lib.hid (FO13.out.under hbx)
    clear RX13 RA13 RI13 RP13 RO13 FI13 FP13 FO13
    rw [hbk] at hnx hge hso8 ⊢
    have RF14 := Lib.hid hnx
    have HEn3 := Lib.hid hge
    clear hbx hnx hbk hge
    have FF15 := Lib.hid hso8
    clear hso8
    obtain ⟨n4, HNn4⟩ : ∃ n, Hid (w11.heap.size = n) := ⟨_, Lib.hid rfl⟩
    have HLn4 : Hid (bkF < n4) := Lib.hid (by rw [← HNn4.out]; exact (Array.getElem?_eq_some_iff.1 RF14.out).1)
    obtain ⟨c8_0, c8_1, c8_2, c8_3, c8_4, c8_5, c8_6, c8_7⟩ := rowS8 RI14.out
    go_wp2_with fail
    clear c8_0 c8_1 c8_2 c8_3 c8_4 c8_5 c8_6 c8_7
    refine (stripO_any D _ w11 (FI14.out).lay HSM.out (HT.out.below HB14.out (Nat.le_refl _))).mono ?_
    rintro e w12 ⟨y0, y1, y2, lo, ln, lc, ao, an, ac, y5, er, rfl, hso7, hb⟩
    have hso7 := hso7.up
    have hge := hb.size
    rw [HNn4.out] at hso7 hge
    have HB16 := Lib.hid (HB14.out.trans (hb.mono HB14.out.size))
    have RX16 := Lib.hid ((hb.block _ (Array.getElem?_eq_some_iff.1 RX14.out).1).trans RX14.out)
    have RA16 := Lib.hid ((hb.block _ (Array.getElem?_eq_some_iff.1 RA14.out).1).trans RA14.out)
    have RI16 := Lib.hid ((hb.block _ (Array.getElem?_eq_some_iff.1 RI14.out).1).trans RI14.out)
    have RP16 := Lib.hid ((hb.block _ (Array.getElem?_eq_some_iff.1 RP14.out).1).trans RP14.out)
    have RO16 := Lib.hid ((hb.block _ (Array.getElem?_eq_some_iff.1 RO14.out).1).trans RO14.out)
    have RF16 := Lib.hid ((hb.block _ (Array.getElem?_eq_some_iff.1 RF14.out).1).trans RF14.out)
    have FI16 := Lib.hid (FI14.out.kb hb)
    have FP16 := Lib.hid (FP14.out.under hb)
    have FO16 := Lib.hid (FO14.out.under hb)
    have FF16 := Lib.hid (FF15.out.under hb)
    clear RX14 RA14 RI14 RP14 RO14 RF14 FI14 FP14 FO14 FF15
    clear hb
    have hbx := below1 w12 (.cells #[.int .i64 y0, .string y1, .bool y2, .slice lo ln lc, .slice ao an ac, .int .i64 y5] 40)
    have hnx := heap_alloc_new w12 (.cells #[.int .i64 y0, .string y1, .bool y2, .slice lo ln lc, .slice ao an ac, .int .i64 y5] 40)
    have hso8 := hso7.kb hbx
    clear hso7
    go_upto_region 8 with fail
    obtain ⟨bkT, hbk⟩ : ∃ b, w12.heap.size = b := ⟨_, rfl⟩
    generalize w12.alloc (.cells #[.int .i64 y0, .string y1, .bool y2, .slice lo ln lc, .slice ao an ac, .int .i64 y5] 40) = w13 at *
    have HB17 := Lib.hid (HB16.out.trans (hbx.mono HB16.out.size))
    have RX17 := Lib.hid ((hbx.block _ (Array.getElem?_eq_some_iff.1 RX16.out).1).trans RX16.out)
    have RA17 := Lib.hid ((hbx.block _ (Array.getElem?_eq_some_iff.1 RA16.out).1).trans RA16.out)
    have RI17 := Lib.hid ((hbx.block _ (Array.getElem?_eq_some_iff.1 RI16.out).1).trans RI16.out)
    have RP17 := Lib.hid ((hbx.block _ (Array.getElem?_eq_some_iff.1 RP16.out).1).trans RP16.out)
    have RO17 := Lib.hid ((hbx.block _ (Array.getElem?_eq_some_iff.1 RO16.out).1).trans RO16.out)
    have RF17 := Lib.hid ((hbx.block _ (Array.getElem?_eq_some_iff.1 RF16.out).1).trans RF16.out)
    have FI17 := Lib.hid (FI16.out.kb hbx)
    have FP17 := Lib.hid (FP16.out.under hbx)
    have FO17 := Lib.hid (FO16.out.under hbx)
    have FF17 := Lib.hid (FF16.out.under hbx)
    clear RX16 RA16 RI16 RP16 RO16 RF16 FI16 FP16 FO16 FF16
    rw [hbk] at hnx hge hso8 ⊢
    have RT17 := Lib.hid hnx
    have HEn4 := Lib.hid hge
    clear hbx hnx hbk hge
    have FT18 := Lib.hid hso8
    clear hso8
    have HQ : Hid (w.heap.size + 1 < n1 ∧ bkI < n1 ∧ n1 ≤ bkP ∧ bkP < n2 ∧ n2 ≤ bkO ∧ bkO < n3 ∧ n3 ≤ bkF ∧ bkF < n4 ∧ n4 ≤ bkT) := Lib.hid ⟨HLA.out, HLn1.out, HEn1.out, HLn2.out, HEn2.out, HLn3.out, HEn3.out, HLn4.out, HEn4.out⟩
    clear HNn1 HNn2 HNn3 HNn4 HLn1 HLn2 HLn3 HLn4 HEn1 HEn2 HEn3 HEn4 HLA
    go_wp2_with fail
    have hq := HQ.out
    have hlb := (Array.getElem?_eq_some_iff.1 RP17.out).1
    refine (spoil_any (pshR m s D).sz (pshR m s D) (Nat.le_refl _) [.int .i64 p_kx, .string p_tx, .bool p_nx, .slice p_xo p_xn p_xc, .slice p_yo p_yn p_yc, .int .i64 p_ax, .slice p_po p_pn p_pc, .slice p_qo p_qn p_qc] (fun b => n1 ≤ b ∧ b < bkP) bkP 0 #[.int .i64 p_kx, .string p_tx, .bool p_nx, .slice p_xo p_xn p_xc, .slice p_yo p_yn p_yc, .int .i64 p_ax, .slice p_po p_pn p_pc, .slice p_qo p_qn p_qc] w13 FP17.out (fun c hc => by omega) (fun h => by omega) RP17.out (Nat.le_refl 8) rfl).mono ?_
    rintro e w14 ⟨rfl, hk, hb⟩
    clear hlb
    have HB19 := Lib.hid (HB17.out.trans (hb w.heap.size (fun c hc => by omega) HB17.out.size))
    have RX19 := Lib.hid ((hk.2 _ (Array.getElem?_eq_some_iff.1 RX17.out).1 (fun h => by omega)).trans RX17.out)
    have RI19 := Lib.hid ((hk.2 _ (Array.getElem?_eq_some_iff.1 RI17.out).1 (fun h => by omega)).trans RI17.out)
    have RO19 := Lib.hid ((hk.2 _ (Array.getElem?_eq_some_iff.1 RO17.out).1 (fun h => by omega)).trans RO17.out)
    have RF19 := Lib.hid ((hk.2 _ (Array.getElem?_eq_some_iff.1 RF17.out).1 (fun h => by omega)).trans RF17.out)
    have RT19 := Lib.hid ((hk.2 _ (Array.getElem?_eq_some_iff.1 RT17.out).1 (fun h => by omega)).trans RT17.out)
    have FI19 := Lib.hid (FI17.out.move (hk.mono fun b _ h1 h2 => by omega))
    have FO19 := Lib.hid (FO17.out.move (hk.mono fun b _ h1 h2 => by omega))
    have FF19 := Lib.hid (FF17.out.move (hk.mono fun b _ h1 h2 => by omega))
    have FT19 := Lib.hid (FT18.out.keep hk fun b h1 h2 h3 => by omega)
    clear hq hk hb FP17 RP17 RX17 RI17 RO17 RF17 RT17 FI17 FO17 FF17 FT18
    go_wp2_with fail
    have hq := HQ.out
    have hlb := (Array.getElem?_eq_some_iff.1 RO19.out).1
    refine (spoil_any (opnR D).sz (opnR D) (Nat.le_refl _) [.int .i64 o_kx, .string o_tx, .bool o_nx, .slice o_xo o_xn o_xc, .slice o_yo o_yn o_yc, .int .i64 o_ax, .slice o_po o_pn o_pc, .slice o_qo o_qn o_qc] (fun b => n2 ≤ b ∧ b < bkO) bkO 0 #[.int .i64 o_kx, .string o_tx, .bool o_nx, .slice o_xo o_xn o_xc, .slice o_yo o_yn o_yc, .int .i64 o_ax, .slice o_po o_pn o_pc, .slice o_qo o_qn o_qc] w14 FO19.out (fun c hc => by omega) (fun h => by omega) RO19.out (Nat.le_refl 8) rfl).mono ?_
    rintro e w15 ⟨rfl, hk, hb⟩
    clear hlb
    have HB20 := Lib.hid (HB19.out.trans (hb w.heap.size (fun c hc => by omega) HB19.out.size))
    have RX20 := Lib.hid ((hk.2 _ (Array.getElem?_eq_some_iff.1 RX19.out).1 (fun h => by omega)).trans RX19.out)
    have RI20 := Lib.hid ((hk.2 _ (Array.getElem?_eq_some_iff.1 RI19.out).1 (fun h => by omega)).trans RI19.out)
    have RF20 := Lib.hid ((hk.2 _ (Array.getElem?_eq_some_iff.1 RF19.out).1 (fun h => by omega)).trans RF19.out)
    have RT20 := Lib.hid ((hk.2 _ (Array.getElem?_eq_some_iff.1 RT19.out).1 (fun h => by omega)).trans RT19.out)
    have FI20 := Lib.hid (FI19.out.move (hk.mono fun b _ h1 h2 => by omega))
    have FF20 := Lib.hid (FF19.out.move (hk.mono fun b _ h1 h2 => by omega))
    have FT20 := Lib.hid (FT19.out.keep hk fun b h1 h2 h3 => by omega)
    clear hq hk hb FO19 RO19 RX19 RI19 RF19 RT19 FI19 FF19 FT19
    go_wp2_with fail
    have hq := HQ.out
    have hlb := (Array.getElem?_eq_some_iff.1 RF20.out).1
    refine (spoil_any (fltR D).sz (fltR D) (Nat.le_refl _) [.int .i64 f_kx, .string f_tx, .bool f_nx, .slice f_xo f_xn f_xc, .slice f_yo f_yn f_yc, .int .i64 f_ax, .slice f_po f_pn f_pc, .slice f_qo f_qn f_qc] (fun b => n3 ≤ b ∧ b < bkF) bkF 0 #[.int .i64 f_kx, .string f_tx, .bool f_nx, .slice f_xo f_xn f_xc, .slice f_yo f_yn f_yc, .int .i64 f_ax, .slice f_po f_pn f_pc, .slice f_qo f_qn f_qc] w15 FF20.out (fun c hc => by omega) (fun h => by omega) RF20.out (Nat.le_refl 8) rfl).mono ?_
    rintro e w16 ⟨rfl, hk, hb⟩
    clear hlb
    have HB21 := Lib.hid (HB20.out.trans (hb w.heap.size (fun c hc => by omega) HB20.out.size))
    have RX21 := Lib.hid ((hk.2 _ (Array.getElem?_eq_some_iff.1 RX20.out).1 (fun h => by omega)).trans RX20.out)
    have RI21 := Lib.hid ((hk.2 _ (Array.getElem?_eq_some_iff.1 RI20.out).1 (fun h => by omega)).trans RI20.out)
    have RT21 := Lib.hid ((hk.2 _ (Array.getElem?_eq_some_iff.1 RT20.out).1 (fun h => by omega)).trans RT20.out)
    have FI21 := Lib.hid (FI20.out.move (hk.mono fun b _ h1 h2 => by omega))
    have FT21 := Lib.hid (FT20.out.keep hk fun b h1 h2 h3 => by omega)
    clear hq hk hb FF20 RF20 RX20 RI20 RT20 FI20 FT20
    go_wp2_with fail
    go_loopw [14] (fun v wr => ∃ j : Nat, v = .int .i64 (j : Nat) ∧ j ≤ an ∧ Below w.heap.size w wr ∧ Keeps (fun c => c < n4 ∨ c = bkT) w16 wr ∧ RoU wr n4 bkT (.slice ao an ac) an) (fun v _ => an - (intOf v).toNat)
    case atStart => exact ⟨0, rfl, Nat.zero_le _, HB21.out, Keeps.refl _ _, FT21.out⟩
    case round =>
      obtain ⟨j, rfl, hj, hb, hk, hr⟩ := hrel
      have HBR := Lib.hid hb
      have HKR := Lib.hid hk
      have HRR := Lib.hid hr
      have hmx := hr.1
      unfold maxLen at hmx
      clear hb hk hr
      obtain ⟨c0, c1, c2, c3, c4, c5⟩ := row6d ((HKR.out.2 _ (Array.getElem?_eq_some_iff.1 RT21.out).1 (.inr rfl)).trans RT21.out)
      by_cases hjl : j < an
      · have hii : ((j : Nat) : Int) < ((an : Nat) : Int) := by omega
        obtain ⟨_, ⟨c, hv, h0⟩ | ⟨q, cap, cur, hv, hB, hU, hblk, hcz⟩⟩ := HRR.out
        · omega
        · injection hv with hv1 hv2 hv3
          subst hv1
          have hq := HQ.out
          have hcq := (cell_heap hblk (j * 6)).trans (Array.getElem?_eq_getElem (by omega))
          have hfz := frozen_heap hblk (j * 6)
          go_wp2_with fail
          go_roundw
          case measure => simp only [intOf]; omega
          case rel => exact ⟨j + 1, by go_num, by omega, HBR.out.setCell (p := ⟨q, j * 6, none⟩) (by show w.heap.size ≤ q; omega) _, HKR.out.set (p := ⟨q, j * 6, none⟩) (fun h => by have h : q < n4 ∨ q = bkT := h; omega) _, HRR.out.set q (j * 6) _⟩
      · obtain rfl : j = an := by omega
        have hq := HQ.out
        have RXZ := Lib.hid ((HKR.out.2 _ (Array.getElem?_eq_some_iff.1 RX21.out).1 (.inl (by omega))).trans RX21.out)
        have RIZ := Lib.hid ((HKR.out.2 _ (Array.getElem?_eq_some_iff.1 RI21.out).1 (.inl (by omega))).trans RI21.out)
        have FIZ := Lib.hid (FI21.out.move (HKR.out.mono fun c _ hc => .inl (by omega))).lay
        obtain ⟨d0, d1, d2, d3, d4, d5, d6, d7⟩ := rowS8 RXZ.out
        obtain ⟨e0, e1, e2, e3, e4, e5, e6, e7⟩ := rowS8 RIZ.out
        go_wp2_with fail
        clear c0 c1 c2 c3 c4 c5 d0 d1 d2 d3 d4 d5 d6 d7 e0 e1 e2 e3 e4 e5 e6 e7
        refine (exact_sx 100 D D HLX.out _ _ wr FIZ.out (HD.out.keep HBR.out)).mono ?_
        rintro e wz ⟨rfl, hbz⟩
        have HBZ := Lib.hid (HBR.out.trans (hbz.mono HBR.out.size))
        clear hbz
        rw [sameS_refl (light_dp HLX.out)]
        go_wp2_with fail
        go_ret
        exact ⟨rfl, HBZ.out⟩
end Go.Proofs.YtbfcbicbeagjkaaDoor
