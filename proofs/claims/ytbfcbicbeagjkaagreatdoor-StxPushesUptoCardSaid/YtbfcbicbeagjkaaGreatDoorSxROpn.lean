/- ref09.Open. -/
import Derived.Test.YtbfcbicbeagjkaaGreatDoorSxRef2
import Derived.Test.YtbfcbicbeagjkaaGreatDoorSxFlat
namespace Go.Proofs.YtbfcbicbeagjkaaGreatDoor
open Go.RowKit

/-- A piece that is answered. -/
def RsO (E : Sx) (w : World) (e : Ending) (w' : World) : Prop := ∃ kx tx nx xo xn xc yo yn yc ax po pn pc qo qn qc, e = .returned (.agg #[.int .i64 kx, .string tx, .bool nx, .slice xo xn xc, .slice yo yn yc, .int .i64 ax, .slice po pn pc, .slice qo qn qc]) ∧ SLay w' E [.int .i64 kx, .string tx, .bool nx, .slice xo xn xc, .slice yo yn yc, .int .i64 ax, .slice po pn pc, .slice qo qn qc] ∧ Below w.heap.size w w'
set_option maxRecDepth 100000 in
set_option maxHeartbeats 8000000 in
/-- ref09.Open. -/
theorem ropen_any (D : Sx) (us : List Value) (w : World) (hd : SLay w D us) (hsm : SmS 1100000 D) :
    Calls Tryz.prog 30 #[.agg us.toArray] w (RsO (opnS D) w) := by
  obtain ⟨i0, hi, hz0, hz1, hz2⟩ := info_parts infoSx
  have HI := Lib.hid (And.intro hi (And.intro hz0 (And.intro hz1 hz2)))
  clear hi hz0 hz1 hz2
  obtain ⟨k, t, n, r, l, a, dm, ds⟩ := D
  obtain ⟨hs1, hs2, hs3, _, _, hs6⟩ := hsm.open'
  have h1 := hd.layP
  obtain ⟨lv, av, mv, sv, xs, rfl, hts, hlim, hrr, hrp, hrow1, hap, hrm, _, hrs, _, hin1⟩ := h1.row
  simp only [Sx.k, Sx.t, Sx.n, Sx.r, Sx.l, Sx.a, Sx.m, Sx.s] at hs1 hs2 hs3 hs6
  have HD := Lib.hid hd
  have HTL := Lib.hid (And.intro hts hlim)
  have HSM := Lib.hid hs6
  have HLL := Lib.hid hs3
  have HI1 := Lib.hid hin1
  have HW1 := Lib.hid hrow1
  have HAP := Lib.hid hap
  have HRR := Lib.hid hrr
  have HRP := Lib.hid hrp
  have HDM : Hid (Iz w mv dm) := Lib.hid hrm
  have HDS0 : Hid (Iz w sv ds) := Lib.hid hrs
  have hmx : l.length ≤ 9223372036854775807 := by omega
  have HMX := Lib.hid hmx
  obtain ⟨ao, cv0, rfl⟩ : ∃ o c, av = .slice o l.length c := by obtain ⟨_, _, o, c, h, _⟩ := hrow1; exact ⟨o, c, h⟩
  obtain ⟨lo, lc, rfl⟩ : ∃ o c, lv = .slice o r.length c := by obtain ⟨_, _, o, c, h, _⟩ := hrr; exact ⟨o, c, h⟩
  obtain ⟨mo, mc, rfl⟩ : ∃ o c, mv = .slice o dm.length c := by obtain ⟨_, _, o, c, h, _⟩ := hrm; exact ⟨o, c, h⟩
  obtain ⟨so, sc, rfl⟩ : ∃ o c, sv = .slice o ds.length c := by obtain ⟨_, _, o, c, h, _⟩ := hrs; exact ⟨o, c, h⟩
  clear h1 hsm hs1 hs2 hs3 hs6 hts hlim hrr hrp hrow1 hap hrm hrs hin1 hmx hd
  obtain ⟨E, HRE⟩ : ∃ x, Hid (opnS (.mk k t n r l a dm ds) = x) := ⟨_, Lib.hid rfl⟩
  rw [HRE.out]
  have hb1 := below2 w (.cells #[.int .i64 k, .string t, .bool n, .slice lo r.length lc, .slice ao l.length cv0, .int .i64 a, .slice mo dm.length mc, .slice so ds.length sc] 35) (.cells #[.int .i64 0, .string ⟨#[]⟩, .bool false, .slice none 0 0, .slice none 0 0, .int .i64 0, .slice none 0 0, .slice none 0 0] 35)
  have hn1 := @newsd2 w (.cells #[.int .i64 k, .string t, .bool n, .slice lo r.length lc, .slice ao l.length cv0, .int .i64 a, .slice mo dm.length mc, .slice so ds.length sc] 35) (.cells #[.int .i64 0, .string ⟨#[]⟩, .bool false, .slice none 0 0, .slice none 0 0, .int .i64 0, .slice none 0 0, .slice none 0 0] 35)
  have hsz1 : ((w.alloc (.cells #[.int .i64 k, .string t, .bool n, .slice lo r.length lc, .slice ao l.length cv0, .int .i64 a, .slice mo dm.length mc, .slice so ds.length sc] 35)).alloc (.cells #[.int .i64 0, .string ⟨#[]⟩, .bool false, .slice none 0 0, .slice none 0 0, .int .i64 0, .slice none 0 0, .slice none 0 0] 35)).heap.size = w.heap.size + 2 := by simp
  show Calls Tryz.prog 30 #[.agg #[.int .i64 k, .string t, .bool n, .slice lo r.length lc, .slice ao l.length cv0, .int .i64 a, .slice mo dm.length mc, .slice so ds.length sc]] w _
  go_enter Tryz.func30, Tryz.ntmps30
  go_upto_region 1 with fail
  generalize (w.alloc (.cells #[.int .i64 k, .string t, .bool n, .slice lo r.length lc, .slice ao l.length cv0, .int .i64 a, .slice mo dm.length mc, .slice so ds.length sc] 35)).alloc (.cells #[.int .i64 0, .string ⟨#[]⟩, .bool false, .slice none 0 0, .slice none 0 0, .int .i64 0, .slice none 0 0, .slice none 0 0] 35) = W2 at *
  have HB2 := Lib.hid hb1
  have HX2 := Lib.hid hn1.1
  have HZ2 := Lib.hid hn1.2
  have HS2 : Hid (w.heap.size + 2 ≤ W2.heap.size) := Lib.hid (Nat.le_of_eq hsz1.symm)
  clear hb1 hn1 hsz1
  by_cases hk : 1 ≤ k ∧ k ≤ 3
  case neg =>
    obtain rfl : E = .mk k t n r l a dm ds := HRE.out.symm.trans (opnS_no hk)
    have hk2 : k < 1 ∨ (¬ k < 1 ∧ 3 < k) := by omega
    have HRS := Lib.hid HZ2.out
    have HBW := Lib.hid HB2.out
    have HLPX : Hid (SLayP (fun b => b ≠ w.heap.size + 1) W2 (.mk k t n r l a dm ds) [.int .i64 k, .string t, .bool n, .slice lo r.length lc, .slice ao l.length cv0, .int .i64 a, .slice mo dm.length mc, .slice so ds.length sc]) := Lib.hid ((HD.out.layP.move (Keeps.of_below HB2.out)).mono fun b _ hb => by omega)
    clear hk
    rcases hk2 with hk2 | ⟨hk2, hk3⟩
    all_goals
      obtain ⟨e0, e1, e2, e3, e4, e5, e6, e7⟩ := rowS8 HX2.out
      have hz := HRS.out
      have q0 := frozen_heap hz 0
      have q1 := frozen_heap hz 1
      have q2 := frozen_heap hz 2
      have q3 := frozen_heap hz 3
      have q4 := frozen_heap hz 4
      have q5 := frozen_heap hz 5
      have q6 := frozen_heap hz 6
      have q7 := frozen_heap hz 7
      obtain ⟨d0, d1, d2, d3, d4, d5, d6, d7⟩ := rowS8 hz
      have hrow := put8w_row hz (.int .i64 k) (.string t) (.bool n) (.slice lo r.length lc) (.slice ao l.length cv0) (.int .i64 a) (.slice mo dm.length mc) (.slice so ds.length sc)
      have hkp := put8w_keep (fun b => b ≠ w.heap.size + 1) W2 (w.heap.size + 1) (by simp) (.int .i64 k) (.string t) (.bool n) (.slice lo r.length lc) (.slice ao l.length cv0) (.int .i64 a) (.slice mo dm.length mc) (.slice so ds.length sc)
      have hbf := put8w_below HBW.out (show w.heap.size ≤ w.heap.size + 1 by omega) (.int .i64 k) (.string t) (.bool n) (.slice lo r.length lc) (.slice ao l.length cv0) (.int .i64 a) (.slice mo dm.length mc) (.slice so ds.length sc)
      have HF := Lib.hid (And.intro hrow (And.intro hkp hbf))
      clear hrow hkp hbf hz
      go_wp2_with fail
      clear d0 d1 d2 d3 d4 d5 d6 d7 q0 q1 q2 q3 q4 q5 q6 q7 e0 e1 e2 e3 e4 e5 e6 e7
      unfold put8w at HF
      generalize World.setCell _ ⟨w.heap.size + 1, 7, none⟩ (.slice so ds.length sc) = W9 at *
      obtain ⟨g0, g1, g2, g3, g4, g5, g6, g7⟩ := rowS8 HF.out.1
      refine bodyPost_ret (v := .agg #[.int .i64 k, .string t, .bool n, .slice lo r.length lc, .slice ao l.length cv0, .int .i64 a, .slice mo dm.length mc, .slice so ds.length sc]) (by simp [results, Tryz.results30, go_sem, g0, g1, g2, g3, g4, g5, g6, g7]) rfl ?_
      exact ⟨_, _, _, _, _, _, _, _, _, _, _, _, _, _, _, _, rfl, (HLPX.out.move HF.out.2.1).lay, HF.out.2.2⟩
  obtain rfl : E = .mk k t n r (l.map (pshS dm ds)) a [] [] := HRE.out.symm.trans (opnS_yes hk)
  have hk2 : ¬ k < 1 := by omega
  have hk3 : ¬ 3 < k := by omega
  clear hk
  have hb3 := below1 W2 (.cells #[.int .i64 k, .string t, .bool n, .slice lo r.length lc, .slice none 0 0, .int .i64 a, .slice none 0 0, .slice none 0 0] 35)
  have hn3 := heap_alloc_new W2 (.cells #[.int .i64 k, .string t, .bool n, .slice lo r.length lc, .slice none 0 0, .int .i64 a, .slice none 0 0, .slice none 0 0] 35)
  obtain ⟨c0, c1, c2, c3, c4, c5, c6, c7⟩ := rowS8 HX2.out
  go_upto_region 5 with fail
  clear c0 c1 c2 c3 c4 c5 c6 c7 hk2 hk3
  generalize W2.alloc (.cells #[.int .i64 k, .string t, .bool n, .slice lo r.length lc, .slice none 0 0, .int .i64 a, .slice none 0 0, .slice none 0 0] 35) = W3 at *
  have HD3 := Lib.hid hn3
  have HDS3 : Hid (SxS (fun b => b < w.heap.size ∨ w.heap.size + 2 ≤ b) W2.heap.size W2.heap.size W2 (l.map (pshS dm ds)) (.slice none 0 0) 0 [] W3) := Lib.hid
    ⟨World.ownsRow_nil _ _ _ _, by rw [List.take_zero]; exact SxRow.nil _ _, hb3, (Array.getElem?_eq_some_iff.1 hn3).1, Nat.le_refl _⟩
  clear hb3 hn3
  go_loopw [4] (fun v wr => ∃ (j : Nat) (us' : List Value) (vv : Value), v = .int .i64 (j : Nat) ∧ j ≤ l.length ∧ wr.heap[W2.heap.size]? = some (.cells #[.int .i64 k, .string t, .bool n, .slice lo r.length lc, vv, .int .i64 a, .slice none 0 0, .slice none 0 0] 35 (0, 0)) ∧ SxS (fun b => b < w.heap.size ∨ w.heap.size + 2 ≤ b) W2.heap.size W2.heap.size W2 (l.map (pshS dm ds)) vv j us' wr) (fun v _ => l.length - (intOf v).toNat)
  case atStart => exact ⟨0, [], _, rfl, Nat.zero_le _, HD3.out, HDS3.out⟩
  case round =>
    obtain ⟨j, us', vv, rfl, hj, hbx, hds⟩ := hrel
    obtain ⟨vo, vc, rfl⟩ := own_dslice hds.own
    have hmx := HMX.out
    have HBX := Lib.hid hbx
    have HDS := Lib.hid hds
    have hss := HS2.out
    have HRS := Lib.hid ((hds.bel.block (w.heap.size + 1) (by omega)).trans HZ2.out)
    have HXR := Lib.hid ((hds.bel.block w.heap.size (by omega)).trans HX2.out)
    have HBW : Hid (Below w.heap.size w wr) := Lib.hid (HB2.out.trans (hds.bel.mono (by omega)))
    clear hbx hds hss
    obtain ⟨c0, c1, c2, c3, c4, c5, c6, c7⟩ := rowS8 HXR.out
    by_cases hjl : j < l.length
    · have hii : ((j : Nat) : Int) < ((l.length : Nat) : Int) := by omega
      have hkp : Keeps (fun b => b < w.heap.size) w wr := ⟨HBW.out.size, fun b hb _ => HBW.out.block b hb⟩
      obtain ⟨b, off, cap, v0, v1, v2, v3, v4, v5, v6, v7, hav, _, _, hly, p0, p1, p2, p3, p4, p5, p6, p7⟩ := row_sxP (HW1.out.move HAP.out hkp) (HI1.out.move hkp) hjl
      simp only [Value.slice.injEq, true_and] at hav
      obtain ⟨rfl, rfl⟩ := hav
      obtain ⟨y0, y1, y2, yo, yn, yc, zo, zn, zc, y5, po, pn, pc, qo, qn, qc, he8⟩ := sx_shapes hly.lay
      simp only [List.cons.injEq, and_true] at he8
      obtain ⟨rfl, rfl, rfl, rfl, rfl, rfl, rfl, rfl⟩ := he8
      have HMS := Lib.hid (slay_ms hly.lay)
      have HY := Lib.hid hly
      clear hly hkp
      have hb4 := below1 wr (.cells #[.int .i64 y0, .string y1, .bool y2, .slice yo yn yc, .slice zo zn zc, .int .i64 y5, .slice po pn pc, .slice qo qn qc] 35)
      have hx4 := heap_alloc_new wr (.cells #[.int .i64 y0, .string y1, .bool y2, .slice yo yn yc, .slice zo zn zc, .int .i64 y5, .slice po pn pc, .slice qo qn qc] 35)
      go_upto_region 8 with fail
      generalize hw4 : wr.alloc (.cells #[.int .i64 y0, .string y1, .bool y2, .slice yo yn yc, .slice zo zn zc, .int .i64 y5, .slice po pn pc, .slice qo qn qc] 35) = w4 at *
      clear p0 p1 p2 p3 p4 p5 p6 p7 c0 c1 c2 c3 c4 c5 c6 c7
      have HA4 := Lib.hid hb4
      have HX4 := Lib.hid hx4
      have HXR4 := Lib.hid ((hb4.block _ (Array.getElem?_eq_some_iff.1 HXR.out).1).trans HXR.out)
      have HMS4 := Lib.hid (And.intro (HMS.out.1.below hb4) (HMS.out.2.below hb4))
      have HDM4 := Lib.hid (And.intro ((HDM.out.below HBW.out).below hb4) ((HDS0.out.below HBW.out).below hb4))
      have HY4 := Lib.hid (HY.out.move (Keeps.of_below hb4))
      clear hb4 hx4 hw4 HMS HY
      obtain ⟨c0, c1, c2, c3, c4, c5, c6, c7⟩ := rowS8 HXR4.out
      obtain ⟨d0, d1, d2, d3, d4, d5, d6, d7⟩ := rowS8 HX4.out
      go_wp2_with fail
      refine (rjoinP_any _ _ _ _ dm ds (l[j]'hjl).m (l[j]'hjl).s w4 HDM4.out.1 HDM4.out.2 HMS4.out.1 HMS4.out.2).mono ?_
      rintro e w5 ⟨⟨jm, js, rfl, hjm, hjs, hnm, hns⟩, hb5⟩
      clear c0 c1 c2 c3 c4 c5 c6 c7 d0 d1 d2 d3 d4 d5 d6 d7
      obtain ⟨q, HQ⟩ : ∃ q, Hid (wjA dm ds (l[j]'hjl).m (l[j]'hjl).s = q) := ⟨_, Lib.hid rfl⟩
      rw [HQ.out] at hjm hjs ⊢
      obtain ⟨_, ja, jc, rfl, _, _⟩ := hjm.cases
      obtain ⟨_, ka, kc, rfl, _, _⟩ := hjs.cases
      generalize q.1.length = jn at *
      generalize q.2.1.length = kn at *
      have HJ := Lib.hid (And.intro hjm (And.intro hjs (And.intro hnm hns)))
      have HA5 := Lib.hid (HA4.out.trans (hb5.mono HA4.out.size))
      have HX5 := Lib.hid ((hb5.block _ (Array.getElem?_eq_some_iff.1 HX4.out).1).trans HX4.out)
      have HL4 := Lib.hid (Array.getElem?_eq_some_iff.1 HX4.out).1
      have HG5 := Lib.hid ((HA5.out.block _ HDS.out.lt).trans HBX.out)
      have HY5 := Lib.hid (HY4.out.move (Keeps.of_below hb5))
      clear hjm hjs hnm hns hb5 HX4
      generalize q.2.2 = q9 at *
      obtain ⟨c0, c1, c2, c3, c4, c5, c6, c7⟩ := rowS8 HX5.out
      have z6 := frozen_heap HX5.out 6
      have z7 := frozen_heap HX5.out 7
      have hrow := put2w_row HX5.out (.slice ja jn jc) (.slice ka kn kc)
      have hkf := put2w_keep (fun b => b ≠ wr.heap.size) w5 wr.heap.size (by simp) (.slice ja jn jc) (.slice ka kn kc)
      have hbf := put2w_below HA5.out (Nat.le_refl wr.heap.size) (.slice ja jn jc) (.slice ka kn kc)
      have HF6 := Lib.hid (And.intro hrow (And.intro hkf hbf))
      clear hrow hkf hbf
      go_upto_region 11 with fail
      clear c0 c1 c2 c3 c4 c5 c6 c7 z6 z7
      unfold put2w at HF6
      generalize World.setCell _ ⟨wr.heap.size, 7, none⟩ (.slice ka kn kc) = w6 at *
      have HX6 := Lib.hid HF6.out.1
      have HA6 := Lib.hid HF6.out.2.2
      have HG6 := Lib.hid ((HF6.out.2.1.2 _ (Array.getElem?_eq_some_iff.1 HG5.out).1 (by have := HDS.out.lt; omega)).trans HG5.out)
      have HL6 : Hid (SLayP (fun b => b < w.heap.size ∨ (w.heap.size + 2 ≤ b ∧ wr.heap.size < b)) w6 (pshS dm ds (l[j]'hjl)) [.int .i64 y0, .string y1, .bool y2, .slice yo yn yc, .slice zo zn zc, .int .i64 y5, .slice ja jn jc, .slice ka kn kc]) := Lib.hid (by
        have hle := HL4.out
        have hjj := HJ.out
        have hlt := HDS.out.lt
        have hs2 := HS2.out
        have h4 := (HY5.out.mono (Q := fun b => b ≠ wr.heap.size) fun b _ hb => by omega).move HF6.out.2.1
        have hm4 := Iz.movP (P := fun b => b ≠ wr.heap.size) hjj.1 (fun b hb => by have := hjj.2.2.1 b hb; omega) HF6.out.2.1
        have hs4 := Iz.movP (P := fun b => b ≠ wr.heap.size) hjj.2.1 (fun b hb => by have := hjj.2.2.2 b hb; omega) HF6.out.2.1
        have h5 := (HY5.out.move (Keeps.mono HF6.out.2.1 fun b _ hb => by have := HBW.out.size; omega))
        have hr := (h5.mono (Q := fun b => b < w.heap.size ∨ (w.heap.size + 2 ≤ b ∧ wr.heap.size < b)) fun b _ hb => .inl hb).re hm4 (fun b hb => by have := hjj.2.2.1 b hb; omega) hs4 (fun b hb => by have := hjj.2.2.2 b hb; omega)
        unfold pshS
        rw [HQ.out]
        exact hr)
      clear HF6 HX5 HG5 HY5
      have H1 := Lib.hid (one_cellsS HL6.out)
      obtain ⟨e0, e1, e2, e3, e4, e5, e6, e7⟩ := rowS8 HG6.out
      obtain ⟨d0, d1, d2, d3, d4, d5, d6, d7⟩ := rowS8 HX6.out
      have hrow7 := rowS1 w6 [.int .i64 y0, .string y1, .bool y2, .slice yo yn yc, .slice zo zn zc, .int .i64 y5, .slice ja jn jc, .slice ka kn kc] rfl
      have HR7 := Lib.hid hrow7
      have H67 := Lib.hid (below1 w6 (.cells #[.int .i64 y0, .string y1, .bool y2, .slice yo yn yc, .slice zo zn zc, .int .i64 y5, .slice ja jn jc, .slice ka kn kc] 35))
      have HA7 := Lib.hid (HA6.out.trans (H67.out.mono HA6.out.size))
      have HDS7 := Lib.hid (HDS.out.below HA7.out)
      have HG7 := Lib.hid ((H67.out.block _ (Array.getElem?_eq_some_iff.1 HG6.out).1).trans HG6.out)
      have HLY7 := Lib.hid (HL6.out.move (Keeps.of_below H67.out))
      clear hrow7
      go_wp2_with (at_builtin; go_loud (refine wpList_append_row _ rfl _ _ 33 rfl (W2.heap.size + 1) 35 i0 _ 8 136 Tryz.underlying33 HI.out.1 HI.out.2.1 HI.out.2.2.1 HI.out.2.2.2 rfl (by decide) _ j us' rfl HDS7.out.own _ 1 [.int .i64 y0, .string y1, .bool y2, .slice yo yn yc, .slice zo zn zc, .int .i64 y5, .slice ja jn jc, .slice ka kn kc] rfl HR7.out H1.out (by have := HLL.out; unfold maxLen; omega) (by have := HLL.out; omega) (by have := HDS7.out.lt; omega) ?_); go_loud (intro v' w8 hown8 hgrow8 hmv8; obtain ⟨a6, dd6, rfl⟩ := own_dslice hown8; have HD8 := Lib.hid (HDS.out.appended HA7.out (d := pshS dm ds (l[j]'hjl)) (by simp [hjl]) (HLY7.out.mono fun b hb hp => (by have h1 := HDS.out.lt; have h3 := HBW.out.size; have h4 := HS2.out; exact ⟨⟨by omega, by omega⟩, fun e => by have := HDS.out.own.lt b e; omega⟩)) hown8 hgrow8 hmv8); have hg8 := (hgrow8.block _ HDS7.out.lt (fun e => HDS7.out.far W2.heap.size (by first | exact e | exact e.symm) rfl)).trans HG7.out; have HG8 := Lib.hid hg8; have s4 := cell_heap hg8 4; have zz4 := frozen_heap hg8 4; clear hown8 hgrow8 hmv8 hg8))
      go_roundw
      case measure => simp only [intOf]; omega
      case rel =>
        exact ⟨j + 1, us' ++ [.int .i64 y0, .string y1, .bool y2, .slice yo yn yc, .slice zo zn zc, .int .i64 y5, .slice ja jn jc, .slice ka kn kc], .slice a6 (j + 1) dd6, by go_num, by omega, (rowSet HG8.out 4 _).trans (by simp), HD8.out.store 4 _⟩
    · obtain rfl : j = l.length := by omega
      have HFIN : Hid (∀ (W9 : World), Keeps (fun b => b ≠ w.heap.size + 1 ∧ b ≠ W2.heap.size) wr W9 → Below w.heap.size w W9 → SLay W9 (.mk k t n r (l.map (pshS dm ds)) a [] []) [.int .i64 k, .string t, .bool n, .slice lo r.length lc, .slice vo l.length vc, .int .i64 a, .slice none 0 0, .slice none 0 0]) := Lib.hid (by
        intro W9 hkp9 hbw9
        have hss := HS2.out
        have hown9 := ownsRow_keep HDS.out.own hkp9 fun b hb => by have := (HDS.out.own.lt b hb).1; omega
        have hkq : Keeps (fun b => ((b < w.heap.size ∨ w.heap.size + 2 ≤ b) ∧ b ≠ W2.heap.size) ∧ (Value.slice vo l.length vc).ownBlock ≠ some b) wr W9 := hkp9.mono fun b _ hb => by have := hb.1.1; have := hb.1.2; omega
        have hrow9 := HDS.out.row.move hkq
        rw [List.take_of_length_le (by simp)] at hrow9
        have hkl : Keeps (fun b => b < w.heap.size) w W9 := ⟨hbw9.size, fun b hb _ => hbw9.block b hb⟩
        exact .mk HTL.out.1 HTL.out.2 (HRR.out.move HRP.out hkl) (by rw [List.length_map]; exact RowV.of_own hown9) (Iz.nil _) (Iz.nil _) fun i hi => (hrow9.each i hi).lay)
      obtain ⟨e0, e1, e2, e3, e4, e5, e6, e7⟩ := rowS8 HBX.out
      have hz := HRS.out
      have q0 := frozen_heap hz 0
      have q1 := frozen_heap hz 1
      have q2 := frozen_heap hz 2
      have q3 := frozen_heap hz 3
      have q4 := frozen_heap hz 4
      have q5 := frozen_heap hz 5
      have q6 := frozen_heap hz 6
      have q7 := frozen_heap hz 7
      obtain ⟨d0, d1, d2, d3, d4, d5, d6, d7⟩ := rowS8 hz
      have hrow := put8w_row hz (.int .i64 k) (.string t) (.bool n) (.slice lo r.length lc) (.slice vo l.length vc) (.int .i64 a) (.slice none 0 0) (.slice none 0 0)
      have hkp := put8w_keep (fun b => b ≠ w.heap.size + 1) wr (w.heap.size + 1) (by simp) (.int .i64 k) (.string t) (.bool n) (.slice lo r.length lc) (.slice vo l.length vc) (.int .i64 a) (.slice none 0 0) (.slice none 0 0)
      have hbf := put8w_below HBW.out (show w.heap.size ≤ w.heap.size + 1 by omega) (.int .i64 k) (.string t) (.bool n) (.slice lo r.length lc) (.slice vo l.length vc) (.int .i64 a) (.slice none 0 0) (.slice none 0 0)
      have HF := Lib.hid (And.intro hrow (And.intro hkp hbf))
      clear hrow hkp hbf hz
      go_wp2_with fail
      clear d0 d1 d2 d3 d4 d5 d6 d7 q0 q1 q2 q3 q4 q5 q6 q7 e0 e1 e2 e3 e4 e5 e6 e7
      unfold put8w at HF
      generalize World.setCell _ ⟨w.heap.size + 1, 7, none⟩ (.slice none 0 0) = W9 at *
      obtain ⟨g0, g1, g2, g3, g4, g5, g6, g7⟩ := rowS8 HF.out.1
      refine bodyPost_ret (v := .agg #[.int .i64 k, .string t, .bool n, .slice lo r.length lc, .slice vo l.length vc, .int .i64 a, .slice none 0 0, .slice none 0 0]) (by simp [results, Tryz.results30, go_sem, g0, g1, g2, g3, g4, g5, g6, g7]) rfl ?_
      exact ⟨_, _, _, _, _, _, _, _, _, _, _, _, _, _, _, _, rfl, HFIN.out _ (HF.out.2.1.mono fun b _ hb => hb.1) HF.out.2.2, HF.out.2.2⟩
end Go.Proofs.YtbfcbicbeagjkaaGreatDoor
