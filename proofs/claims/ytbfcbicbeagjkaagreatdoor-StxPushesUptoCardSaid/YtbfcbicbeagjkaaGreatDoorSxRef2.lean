/- ref09.Push. -/
import Derived.Test.YtbfcbicbeagjkaaGreatDoorSxRef
namespace Go.Proofs.YtbfcbicbeagjkaaGreatDoor
open Go.RowKit

theorem slay_ms {w : World} {D : Sx} {a0 a1 a2 a3 a4 a5 a6 a7 : Value} (h : SLay w D [a0, a1, a2, a3, a4, a5, a6, a7]) : Iz w a6 D.m ∧ Iz w a7 D.s := by
  cases h with
  | mk ht hlim hr hrow hm hs hin => exact ⟨hm, hs⟩
theorem SLayP.re {P : Nat → Prop} {w : World} {D : Sx} {a0 a1 a2 a3 a4 a5 a6 a7 mv sv : Value} {m s : List Int} (h : SLayP P w D [a0, a1, a2, a3, a4, a5, a6, a7]) (hm : Iz w mv m) (pm : ∀ b, mv.ownBlock = some b → P b) (hs : Iz w sv s) (ps : ∀ b, sv.ownBlock = some b → P b) : SLayP P w (reS m s D) [a0, a1, a2, a3, a4, a5, mv, sv] := by
  cases h with
  | mk ht hlim hr hrp hrow hap _ _ _ _ hin => exact .mk ht hlim hr hrp hrow hap hm (fun b _ h => pm b h) hs (fun b _ h => ps b h) hin
def put2w (W : World) (g : Nat) (b6 b7 : Value) : World := (W.setCell ⟨g, 6, none⟩ b6).setCell ⟨g, 7, none⟩ b7
theorem put2w_row {W : World} {g : Nat} {a0 a1 a2 a3 a4 a5 a6 a7 : Value} {e : TypeId} (h : W.heap[g]? = some (.cells #[a0, a1, a2, a3, a4, a5, a6, a7] e (0, 0))) (b6 b7 : Value) : (put2w W g b6 b7).heap[g]? = some (.cells #[a0, a1, a2, a3, a4, a5, b6, b7] e (0, 0)) := setS7 (setS6 h b6) b7
theorem put2w_keep (P : Nat → Prop) (W : World) (g : Nat) (hg : ¬ P g) (b6 b7 : Value) : Keeps P W (put2w W g b6 b7) := ((Keeps.refl P W).set (p := ⟨g, 6, none⟩) hg _).set (p := ⟨g, 7, none⟩) hg _
theorem put2w_below {B : Nat} {w W : World} (h : Below B w W) {g : Nat} (hg : B ≤ g) (b6 b7 : Value) : Below B w (put2w W g b6 b7) := (h.setCell (p := ⟨g, 6, none⟩) hg _).setCell (p := ⟨g, 7, none⟩) hg _

set_option maxRecDepth 100000 in
set_option maxHeartbeats 8000000 in
/-- ref09.Push. -/
theorem rpush_any (D : Sx) (us : List Value) (mv sv : Value) (m s : List Int) (w : World) (hd : SLay w D us) (hsm : SmS 1100000 D) (hm : Iz w mv m) (hs : Iz w sv s) :
    Calls Tryz.prog 25 #[.agg us.toArray, mv, sv] w (RsR (pshE m s D) (pshR m s D) w) := by
  have HD := Lib.hid hd
  have HSM := Lib.hid hsm
  have HM := Lib.hid hm
  have HS := Lib.hid hs
  have HLP := Lib.hid hd.layP
  obtain ⟨kx, tx, nx, xo, xn, xc, yo, yn, yc, ax, po, pn, pc, qo, qn, qc, rfl⟩ := sx_shapes hd
  have HDM := Lib.hid (slay_ms hd)
  obtain ⟨_, ma0, mc0, rfl, _, _⟩ := hm.cases
  obtain ⟨_, sa0, sc0, rfl, _, _⟩ := hs.cases
  generalize m.length = ml0 at *
  generalize s.length = sl0 at *
  clear hd hsm hm hs
  obtain ⟨er, HER⟩ : ∃ x, Hid (pshE m s D = x) := ⟨_, Lib.hid rfl⟩
  obtain ⟨E, HRE⟩ : ∃ x, Hid (pshR m s D = x) := ⟨_, Lib.hid rfl⟩
  rw [HER.out, HRE.out]
  have hb1 := below2 w (.cells #[.int .i64 kx, .string tx, .bool nx, .slice xo xn xc, .slice yo yn yc, .int .i64 ax, .slice po pn pc, .slice qo qn qc] 35) (.cells #[.int .i64 0, .string ⟨#[]⟩, .bool false, .slice none 0 0, .slice none 0 0, .int .i64 0, .slice none 0 0, .slice none 0 0] 35)
  have hn1 := @newsd2 w (.cells #[.int .i64 kx, .string tx, .bool nx, .slice xo xn xc, .slice yo yn yc, .int .i64 ax, .slice po pn pc, .slice qo qn qc] 35) (.cells #[.int .i64 0, .string ⟨#[]⟩, .bool false, .slice none 0 0, .slice none 0 0, .int .i64 0, .slice none 0 0, .slice none 0 0] 35)
  show Calls Tryz.prog 25 #[.agg #[.int .i64 kx, .string tx, .bool nx, .slice xo xn xc, .slice yo yn yc, .int .i64 ax, .slice po pn pc, .slice qo qn qc], .slice ma0 ml0 mc0, .slice sa0 sl0 sc0] w _
  go_enter Tryz.func25, Tryz.ntmps25
  go_upto_region 1 with fail
  generalize (w.alloc (.cells #[.int .i64 kx, .string tx, .bool nx, .slice xo xn xc, .slice yo yn yc, .int .i64 ax, .slice po pn pc, .slice qo qn qc] 35)).alloc (.cells #[.int .i64 0, .string ⟨#[]⟩, .bool false, .slice none 0 0, .slice none 0 0, .int .i64 0, .slice none 0 0, .slice none 0 0] 35) = w1 at *
  have HB1 := Lib.hid hb1
  have HX1 := Lib.hid hn1.1
  have HZ1 := Lib.hid hn1.2
  clear hb1 hn1
  obtain ⟨c0, c1, c2, c3, c4, c5, c6, c7⟩ := rowS8 HX1.out
  go_wp2_with fail
  refine (rxsound_any D _ w1 (HD.out.keep HB1.out) HSM.out).mono ?_
  rintro e w2 ⟨rfl, hb2⟩
  have HB2 := Lib.hid (HB1.out.trans (hb2.mono HB1.out.size))
  have HX2 := Lib.hid ((hb2.block _ (Array.getElem?_eq_some_iff.1 HX1.out).1).trans HX1.out)
  have HZ2 := Lib.hid ((hb2.block _ (Array.getElem?_eq_some_iff.1 HZ1.out).1).trans HZ1.out)
  clear hb2 HB1 HX1 HZ1 c0 c1 c2 c3 c4 c5 c6 c7
  cases hs : sndX D with
  | false =>
    obtain rfl : er = 2 := HER.out.symm.trans (pshE_no hs)
    obtain rfl : E = zeroS := HRE.out.symm.trans (pshR_no (by rw [pshE_no hs]; decide))
    clear hs
    have hz := HZ2.out
    obtain ⟨d0, d1, d2, d3, d4, d5, d6, d7⟩ := rowS8 hz
    have z0 := frozen_heap hz 0
    have z1 := frozen_heap hz 1
    have z2 := frozen_heap hz 2
    have z3 := frozen_heap hz 3
    have z4 := frozen_heap hz 4
    have z5 := frozen_heap hz 5
    have z6 := frozen_heap hz 6
    have z7 := frozen_heap hz 7
    have hrow := put8w_row hz (.int .i64 0) (.string ⟨#[]⟩) (.bool false) (.slice none 0 0) (.slice none 0 0) (.int .i64 0) (.slice none 0 0) (.slice none 0 0)
    have hbf := put8w_below HB2.out (show w.heap.size ≤ w.heap.size + 1 by omega) (.int .i64 0) (.string ⟨#[]⟩) (.bool false) (.slice none 0 0) (.slice none 0 0) (.int .i64 0) (.slice none 0 0) (.slice none 0 0)
    have HF9 := Lib.hid (And.intro hrow hbf)
    clear hrow hbf hz
    go_wp2_with fail
    clear d0 d1 d2 d3 d4 d5 d6 d7 z0 z1 z2 z3 z4 z5 z6 z7
    unfold put8w at HF9
    generalize World.setCell _ ⟨w.heap.size + 1, 7, none⟩ (.slice none 0 0) = W9 at *
    obtain ⟨g0, g1, g2, g3, g4, g5, g6, g7⟩ := rowS8 HF9.out.1
    refine bodyPost_ret (v := .tuple #[.agg #[.int .i64 0, .string ⟨#[]⟩, .bool false, .slice none 0 0, .slice none 0 0, .int .i64 0, .slice none 0 0, .slice none 0 0], .int .i64 2]) (by simp [results, Tryz.results25, go_sem, g0, g1, g2, g3, g4, g5, g6, g7]) rfl ?_

    exact ⟨_, _, _, _, _, _, _, _, _, _, _, _, _, _, _, _, rfl, slay_zero _, HF9.out.2⟩
  | true =>
    have HS0 := Lib.hid hs
    clear hs
    obtain ⟨c0, c1, c2, c3, c4, c5, c6, c7⟩ := rowS8 HX2.out
    go_wp2_with fail
    refine (wrsound_any _ _ m s w2 (HM.out.below HB2.out) (HS.out.below HB2.out)).mono ?_
    rintro e _ ⟨rfl, rfl⟩
    clear c0 c1 c2 c3 c4 c5 c6 c7
    cases hw : sndW m s with
    | false =>
      have hj2 : (wjA m s D.m D.s).2.2 = 2 := by rw [joinA_bad (by rw [hw]; rfl)]
      have hp2 : pshE m s D = 2 := (pshE_err HS0.out (by rw [hj2]; decide)).trans hj2
      obtain rfl : er = 2 := HER.out.symm.trans hp2
      obtain rfl : E = zeroS := HRE.out.symm.trans (pshR_no (by rw [hp2]; decide))
      clear hw hj2 hp2
      have hz := HZ2.out
      obtain ⟨d0, d1, d2, d3, d4, d5, d6, d7⟩ := rowS8 hz
      have z0 := frozen_heap hz 0
      have z1 := frozen_heap hz 1
      have z2 := frozen_heap hz 2
      have z3 := frozen_heap hz 3
      have z4 := frozen_heap hz 4
      have z5 := frozen_heap hz 5
      have z6 := frozen_heap hz 6
      have z7 := frozen_heap hz 7
      have hrow := put8w_row hz (.int .i64 0) (.string ⟨#[]⟩) (.bool false) (.slice none 0 0) (.slice none 0 0) (.int .i64 0) (.slice none 0 0) (.slice none 0 0)
      have hbf := put8w_below HB2.out (show w.heap.size ≤ w.heap.size + 1 by omega) (.int .i64 0) (.string ⟨#[]⟩) (.bool false) (.slice none 0 0) (.slice none 0 0) (.int .i64 0) (.slice none 0 0) (.slice none 0 0)
      have HF9 := Lib.hid (And.intro hrow hbf)
      clear hrow hbf hz
      go_wp2_with fail
      clear d0 d1 d2 d3 d4 d5 d6 d7 z0 z1 z2 z3 z4 z5 z6 z7
      unfold put8w at HF9
      generalize World.setCell _ ⟨w.heap.size + 1, 7, none⟩ (.slice none 0 0) = W9 at *
      obtain ⟨g0, g1, g2, g3, g4, g5, g6, g7⟩ := rowS8 HF9.out.1
      refine bodyPost_ret (v := .tuple #[.agg #[.int .i64 0, .string ⟨#[]⟩, .bool false, .slice none 0 0, .slice none 0 0, .int .i64 0, .slice none 0 0, .slice none 0 0], .int .i64 2]) (by simp [results, Tryz.results25, go_sem, g0, g1, g2, g3, g4, g5, g6, g7]) rfl ?_

      exact ⟨_, _, _, _, _, _, _, _, _, _, _, _, _, _, _, _, rfl, slay_zero _, HF9.out.2⟩
    | true =>
      clear hw
      obtain ⟨c0, c1, c2, c3, c4, c5, c6, c7⟩ := rowS8 HX2.out
      go_wp2_with fail
      refine (rjoinP_any _ _ _ _ m s D.m D.s w2 (HM.out.below HB2.out) (HS.out.below HB2.out) (HDM.out.1.below HB2.out) (HDM.out.2.below HB2.out)).mono ?_
      rintro e w3 ⟨⟨jm, js, rfl, hjm, hjs, hnm, hns⟩, hb3⟩
      obtain ⟨q, HQ⟩ : ∃ q, Hid (wjA m s D.m D.s = q) := ⟨_, Lib.hid rfl⟩
      rw [HQ.out] at hjm hjs ⊢
      obtain ⟨_, oa, oc, rfl, _, _⟩ := hjm.cases
      obtain ⟨_, ta, tc, rfl, _, _⟩ := hjs.cases
      generalize q.1.length = ol at *
      generalize q.2.1.length = tl at *
      have HJ := Lib.hid (And.intro hjm (And.intro hjs (And.intro hnm hns)))
      have HB3 := Lib.hid (HB2.out.trans (hb3.mono HB2.out.size))
      have HX3 := Lib.hid ((hb3.block _ (Array.getElem?_eq_some_iff.1 HX2.out).1).trans HX2.out)
      have HZ3 := Lib.hid ((hb3.block _ (Array.getElem?_eq_some_iff.1 HZ2.out).1).trans HZ2.out)
      have HLE : Hid (w.heap.size + 2 ≤ w2.heap.size) := Lib.hid (Array.getElem?_eq_some_iff.1 HZ2.out).1
      clear hjm hjs hnm hns hb3 c0 c1 c2 c3 c4 c5 c6 c7 HX2 HZ2
      by_cases h0 : q.2.2 = 0
      case neg =>
        have hd : (q.2.2 != 0) = true := by rw [bne_iff_ne]; exact h0
        have hp2 : pshE m s D = q.2.2 := (pshE_err HS0.out (by rw [HQ.out]; exact h0)).trans (by rw [HQ.out])
        obtain rfl : er = q.2.2 := HER.out.symm.trans hp2
        obtain rfl : E = zeroS := HRE.out.symm.trans (pshR_no (by rw [hp2]; exact h0))
        clear h0 hp2 HER HRE
        generalize q.2.2 = q9 at *
        have hz := HZ3.out
        obtain ⟨d0, d1, d2, d3, d4, d5, d6, d7⟩ := rowS8 hz
        have z0 := frozen_heap hz 0
        have z1 := frozen_heap hz 1
        have z2 := frozen_heap hz 2
        have z3 := frozen_heap hz 3
        have z4 := frozen_heap hz 4
        have z5 := frozen_heap hz 5
        have z6 := frozen_heap hz 6
        have z7 := frozen_heap hz 7
        have hrow := put8w_row hz (.int .i64 0) (.string ⟨#[]⟩) (.bool false) (.slice none 0 0) (.slice none 0 0) (.int .i64 0) (.slice none 0 0) (.slice none 0 0)
        have hbf := put8w_below HB3.out (show w.heap.size ≤ w.heap.size + 1 by omega) (.int .i64 0) (.string ⟨#[]⟩) (.bool false) (.slice none 0 0) (.slice none 0 0) (.int .i64 0) (.slice none 0 0) (.slice none 0 0)
        have HF9 := Lib.hid (And.intro hrow hbf)
        clear hrow hbf hz
        go_wp2_with fail
        clear d0 d1 d2 d3 d4 d5 d6 d7 z0 z1 z2 z3 z4 z5 z6 z7
        unfold put8w at HF9
        generalize World.setCell _ ⟨w.heap.size + 1, 7, none⟩ (.slice none 0 0) = W9 at *
        obtain ⟨g0, g1, g2, g3, g4, g5, g6, g7⟩ := rowS8 HF9.out.1
        refine bodyPost_ret (v := .tuple #[.agg #[.int .i64 0, .string ⟨#[]⟩, .bool false, .slice none 0 0, .slice none 0 0, .int .i64 0, .slice none 0 0, .slice none 0 0], .int .i64 q9]) (by simp [results, Tryz.results25, go_sem, g0, g1, g2, g3, g4, g5, g6, g7]) rfl ?_

        exact ⟨_, _, _, _, _, _, _, _, _, _, _, _, _, _, _, _, rfl, slay_zero _, HF9.out.2⟩
      rw [h0]
      have H0 := Lib.hid h0
      clear h0
      obtain ⟨c0, c1, c2, c3, c4, c5, c6, c7⟩ := rowS8 HX3.out
      have z6 := frozen_heap HX3.out 6
      have z7 := frozen_heap HX3.out 7
      have hrow := put2w_row HX3.out (.slice oa ol oc) (.slice ta tl tc)
      have hkf := put2w_keep (fun b => b ≠ w.heap.size) w3 w.heap.size (by simp) (.slice oa ol oc) (.slice ta tl tc)
      have hbf := put2w_below HB3.out (Nat.le_refl w.heap.size) (.slice oa ol oc) (.slice ta tl tc)
      have HF4 := Lib.hid (And.intro hrow (And.intro hkf hbf))
      clear hrow hkf hbf
      go_upto_region 8 with fail
      clear c0 c1 c2 c3 c4 c5 c6 c7 z6 z7
      unfold put2w at HF4
      generalize World.setCell _ ⟨w.heap.size, 7, none⟩ (.slice ta tl tc) = w4 at *
      have HX4 := Lib.hid HF4.out.1
      have HB4 := Lib.hid HF4.out.2.2
      have HZ4 := Lib.hid ((HF4.out.2.1.2 _ (Array.getElem?_eq_some_iff.1 HZ3.out).1 (by simp)).trans HZ3.out)
      have HL4 : Hid (SLayP (fun b => b ≠ w.heap.size + 1) w4 (pshS m s D) [.int .i64 kx, .string tx, .bool nx, .slice xo xn xc, .slice yo yn yc, .int .i64 ax, .slice oa ol oc, .slice ta tl tc]) := Lib.hid (by
        have hle := HLE.out
        have hjj := HJ.out
        have h4 := (HLP.out.move (Keeps.of_below HB4.out)).mono (Q := fun b => b ≠ w.heap.size + 1) fun b _ hb => by omega
        have hm4 := Iz.movP (P := fun b => b ≠ w.heap.size) hjj.1 (fun b hb => by have := hjj.2.2.1 b hb; omega) HF4.out.2.1
        have hs4 := Iz.movP (P := fun b => b ≠ w.heap.size) hjj.2.1 (fun b hb => by have := hjj.2.2.2 b hb; omega) HF4.out.2.1
        have hr := h4.re hm4 (fun b hb => by have := hjj.2.2.1 b hb; omega) hs4 (fun b hb => by have := hjj.2.2.2 b hb; omega)
        unfold pshS
        rw [HQ.out]
        exact hr)
      have HSP : Hid (SmS 1100000 (pshS m s D)) := Lib.hid (psh_sms HSM.out (by rw [HQ.out]; exact H0.out) (by omega))
      clear HF4 HX3 HZ3 HB3
      obtain ⟨c0, c1, c2, c3, c4, c5, c6, c7⟩ := rowS8 HX4.out
      go_wp2_with fail
      refine (rxsound_any (pshS m s D) _ w4 HL4.out.lay HSP.out).mono ?_
      rintro e w5 ⟨rfl, hb5⟩
      have HB5 := Lib.hid (HB4.out.trans (hb5.mono HB4.out.size))
      have HX5 := Lib.hid ((hb5.block _ (Array.getElem?_eq_some_iff.1 HX4.out).1).trans HX4.out)
      have HZ5 := Lib.hid ((hb5.block _ (Array.getElem?_eq_some_iff.1 HZ4.out).1).trans HZ4.out)
      have HL5 := Lib.hid (HL4.out.move (Keeps.of_below hb5))
      clear hb5 c0 c1 c2 c3 c4 c5 c6 c7 HX4 HZ4
      have hsp := snd_psh (m := m) (s := s) HS0.out
      cases h3 : sndX (pshS m s D) with
      | false =>
        have hp2 : pshE m s D = 6 := pshE_large HS0.out (by rw [HQ.out]; exact H0.out) (hsp.symm.trans h3)
        obtain rfl : er = 6 := HER.out.symm.trans hp2
        obtain rfl : E = zeroS := HRE.out.symm.trans (pshR_no (by rw [hp2]; decide))
        clear hp2 h3 hsp
        have hz := HZ5.out
        obtain ⟨d0, d1, d2, d3, d4, d5, d6, d7⟩ := rowS8 hz
        have z0 := frozen_heap hz 0
        have z1 := frozen_heap hz 1
        have z2 := frozen_heap hz 2
        have z3 := frozen_heap hz 3
        have z4 := frozen_heap hz 4
        have z5 := frozen_heap hz 5
        have z6 := frozen_heap hz 6
        have z7 := frozen_heap hz 7
        have hrow := put8w_row hz (.int .i64 0) (.string ⟨#[]⟩) (.bool false) (.slice none 0 0) (.slice none 0 0) (.int .i64 0) (.slice none 0 0) (.slice none 0 0)
        have hbf := put8w_below HB5.out (show w.heap.size ≤ w.heap.size + 1 by omega) (.int .i64 0) (.string ⟨#[]⟩) (.bool false) (.slice none 0 0) (.slice none 0 0) (.int .i64 0) (.slice none 0 0) (.slice none 0 0)
        have HF9 := Lib.hid (And.intro hrow hbf)
        clear hrow hbf hz
        go_wp2_with fail
        clear d0 d1 d2 d3 d4 d5 d6 d7 z0 z1 z2 z3 z4 z5 z6 z7
        unfold put8w at HF9
        generalize World.setCell _ ⟨w.heap.size + 1, 7, none⟩ (.slice none 0 0) = W9 at *
        obtain ⟨g0, g1, g2, g3, g4, g5, g6, g7⟩ := rowS8 HF9.out.1
        refine bodyPost_ret (v := .tuple #[.agg #[.int .i64 0, .string ⟨#[]⟩, .bool false, .slice none 0 0, .slice none 0 0, .int .i64 0, .slice none 0 0, .slice none 0 0], .int .i64 6]) (by simp [results, Tryz.results25, go_sem, g0, g1, g2, g3, g4, g5, g6, g7]) rfl ?_

        exact ⟨_, _, _, _, _, _, _, _, _, _, _, _, _, _, _, _, rfl, slay_zero _, HF9.out.2⟩
      | true =>
        have hp2 : pshE m s D = 0 := pshE_ok HS0.out (by rw [HQ.out]; exact H0.out) (hsp.symm.trans h3)
        obtain rfl : er = 0 := HER.out.symm.trans hp2
        obtain rfl : E = pshS m s D := HRE.out.symm.trans (pshR_ok hp2)
        clear hp2 h3 hsp HER HRE
        obtain ⟨e0, e1, e2, e3, e4, e5, e6, e7⟩ := rowS8 HX5.out
        have hz := HZ5.out
        obtain ⟨d0, d1, d2, d3, d4, d5, d6, d7⟩ := rowS8 hz
        have z0 := frozen_heap hz 0
        have z1 := frozen_heap hz 1
        have z2 := frozen_heap hz 2
        have z3 := frozen_heap hz 3
        have z4 := frozen_heap hz 4
        have z5 := frozen_heap hz 5
        have z6 := frozen_heap hz 6
        have z7 := frozen_heap hz 7
        have hrow := put8w_row hz (.int .i64 kx) (.string tx) (.bool nx) (.slice xo xn xc) (.slice yo yn yc) (.int .i64 ax) (.slice oa ol oc) (.slice ta tl tc)
        have hkf := put8w_keep (fun b => b ≠ w.heap.size + 1) w5 (w.heap.size + 1) (by simp) (.int .i64 kx) (.string tx) (.bool nx) (.slice xo xn xc) (.slice yo yn yc) (.int .i64 ax) (.slice oa ol oc) (.slice ta tl tc)
        have hbf := put8w_below HB5.out (show w.heap.size ≤ w.heap.size + 1 by omega) (.int .i64 kx) (.string tx) (.bool nx) (.slice xo xn xc) (.slice yo yn yc) (.int .i64 ax) (.slice oa ol oc) (.slice ta tl tc)
        have HF9 := Lib.hid (And.intro hrow (And.intro hkf hbf))
        clear hrow hkf hbf hz
        go_wp2_with fail
        clear e0 e1 e2 e3 e4 e5 e6 e7 d0 d1 d2 d3 d4 d5 d6 d7 z0 z1 z2 z3 z4 z5 z6 z7
        unfold put8w at HF9
        generalize World.setCell _ ⟨w.heap.size + 1, 7, none⟩ (.slice ta tl tc) = W9 at *
        obtain ⟨g0, g1, g2, g3, g4, g5, g6, g7⟩ := rowS8 HF9.out.1
        refine bodyPost_ret (v := .tuple #[.agg #[.int .i64 kx, .string tx, .bool nx, .slice xo xn xc, .slice yo yn yc, .int .i64 ax, .slice oa ol oc, .slice ta tl tc], .int .i64 0]) (by simp [results, Tryz.results25, go_sem, g0, g1, g2, g3, g4, g5, g6, g7]) rfl ?_

        exact ⟨_, _, _, _, _, _, _, _, _, _, _, _, _, _, _, _, rfl, (HL5.out.move HF9.out.2.1).lay, HF9.out.2.2⟩
end Go.Proofs.YtbfcbicbeagjkaaGreatDoor
