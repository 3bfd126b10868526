/- wrap.Join. -/
import Derived.Test.YtbfcbicbeagjkaaDoorWpAround
import Derived.Deep.RegionWith
namespace Go.Proofs.YtbfcbicbeagjkaaDoor
open Go.RowKit

theorem below_fill2 {B : Nat} {w w' : World} (h : Below B w w') {g : Nat} (hg : B ≤ g) (a b : Value) : Below B w ((w'.setCell ⟨g, 0, none⟩ a).setCell ⟨g, 1, none⟩ b) := (h.setCell hg a).setCell hg b
theorem far2 {W : World} {g h : Nat} (hg : h ≠ g) (a b : Value) : ((W.setCell ⟨g, 0, none⟩ a).setCell ⟨g, 1, none⟩ b).heap[h]? = W.heap[h]? := (Below.heap_setCell _ _ _ _ hg).trans (Below.heap_setCell _ _ _ _ hg)
/-- What Join leaves. -/
def JPost (w : World) (r : List Int × List Int × Int) : Ending → World → Prop := fun e w' => (∃ x, e = .returned (.tuple #[x, .int .i64 r.2.2]) ∧ Wr w' x r.1 r.2.1) ∧ Below w.heap.size w w'
def JPostO (w : World) (r : List Int × List Int × Int) : Ending → World → Prop := fun e w' => (∃ x, e = .returned (.tuple #[x, .int .i64 r.2.2]) ∧ WrO w.heap.size w' x r.1 r.2.1) ∧ Below w.heap.size w w'

set_option maxRecDepth 100000 in
set_option maxHeartbeats 4000000 in
theorem wjoinO_any (x y : Value) (m s n t : List Int) (w : World) (hx : Wr w x m s) (hy : Wr w y n t) :
    Calls Tryd.prog 17 #[x, y] w (JPostO w (wjA m s n t)) := by
  obtain ⟨mv, sv, rfl, hm, hs⟩ := hx.cells
  obtain ⟨nv, tv, rfl, hn, ht⟩ := hy.cells
  obtain ⟨_, ma, mc, hmv, _, _⟩ := hm.cases
  obtain ⟨_, sa, sc, hsv, _, _⟩ := hs.cases
  obtain ⟨_, na, nc, hnv, _, _⟩ := hn.cases
  obtain ⟨_, ta, tc, htv, _, _⟩ := ht.cases
  generalize m.length = ml at hmv
  generalize s.length = sl at hsv
  generalize n.length = nl at hnv
  generalize t.length = tl at htv
  subst hmv hsv hnv htv
  have HX := Lib.hid hx
  have HY := Lib.hid hy
  clear hx hy hm hs hn ht
  have HB1 := Lib.hid (below3 w (.cells #[.slice ma ml mc, .slice sa sl sc] 30) (.cells #[.slice na nl nc, .slice ta tl tc] 30) (.cells #[.slice none 0 0, .slice none 0 0] 30))
  have HN1 := Lib.hid (@newsp3 w (.cells #[.slice ma ml mc, .slice sa sl sc] 30) (.cells #[.slice na nl nc, .slice ta tl tc] 30) (.cells #[.slice none 0 0, .slice none 0 0] 30))
  go_enter Tryd.func17, Tryd.ntmps17
  go_upto_region 1 with fail
  generalize ((w.alloc (.cells #[.slice ma ml mc, .slice sa sl sc] 30)).alloc (.cells #[.slice na nl nc, .slice ta tl tc] 30)).alloc (.cells #[.slice none 0 0, .slice none 0 0] 30) = w1 at *
  obtain ⟨r0, r1, r2⟩ := HN1.out
  have HR0 := Lib.hid r0
  have HR1 := Lib.hid r1
  have HR2 := Lib.hid r2
  clear r0 r1 r2 HN1
  obtain ⟨c0, c1, _, _⟩ := rowp2 HR0.out
  obtain ⟨d0, d1, _, _⟩ := rowp2 HR1.out
  obtain ⟨p0, p1, z0, z1⟩ := rowp2 HR2.out
  go_wp2_with fail
  refine (wsound_any _ m s w1 (HX.out.below HB1.out)).mono ?_
  rintro e w2 ⟨rfl, hb2⟩
  have HB2 := Lib.hid (HB1.out.trans (hb2.mono HB1.out.size))
  have S0 := Lib.hid ((hb2.block _ (Array.getElem?_eq_some_iff.1 HR0.out).1).trans HR0.out)
  have S1 := Lib.hid ((hb2.block _ (Array.getElem?_eq_some_iff.1 HR1.out).1).trans HR1.out)
  have S2 := Lib.hid ((hb2.block _ (Array.getElem?_eq_some_iff.1 HR2.out).1).trans HR2.out)
  clear hb2 c0 c1 d0 d1 p0 p1 z0 z1
  obtain ⟨c0, c1, _, _⟩ := rowp2 S0.out
  obtain ⟨d0, d1, _, _⟩ := rowp2 S1.out
  obtain ⟨p0, p1, z0, z1⟩ := rowp2 S2.out
  cases h1 : sndW m s with
  | false =>
    have HV : Hid (wjA m s n t = ([], [], 2)) := Lib.hid (joinA_bad (by rw [h1]; rfl))
    go_wp2_with fail
    have hp := putp2 S2.out (.slice none 0 0) (.slice none 0 0)
    obtain ⟨q0, q1, _, _⟩ := rowp2 hp
    refine bodyPost_ret (v := .tuple #[.agg #[.slice none 0 0, .slice none 0 0], .int .i64 2]) (by simp [results, Tryd.results17, go_sem, q0, q1]) rfl ?_
    rw [HV.out]
    exact ⟨⟨_, rfl, WrO.nil _ _⟩, below_fill2 HB2.out (by omega) _ _⟩
  | true =>
    have HS1 := Lib.hid h1
    clear h1
    go_wp2_with fail
    refine (wsound_any _ n t w2 (HY.out.below HB2.out)).mono ?_
    rintro e w3 ⟨rfl, hb3⟩
    have HB3 := Lib.hid (HB2.out.trans (hb3.mono HB2.out.size))
    have T0 := Lib.hid ((hb3.block _ (Array.getElem?_eq_some_iff.1 S0.out).1).trans S0.out)
    have T1 := Lib.hid ((hb3.block _ (Array.getElem?_eq_some_iff.1 S1.out).1).trans S1.out)
    have T2 := Lib.hid ((hb3.block _ (Array.getElem?_eq_some_iff.1 S2.out).1).trans S2.out)
    clear hb3 c0 c1 d0 d1 p0 p1 z0 z1 S0 S1 S2 HR0 HR1 HR2
    obtain ⟨c0, c1, _, _⟩ := rowp2 T0.out
    obtain ⟨d0, d1, _, _⟩ := rowp2 T1.out
    obtain ⟨p0, p1, z0, z1⟩ := rowp2 T2.out
    cases h2 : sndW n t with
    | false =>
      have HV : Hid (wjA m s n t = ([], [], 2)) := Lib.hid (joinA_bad (by rw [h2, Bool.and_false]))
      go_wp2_with fail
      have hp := putp2 T2.out (.slice none 0 0) (.slice none 0 0)
      obtain ⟨q0, q1, _, _⟩ := rowp2 hp
      refine bodyPost_ret (v := .tuple #[.agg #[.slice none 0 0, .slice none 0 0], .int .i64 2]) (by simp [results, Tryd.results17, go_sem, q0, q1]) rfl ?_
      rw [HV.out]
      exact ⟨⟨_, rfl, WrO.nil _ _⟩, below_fill2 HB3.out (by omega) _ _⟩
    | true =>
      have HS2 := Lib.hid h2
      clear h2
      have hls := sndS_le (sndW_snd HS1.out)
      have hlt := sndS_le (sndW_snd HS2.out)
      have HLS := Lib.hid hls
      have HLT := Lib.hid hlt
      clear hls hlt
      go_wp2_with fail
      refine (wends_any _ m s w3 (HX.out.below HB3.out) HLS.out).mono ?_
      rintro e w4 ⟨rfl, hb4⟩
      have HB4 := Lib.hid (HB3.out.trans (hb4.mono HB3.out.size))
      have U0 := Lib.hid ((hb4.block _ (Array.getElem?_eq_some_iff.1 T0.out).1).trans T0.out)
      have U1 := Lib.hid ((hb4.block _ (Array.getElem?_eq_some_iff.1 T1.out).1).trans T1.out)
      have U2 := Lib.hid ((hb4.block _ (Array.getElem?_eq_some_iff.1 T2.out).1).trans T2.out)
      clear hb4 c0 c1 d0 d1 p0 p1 z0 z1 T0 T1 T2
      obtain ⟨c0, c1, _, _⟩ := rowp2 U0.out
      obtain ⟨d0, d1, _, _⟩ := rowp2 U1.out
      obtain ⟨p0, p1, z0, z1⟩ := rowp2 U2.out
      cases he : endB m s with
      | false =>
        have HJ : Hid (wjA m s n t = closeA (m ++ n, s ++ t)) := Lib.hid (by rw [joinA_ok HS1.out HS2.out, show (endB m s && begB n t) = false by rw [he]; rfl]; rfl)
        have HL : Hid (m.length ≤ 10000 ∧ s.length ≤ 10000 ∧ n.length ≤ 10000 ∧ t.length ≤ 10000) := Lib.hid (by have h1 := sndW_len HS1.out; have h2 := sndW_len HS2.out; omega)
        clear he
        have HBW := Lib.hid (HB4.out)
        have HU := Lib.hid (HX.out.below HB4.out)
        have HV := Lib.hid (HY.out.below HB4.out)
        have R0 := Lib.hid (U0.out)
        have R1 := Lib.hid (U1.out)
        have R2 := Lib.hid (U2.out)
        clear c0 c1 d0 d1 p0 p1 z0 z1 U0 U1 U2 HB4 HB3 HB2 HB1
        obtain ⟨c0, c1, _, _⟩ := rowp2 R0.out
        obtain ⟨d0, d1, _, _⟩ := rowp2 R1.out
        obtain ⟨p0, p1, z0, z1⟩ := rowp2 R2.out
        go_wp2_with fail
        refine (aroundO_any _ _ _ _ _ _ _ HU.out HV.out HL.out.1 HL.out.2.1 HL.out.2.2.1 HL.out.2.2.2).mono ?_
        rintro e w9 ⟨⟨z, rfl, hz⟩, hb9⟩
        have HZ := Lib.hid (hz.low HBW.out.size)
        obtain ⟨zm, zs, rfl, hzm, hzs⟩ := hz.wr.cells
        obtain ⟨_, zmo, zmc, hzme, _, _⟩ := hzm.cases
        obtain ⟨_, zso, zsc, hzse, _, _⟩ := hzs.cases
        generalize (_ ++ _ : List Int).length = zml at hzme
        generalize (_ ++ _ : List Int).length = zsl at hzse
        subst hzme hzse
        have HB9 := Lib.hid (HBW.out.trans (hb9.mono HBW.out.size))
        have Q2 := Lib.hid ((hb9.block _ (Array.getElem?_eq_some_iff.1 R2.out).1).trans R2.out)
        clear hb9 c0 c1 d0 d1 p0 p1 z0 z1 hzm hzs
        have Q2a := Lib.hid ((Below.heap_alloc w9 (.cells #[.slice zmo zml zmc, .slice zso zsl zsc] 30) _ (Array.getElem?_eq_some_iff.1 Q2.out).1).trans Q2.out)
        have Q3 := Lib.hid (heap_alloc_new w9 (.cells #[.slice zmo zml zmc, .slice zso zsl zsc] 30))
        have HBa := Lib.hid (HB9.out.alloc HB9.out.size (.cells #[.slice zmo zml zmc, .slice zso zsl zsc] 30))
        have HZa := Lib.hid (HZ.out.below (below1 w9 (.cells #[.slice zmo zml zmc, .slice zso zsl zsc] 30)))
        go_upto_region 6 with fail
        generalize w9.alloc (.cells #[.slice zmo zml zmc, .slice zso zsl zsc] 30) = wa at *
        obtain ⟨g0, g1, _, _⟩ := rowp2 Q3.out
        go_wp2_with fail
        obtain ⟨_, _, hze, hi1, hi2⟩ := HZa.out.wr.cells
        injection hze with hze
        simp only [Array.mk.injEq, List.cons.injEq, and_true] at hze
        obtain ⟨rfl, rfl⟩ := hze
        refine (large_any _ _ _ _ _ hi1 hi2).mono ?_
        rintro e wb ⟨rfl, hbb⟩
        clear hi1 hi2
        have HBb := Lib.hid (HBa.out.trans (hbb.mono HBa.out.size))
        have Y2 := Lib.hid ((hbb.block _ (Array.getElem?_eq_some_iff.1 Q2a.out).1).trans Q2a.out)
        have Y3 := Lib.hid ((hbb.block _ (Array.getElem?_eq_some_iff.1 Q3.out).1).trans Q3.out)
        have HZb := Lib.hid (HZa.out.below hbb)
        clear hbb g0 g1
        obtain ⟨g0, g1, _, _⟩ := rowp2 Y3.out
        obtain ⟨p0, p1, z0, z1⟩ := rowp2 Y2.out
        cases hlg : lrgB (m ++ n) (s ++ t) with
        | true =>
          have HV2 := Lib.hid (HJ.out.trans (closeA_large hlg))
          clear hlg
          go_wp2_with fail
          obtain ⟨q0, q1, _, _⟩ := rowp2 (putp2 Y2.out (.slice none 0 0) (.slice none 0 0))
          refine bodyPost_ret (v := .tuple #[.agg #[.slice none 0 0, .slice none 0 0], .int .i64 6]) (by simp [results, Tryd.results17, go_sem, q0, q1]) rfl ?_
          rw [HV2.out]
          exact ⟨⟨_, rfl, WrO.nil _ _⟩, below_fill2 HBb.out (by omega) _ _⟩
        | false =>
          have HLG := Lib.hid hlg
          clear hlg
          go_wp2_with fail
          refine (wsound_any _ _ _ _ HZb.out.wr).mono ?_
          rintro e wc ⟨rfl, hbc⟩
          have HBc := Lib.hid (HBb.out.trans (hbc.mono HBb.out.size))
          have K2 := Lib.hid ((hbc.block _ (Array.getElem?_eq_some_iff.1 Y2.out).1).trans Y2.out)
          have K3 := Lib.hid ((hbc.block _ (Array.getElem?_eq_some_iff.1 Y3.out).1).trans Y3.out)
          have HZc := Lib.hid (HZb.out.below hbc)
          clear hbc g0 g1 p0 p1 z0 z1
          obtain ⟨g0, g1, _, _⟩ := rowp2 K3.out
          obtain ⟨p0, p1, z0, z1⟩ := rowp2 K2.out
          have hsb : sndW (m ++ n) (s ++ t) = sndS (m ++ n) (s ++ t) := by unfold sndW; rw [HLG.out]; rfl
          rw [hsb]
          clear hsb
          cases hss : sndS (m ++ n) (s ++ t) with
          | false =>
            have HV2 := Lib.hid (HJ.out.trans (closeA_bad HLG.out hss))
            clear hss
            go_wp2_with fail
            obtain ⟨q0, q1, _, _⟩ := rowp2 (putp2 K2.out (.slice none 0 0) (.slice none 0 0))
            refine bodyPost_ret (v := .tuple #[.agg #[.slice none 0 0, .slice none 0 0], .int .i64 2]) (by simp [results, Tryd.results17, go_sem, q0, q1]) rfl ?_
            rw [HV2.out]
            exact ⟨⟨_, rfl, WrO.nil _ _⟩, below_fill2 HBc.out (by omega) _ _⟩
          | true =>
            have HV2 := Lib.hid (HJ.out.trans (closeA_ok HLG.out hss))
            clear hss
            go_wp2_with fail
            have hfl := HZc.out.fill K2.out (by decide) (.slice zmo zml zmc) (.slice zso zsl zsc)
            obtain ⟨q0, q1, _, _⟩ := rowp2 (putp2 K2.out (.slice zmo zml zmc) (.slice zso zsl zsc))
            refine bodyPost_ret (v := .tuple #[.agg #[.slice zmo zml zmc, .slice zso zsl zsc], .int .i64 0]) (by simp [results, Tryd.results17, go_sem, q0, q1]) rfl ?_
            rw [HV2.out]
            exact ⟨⟨_, rfl, hfl⟩, below_fill2 HBc.out (by omega) _ _⟩
      | true =>
        have HE := Lib.hid he
        clear he
        go_wp2_with fail
        refine (begins_any _ n t w4 (HY.out.below HB4.out) HLT.out).mono ?_
        rintro e w5 ⟨rfl, hb5⟩
        have HB5 := Lib.hid (HB4.out.trans (hb5.mono HB4.out.size))
        have V0 := Lib.hid ((hb5.block _ (Array.getElem?_eq_some_iff.1 U0.out).1).trans U0.out)
        have V1 := Lib.hid ((hb5.block _ (Array.getElem?_eq_some_iff.1 U1.out).1).trans U1.out)
        have V2 := Lib.hid ((hb5.block _ (Array.getElem?_eq_some_iff.1 U2.out).1).trans U2.out)
        clear hb5 c0 c1 d0 d1 p0 p1 z0 z1 U0 U1 U2
        obtain ⟨c0, c1, y0, y1⟩ := rowp2 V0.out
        obtain ⟨d0, d1, x0, x1⟩ := rowp2 V1.out
        obtain ⟨p0, p1, z0, z1⟩ := rowp2 V2.out
        cases hf : begB n t with
        | false =>
          have HJ : Hid (wjA m s n t = closeA (m ++ n, s ++ t)) := Lib.hid (by rw [joinA_ok HS1.out HS2.out, show (endB m s && begB n t) = false by rw [hf, Bool.and_false]]; rfl)
          have HL : Hid (m.length ≤ 10000 ∧ s.length ≤ 10000 ∧ n.length ≤ 10000 ∧ t.length ≤ 10000) := Lib.hid (by have h1 := sndW_len HS1.out; have h2 := sndW_len HS2.out; omega)
          clear hf
          have HBW := Lib.hid (HB5.out)
          have HU := Lib.hid (HX.out.below HB5.out)
          have HV := Lib.hid (HY.out.below HB5.out)
          have R0 := Lib.hid (V0.out)
          have R1 := Lib.hid (V1.out)
          have R2 := Lib.hid (V2.out)
          clear c0 c1 d0 d1 p0 p1 z0 z1 x0 x1 y0 y1 V0 V1 V2 HB5 HB4 HB3 HB2 HB1
          obtain ⟨c0, c1, _, _⟩ := rowp2 R0.out
          obtain ⟨d0, d1, _, _⟩ := rowp2 R1.out
          obtain ⟨p0, p1, z0, z1⟩ := rowp2 R2.out
          go_wp2_with fail
          refine (aroundO_any _ _ _ _ _ _ _ HU.out HV.out HL.out.1 HL.out.2.1 HL.out.2.2.1 HL.out.2.2.2).mono ?_
          rintro e w9 ⟨⟨z, rfl, hz⟩, hb9⟩
          have HZ := Lib.hid (hz.low HBW.out.size)
          obtain ⟨zm, zs, rfl, hzm, hzs⟩ := hz.wr.cells
          obtain ⟨_, zmo, zmc, hzme, _, _⟩ := hzm.cases
          obtain ⟨_, zso, zsc, hzse, _, _⟩ := hzs.cases
          generalize (_ ++ _ : List Int).length = zml at hzme
          generalize (_ ++ _ : List Int).length = zsl at hzse
          subst hzme hzse
          have HB9 := Lib.hid (HBW.out.trans (hb9.mono HBW.out.size))
          have Q2 := Lib.hid ((hb9.block _ (Array.getElem?_eq_some_iff.1 R2.out).1).trans R2.out)
          clear hb9 c0 c1 d0 d1 p0 p1 z0 z1 hzm hzs
          have Q2a := Lib.hid ((Below.heap_alloc w9 (.cells #[.slice zmo zml zmc, .slice zso zsl zsc] 30) _ (Array.getElem?_eq_some_iff.1 Q2.out).1).trans Q2.out)
          have Q3 := Lib.hid (heap_alloc_new w9 (.cells #[.slice zmo zml zmc, .slice zso zsl zsc] 30))
          have HBa := Lib.hid (HB9.out.alloc HB9.out.size (.cells #[.slice zmo zml zmc, .slice zso zsl zsc] 30))
          have HZa := Lib.hid (HZ.out.below (below1 w9 (.cells #[.slice zmo zml zmc, .slice zso zsl zsc] 30)))
          go_upto_region 6 with fail
          generalize w9.alloc (.cells #[.slice zmo zml zmc, .slice zso zsl zsc] 30) = wa at *
          obtain ⟨g0, g1, _, _⟩ := rowp2 Q3.out
          go_wp2_with fail
          obtain ⟨_, _, hze, hi1, hi2⟩ := HZa.out.wr.cells
          injection hze with hze
          simp only [Array.mk.injEq, List.cons.injEq, and_true] at hze
          obtain ⟨rfl, rfl⟩ := hze
          refine (large_any _ _ _ _ _ hi1 hi2).mono ?_
          rintro e wb ⟨rfl, hbb⟩
          clear hi1 hi2
          have HBb := Lib.hid (HBa.out.trans (hbb.mono HBa.out.size))
          have Y2 := Lib.hid ((hbb.block _ (Array.getElem?_eq_some_iff.1 Q2a.out).1).trans Q2a.out)
          have Y3 := Lib.hid ((hbb.block _ (Array.getElem?_eq_some_iff.1 Q3.out).1).trans Q3.out)
          have HZb := Lib.hid (HZa.out.below hbb)
          clear hbb g0 g1
          obtain ⟨g0, g1, _, _⟩ := rowp2 Y3.out
          obtain ⟨p0, p1, z0, z1⟩ := rowp2 Y2.out
          cases hlg : lrgB (m ++ n) (s ++ t) with
          | true =>
            have HV2 := Lib.hid (HJ.out.trans (closeA_large hlg))
            clear hlg
            go_wp2_with fail
            obtain ⟨q0, q1, _, _⟩ := rowp2 (putp2 Y2.out (.slice none 0 0) (.slice none 0 0))
            refine bodyPost_ret (v := .tuple #[.agg #[.slice none 0 0, .slice none 0 0], .int .i64 6]) (by simp [results, Tryd.results17, go_sem, q0, q1]) rfl ?_
            rw [HV2.out]
            exact ⟨⟨_, rfl, WrO.nil _ _⟩, below_fill2 HBb.out (by omega) _ _⟩
          | false =>
            have HLG := Lib.hid hlg
            clear hlg
            go_wp2_with fail
            refine (wsound_any _ _ _ _ HZb.out.wr).mono ?_
            rintro e wc ⟨rfl, hbc⟩
            have HBc := Lib.hid (HBb.out.trans (hbc.mono HBb.out.size))
            have K2 := Lib.hid ((hbc.block _ (Array.getElem?_eq_some_iff.1 Y2.out).1).trans Y2.out)
            have K3 := Lib.hid ((hbc.block _ (Array.getElem?_eq_some_iff.1 Y3.out).1).trans Y3.out)
            have HZc := Lib.hid (HZb.out.below hbc)
            clear hbc g0 g1 p0 p1 z0 z1
            obtain ⟨g0, g1, _, _⟩ := rowp2 K3.out
            obtain ⟨p0, p1, z0, z1⟩ := rowp2 K2.out
            have hsb : sndW (m ++ n) (s ++ t) = sndS (m ++ n) (s ++ t) := by unfold sndW; rw [HLG.out]; rfl
            rw [hsb]
            clear hsb
            cases hss : sndS (m ++ n) (s ++ t) with
            | false =>
              have HV2 := Lib.hid (HJ.out.trans (closeA_bad HLG.out hss))
              clear hss
              go_wp2_with fail
              obtain ⟨q0, q1, _, _⟩ := rowp2 (putp2 K2.out (.slice none 0 0) (.slice none 0 0))
              refine bodyPost_ret (v := .tuple #[.agg #[.slice none 0 0, .slice none 0 0], .int .i64 2]) (by simp [results, Tryd.results17, go_sem, q0, q1]) rfl ?_
              rw [HV2.out]
              exact ⟨⟨_, rfl, WrO.nil _ _⟩, below_fill2 HBc.out (by omega) _ _⟩
            | true =>
              have HV2 := Lib.hid (HJ.out.trans (closeA_ok HLG.out hss))
              clear hss
              go_wp2_with fail
              have hfl := HZc.out.fill K2.out (by decide) (.slice zmo zml zmc) (.slice zso zsl zsc)
              obtain ⟨q0, q1, _, _⟩ := rowp2 (putp2 K2.out (.slice zmo zml zmc) (.slice zso zsl zsc))
              refine bodyPost_ret (v := .tuple #[.agg #[.slice zmo zml zmc, .slice zso zsl zsc], .int .i64 0]) (by simp [results, Tryd.results17, go_sem, q0, q1]) rfl ?_
              rw [HV2.out]
              exact ⟨⟨_, rfl, hfl⟩, below_fill2 HBc.out (by omega) _ _⟩
        | true =>
          go_upto_region 4 with fail
          have HEX : Hid (∀ W, Below w5.heap.size w5 W → Wr W (.agg #[.slice ma ml mc, .slice sa sl sc]) m s ∧ Wr W (.agg #[.slice na nl nc, .slice ta tl tc]) n t) := Lib.hid fun W hW => ⟨HX.out.below (HB5.out.trans (hW.mono HB5.out.size)), HY.out.below (HB5.out.trans (hW.mono HB5.out.size))⟩
          have HF := Lib.hid hf
          clear hf
          have hm0 : 0 < m.length := by have := HE.out; unfold endB at this; simp at this; omega
          have hn0 : 0 < n.length := by have := HF.out; unfold begB at this; simp at this; omega
          have HM0 := Lib.hid hm0
          have HN0 := Lib.hid hn0
          clear hm0 hn0
          go_region_with (first
            | (go_at_call 37; refine (withoutfirst_any _ n t _ (HEX.out _ (by first | exact (Below.refl _ _).drew.trans hb6 | exact hb6)).2 HN0.out HLT.out).mono ?_; rintro e w7 ⟨⟨u7, rfl, hu7⟩, hb7⟩; obtain ⟨vm, vs, rfl, hvm, hvs⟩ := hu7.cells; obtain ⟨_, vmo, vmc, rfl, _, _⟩ := hvm.cases; obtain ⟨_, vso, vsc, rfl, _, _⟩ := hvs.cases; have B0 := (hb7.block _ (Array.getElem?_eq_some_iff.1 A0).1).trans A0; have B1 := (hb7.block _ (Array.getElem?_eq_some_iff.1 A1).1).trans A1; have B2 := (hb7.block _ (Array.getElem?_eq_some_iff.1 A2).1).trans A2; clear c0 c1 d0 d1 p0 p1 y0 y1 x0 x1 z0 z1; obtain ⟨c0, c1, y0, y1⟩ := rowp2 B0; obtain ⟨d0, d1, x0, x1⟩ := rowp2 B1; obtain ⟨p0, p1, z0, z1⟩ := rowp2 B2)
            | (go_at_call 36; refine (withoutlast_any _ m s _ (HEX.out _ (Below.refl _ _).drew).1 HM0.out HLS.out).mono ?_; rintro e w6 ⟨⟨u6, rfl, hu6⟩, hb6⟩; obtain ⟨um, us, rfl, hum, hus⟩ := hu6.cells; obtain ⟨_, umo, umc, rfl, _, _⟩ := hum.cases; obtain ⟨_, uso, usc, rfl, _, _⟩ := hus.cases; have A0 := (hb6.block _ (Array.getElem?_eq_some_iff.1 V0.out).1).trans V0.out; have A1 := (hb6.block _ (Array.getElem?_eq_some_iff.1 V1.out).1).trans V1.out; have A2 := (hb6.block _ (Array.getElem?_eq_some_iff.1 V2.out).1).trans V2.out; clear c0 c1 d0 d1 p0 p1 y0 y1 x0 x1 z0 z1; obtain ⟨c0, c1, y0, y1⟩ := rowp2 A0; obtain ⟨d0, d1, x0, x1⟩ := rowp2 A1; obtain ⟨p0, p1, z0, z1⟩ := rowp2 A2))
          all_goals
            simp only [List.length_dropLast, List.length_tail] at hu6 hu7
            have hB6 := HB5.out.drew.trans (hb6.mono HB5.out.drew.size)
            have hB7 := hB6.trans (hb7.mono hB6.size)
            have hu := (hu6.below hb7).fill B0 (.slice umo (m.length - 1) umc) (.slice uso (s.length - 1) usc)
            have hv := hu7.fill B0 (.slice umo (m.length - 1) umc) (.slice uso (s.length - 1) usc)
            have e0 := putp2 B0 (.slice umo (m.length - 1) umc) (.slice uso (s.length - 1) usc)
            have e1 := (far2 (show w.heap.size + 1 ≠ w.heap.size by omega) (.slice umo (m.length - 1) umc) (.slice uso (s.length - 1) usc)).trans B1
            have e2 := (far2 (show w.heap.size + 1 + 1 ≠ w.heap.size by omega) (.slice umo (m.length - 1) umc) (.slice uso (s.length - 1) usc)).trans B2
            have hB8 := below_fill2 hB7 (Nat.le_refl w.heap.size) (.slice umo (m.length - 1) umc) (.slice uso (s.length - 1) usc)
            have hu8 := hu.fill e1 (.slice vmo (n.length - 1) vmc) (.slice vso (t.length - 1) vsc)
            have hv8 := hv.fill e1 (.slice vmo (n.length - 1) vmc) (.slice vso (t.length - 1) vsc)
            have f1 := putp2 e1 (.slice vmo (n.length - 1) vmc) (.slice vso (t.length - 1) vsc)
            have f0 := (far2 (show w.heap.size ≠ w.heap.size + 1 by omega) (.slice vmo (n.length - 1) vmc) (.slice vso (t.length - 1) vsc)).trans e0
            have f2 := (far2 (show w.heap.size + 1 + 1 ≠ w.heap.size + 1 by omega) (.slice vmo (n.length - 1) vmc) (.slice vso (t.length - 1) vsc)).trans e2
            have hB9 := below_fill2 hB8 (show w.heap.size ≤ w.heap.size + 1 by omega) (.slice vmo (n.length - 1) vmc) (.slice vso (t.length - 1) vsc)
            refine (‹∀ (a : Act) (w : World), Code.wp Tryd.prog _ _ a w → _›) _ _ ?_
            have HJ : Hid (wjA m s n t = closeA (m.dropLast ++ n.tail, s.dropLast ++ t.tail)) := Lib.hid (by rw [joinA_ok HS1.out HS2.out, HE.out, HF.out]; rfl)
            have HL : Hid (m.dropLast.length ≤ 10000 ∧ s.dropLast.length ≤ 10000 ∧ n.tail.length ≤ 10000 ∧ t.tail.length ≤ 10000) := Lib.hid (by have h1 := sndW_len HS1.out; have h2 := sndW_len HS2.out; simp only [List.length_dropLast, List.length_tail]; omega)
            have HBW := Lib.hid (hB9)
            have HU := Lib.hid (hu8)
            have HV := Lib.hid (hv8)
            have R0 := Lib.hid (f0)
            have R1 := Lib.hid (f1)
            have R2 := Lib.hid (f2)
            clear c0 c1 d0 d1 p0 p1 z0 z1 x0 x1 y0 y1 V0 V1 V2 HB5 HB4 HB3 HB2 HB1 hB6 hB7 hB8 hB9 hu hv e0 e1 e2 f0 f1 f2 hu8 hv8 A0 A1 A2 B0 B1 B2 hb6 hb7 hu6 hu7
            generalize ((((w7.setCell ⟨w.heap.size, 0, none⟩ (.slice umo (m.length - 1) umc)).setCell ⟨w.heap.size, 1, none⟩ (.slice uso (s.length - 1) usc)).setCell ⟨w.heap.size + 1, 0, none⟩ (.slice vmo (n.length - 1) vmc)).setCell ⟨w.heap.size + 1, 1, none⟩ (.slice vso (t.length - 1) vsc)) = w8 at *
            obtain ⟨c0, c1, _, _⟩ := rowp2 R0.out
            obtain ⟨d0, d1, _, _⟩ := rowp2 R1.out
            obtain ⟨p0, p1, z0, z1⟩ := rowp2 R2.out
            go_wp2_with fail
            refine (aroundO_any _ _ _ _ _ _ _ HU.out HV.out HL.out.1 HL.out.2.1 HL.out.2.2.1 HL.out.2.2.2).mono ?_
            rintro e w9 ⟨⟨z, rfl, hz⟩, hb9⟩
            have HZ := Lib.hid (hz.low HBW.out.size)
            obtain ⟨zm, zs, rfl, hzm, hzs⟩ := hz.wr.cells
            obtain ⟨_, zmo, zmc, hzme, _, _⟩ := hzm.cases
            obtain ⟨_, zso, zsc, hzse, _, _⟩ := hzs.cases
            generalize (_ ++ _ : List Int).length = zml at hzme
            generalize (_ ++ _ : List Int).length = zsl at hzse
            subst hzme hzse
            have HB9 := Lib.hid (HBW.out.trans (hb9.mono HBW.out.size))
            have Q2 := Lib.hid ((hb9.block _ (Array.getElem?_eq_some_iff.1 R2.out).1).trans R2.out)
            clear hb9 c0 c1 d0 d1 p0 p1 z0 z1 hzm hzs
            have Q2a := Lib.hid ((Below.heap_alloc w9 (.cells #[.slice zmo zml zmc, .slice zso zsl zsc] 30) _ (Array.getElem?_eq_some_iff.1 Q2.out).1).trans Q2.out)
            have Q3 := Lib.hid (heap_alloc_new w9 (.cells #[.slice zmo zml zmc, .slice zso zsl zsc] 30))
            have HBa := Lib.hid (HB9.out.alloc HB9.out.size (.cells #[.slice zmo zml zmc, .slice zso zsl zsc] 30))
            have HZa := Lib.hid (HZ.out.below (below1 w9 (.cells #[.slice zmo zml zmc, .slice zso zsl zsc] 30)))
            go_upto_region 6 with fail
            generalize w9.alloc (.cells #[.slice zmo zml zmc, .slice zso zsl zsc] 30) = wa at *
            obtain ⟨g0, g1, _, _⟩ := rowp2 Q3.out
            go_wp2_with fail
            obtain ⟨_, _, hze, hi1, hi2⟩ := HZa.out.wr.cells
            injection hze with hze
            simp only [Array.mk.injEq, List.cons.injEq, and_true] at hze
            obtain ⟨rfl, rfl⟩ := hze
            refine (large_any _ _ _ _ _ hi1 hi2).mono ?_
            rintro e wb ⟨rfl, hbb⟩
            clear hi1 hi2
            have HBb := Lib.hid (HBa.out.trans (hbb.mono HBa.out.size))
            have Y2 := Lib.hid ((hbb.block _ (Array.getElem?_eq_some_iff.1 Q2a.out).1).trans Q2a.out)
            have Y3 := Lib.hid ((hbb.block _ (Array.getElem?_eq_some_iff.1 Q3.out).1).trans Q3.out)
            have HZb := Lib.hid (HZa.out.below hbb)
            clear hbb g0 g1
            obtain ⟨g0, g1, _, _⟩ := rowp2 Y3.out
            obtain ⟨p0, p1, z0, z1⟩ := rowp2 Y2.out
            cases hlg : lrgB (m.dropLast ++ n.tail) (s.dropLast ++ t.tail) with
            | true =>
              have HV2 := Lib.hid (HJ.out.trans (closeA_large hlg))
              clear hlg
              go_wp2_with fail
              obtain ⟨q0, q1, _, _⟩ := rowp2 (putp2 Y2.out (.slice none 0 0) (.slice none 0 0))
              refine bodyPost_ret (v := .tuple #[.agg #[.slice none 0 0, .slice none 0 0], .int .i64 6]) (by simp [results, Tryd.results17, go_sem, q0, q1]) rfl ?_
              rw [HV2.out]
              exact ⟨⟨_, rfl, WrO.nil _ _⟩, below_fill2 HBb.out (by omega) _ _⟩
            | false =>
              have HLG := Lib.hid hlg
              clear hlg
              go_wp2_with fail
              refine (wsound_any _ _ _ _ HZb.out.wr).mono ?_
              rintro e wc ⟨rfl, hbc⟩
              have HBc := Lib.hid (HBb.out.trans (hbc.mono HBb.out.size))
              have K2 := Lib.hid ((hbc.block _ (Array.getElem?_eq_some_iff.1 Y2.out).1).trans Y2.out)
              have K3 := Lib.hid ((hbc.block _ (Array.getElem?_eq_some_iff.1 Y3.out).1).trans Y3.out)
              have HZc := Lib.hid (HZb.out.below hbc)
              clear hbc g0 g1 p0 p1 z0 z1
              obtain ⟨g0, g1, _, _⟩ := rowp2 K3.out
              obtain ⟨p0, p1, z0, z1⟩ := rowp2 K2.out
              have hsb : sndW (m.dropLast ++ n.tail) (s.dropLast ++ t.tail) = sndS (m.dropLast ++ n.tail) (s.dropLast ++ t.tail) := by unfold sndW; rw [HLG.out]; rfl
              rw [hsb]
              clear hsb
              cases hss : sndS (m.dropLast ++ n.tail) (s.dropLast ++ t.tail) with
              | false =>
                have HV2 := Lib.hid (HJ.out.trans (closeA_bad HLG.out hss))
                clear hss
                go_wp2_with fail
                obtain ⟨q0, q1, _, _⟩ := rowp2 (putp2 K2.out (.slice none 0 0) (.slice none 0 0))
                refine bodyPost_ret (v := .tuple #[.agg #[.slice none 0 0, .slice none 0 0], .int .i64 2]) (by simp [results, Tryd.results17, go_sem, q0, q1]) rfl ?_
                rw [HV2.out]
                exact ⟨⟨_, rfl, WrO.nil _ _⟩, below_fill2 HBc.out (by omega) _ _⟩
              | true =>
                have HV2 := Lib.hid (HJ.out.trans (closeA_ok HLG.out hss))
                clear hss
                go_wp2_with fail
                have hfl := HZc.out.fill K2.out (by decide) (.slice zmo zml zmc) (.slice zso zsl zsc)
                obtain ⟨q0, q1, _, _⟩ := rowp2 (putp2 K2.out (.slice zmo zml zmc) (.slice zso zsl zsc))
                refine bodyPost_ret (v := .tuple #[.agg #[.slice zmo zml zmc, .slice zso zsl zsc], .int .i64 0]) (by simp [results, Tryd.results17, go_sem, q0, q1]) rfl ?_
                rw [HV2.out]
                exact ⟨⟨_, rfl, hfl⟩, below_fill2 HBc.out (by omega) _ _⟩
theorem wjoin_any (x y : Value) (m s n t : List Int) (w : World) (hx : Wr w x m s) (hy : Wr w y n t) :
    Calls Tryd.prog 17 #[x, y] w (JPost w (wjA m s n t)) :=
  (wjoinO_any x y m s n t w hx hy).mono fun _ _ ⟨⟨z, he, hz⟩, hb⟩ => ⟨⟨z, he, hz.wr⟩, hb⟩
end Go.Proofs.YtbfcbicbeagjkaaDoor
