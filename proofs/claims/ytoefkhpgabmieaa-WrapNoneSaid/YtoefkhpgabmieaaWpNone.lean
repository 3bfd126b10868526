/- WrapNone -/
import Derived.Test.YtoefkhpgabmieaaWpLaw
namespace Go.Proofs.Ytoefkhpgabmieaa
open Go.RowKit

theorem joinA_none {m s : List Int} (h : sndB m s = true) : joinA m s [] [] = (m, s, 0) := by
  have e0 : sndB [] [] = true := by decide
  have e1 : begB [] [] = false := by decide
  rw [joinA_ok h e0, e1, Bool.and_false]
  have e2 : marryA false m s [] [] = (m, s) := by simp [marryA, cutL, cutF]
  have h2 := h
  unfold sndB at h2
  rw [Bool.and_eq_true, Bool.not_eq_true'] at h2
  rw [e2, closeA_ok h2.1 h2.2]
theorem none_joinA {m s : List Int} (h : sndB m s = true) : joinA [] [] m s = (m, s, 0) := by
  have e0 : sndB [] [] = true := by decide
  have e1 : endB [] [] = false := by decide
  rw [joinA_ok e0 h, e1, Bool.false_and]
  have e2 : marryA false [] [] m s = (m, s) := by simp [marryA, cutL, cutF]
  have h2 := h
  unfold sndB at h2
  rw [Bool.and_eq_true, Bool.not_eq_true'] at h2
  rw [e2, closeA_ok h2.1 h2.2]
theorem sameZ_self (m : List Int) : sameZ m m = true := sameZ_true rfl
theorem wr_nil (w : World) : Wr w (.agg #[.slice none 0 0, .slice none 0 0]) [] [] := ⟨_, _, rfl, Iz.nil _, Iz.nil _⟩

set_option maxRecDepth 100000 in
set_option maxHeartbeats 4000000 in
theorem wrapnone_any (x : Value) (m s : List Int) (w : World) (hx : Wr w x m s) :
    Calls Try.prog 6 #[x] w fun e w' => e = .returned (.bool true) ∧ Below w.heap.size w w' := by
  obtain ⟨mv, sv, rfl, hm, hs⟩ := hx.cells
  obtain ⟨_, ma, mc, hmv, _, _⟩ := hm.cases
  obtain ⟨_, sa, sc, hsv, _, _⟩ := hs.cases
  generalize hml : m.length = ml at hmv
  generalize hsl : s.length = sl at hsv
  subst hmv hsv
  have HX_0 := Lib.hid (hx.below (below1 w (.cells #[.slice ma ml mc, .slice sa sl sc] 24)))
  have HLM := Lib.hid hml
  have HLS := Lib.hid hsl
  clear hx hm hs hml hsl
  have HB0 := Lib.hid (below1 w (.cells #[.slice ma ml mc, .slice sa sl sc] 24))
  have Ra0 := Lib.hid (heap_alloc_new w (.cells #[.slice ma ml mc, .slice sa sl sc] 24))
  go_enter Try.func6, Try.ntmps6
  go_upto_region 1 with fail
  generalize w.alloc (.cells #[.slice ma ml mc, .slice sa sl sc] 24) = w1 at *
  obtain ⟨ca0, da0, ya0, za0⟩ := rowp2 Ra0.out
  go_wp2_with fail
  refine (answers9_any w1).mono ?_
  rintro e w2 ⟨rfl, hbx⟩
  have HB1 := Lib.hid (HB0.out.trans (hbx.mono HB0.out.size))
  have Ra1 := Lib.hid ((hbx.block _ (Array.getElem?_eq_some_iff.1 Ra0.out).1).trans Ra0.out)
  have HX_1 := Lib.hid (HX_0.out.below hbx)
  clear Ra0 HX_0
  clear hbx
  clear ca0 da0 ya0 za0
  obtain ⟨ca1, da1, ya1, za1⟩ := rowp2 Ra1.out
  go_wp2_with fail
  refine (light_any _ _ m s w2 (by obtain ⟨_, _, e, h1, _⟩ := HX_1.out.cells; injection e with e; injection e with e; injection e with e1 e2; rw [e1]; exact h1) (by obtain ⟨_, _, e, _, h2⟩ := HX_1.out.cells; injection e with e; injection e with e; injection e with _ e2; injection e2 with e2; rw [e2]; exact h2)).mono ?_
  rintro e w3 ⟨rfl, hbx⟩
  have HB2 := Lib.hid (HB1.out.trans (hbx.mono HB1.out.size))
  have Ra2 := Lib.hid ((hbx.block _ (Array.getElem?_eq_some_iff.1 Ra1.out).1).trans Ra1.out)
  have HX_2 := Lib.hid (HX_1.out.below hbx)
  clear HB1 Ra1 HX_1
  clear hbx
  clear ca1 da1 ya1 za1
  obtain ⟨ca2, da2, ya2, za2⟩ := rowp2 Ra2.out
  cases hlt : (decide (m.length ≤ 2000) && decide (s.length ≤ 2000)) with
  | false =>
    go_wp2_with fail
    clear ca2 da2 ya2 za2
    refine (answers9_any w3).mono ?_
    rintro e w4 ⟨rfl, hbx⟩
    have HBz := Lib.hid (HB2.out.trans (hbx.mono HB2.out.size))
    clear hbx
    go_wp2_with fail
    go_ret
    exact ⟨rfl, HBz.out⟩
  | true =>
    have hln : m.length ≤ 2000 ∧ s.length ≤ 2000 := by simpa using hlt
    have HLN := Lib.hid hln
    clear hln hlt
    go_wp2_with fail
    refine (lown_any _ m s w3 HX_2.out (by have := HLN.out; omega) (by have := HLN.out; omega)).mono ?_
    rintro e w4 ⟨⟨y1, rfl, hy1⟩, hbx⟩
    have HB3 := Lib.hid (HB2.out.trans (hbx.mono HB2.out.size))
    have Ra3 := Lib.hid ((hbx.block _ (Array.getElem?_eq_some_iff.1 Ra2.out).1).trans Ra2.out)
    have HX_3 := Lib.hid (HX_2.out.below hbx)
    clear HB2 Ra2 HX_2
    clear hbx
    clear ca2 da2 ya2 za2
    obtain ⟨ca3, da3, ya3, za3⟩ := rowp2 Ra3.out
    have HY_3 := Lib.hid hy1
    clear hy1
    go_wp2_with fail
    refine (wjoin_any y1 _ m s [] [] w4 HY_3.out (wr_nil w4)).mono ?_
    rintro e w5 ⟨⟨z1, rfl, hz1⟩, hbx⟩
    have HB4 := Lib.hid (HB3.out.trans (hbx.mono HB3.out.size))
    have Ra4 := Lib.hid ((hbx.block _ (Array.getElem?_eq_some_iff.1 Ra3.out).1).trans Ra3.out)
    have HX_4 := Lib.hid (HX_3.out.below hbx)
    have HY_4 := Lib.hid (HY_3.out.below hbx)
    clear HB3 Ra3 HX_3 HY_3
    clear hbx
    clear ca3 da3 ya3 za3
    obtain ⟨ca4, da4, ya4, za4⟩ := rowp2 Ra4.out
    obtain ⟨k1, hk1⟩ : ∃ k, k = (joinA m s [] []).2.2 := ⟨_, rfl⟩
    rw [← hk1]
    have HK1 := Lib.hid hk1
    clear hk1
    have HZ_4 := Lib.hid hz1
    clear hz1
    obtain ⟨_, _, rfl, hp1, hp2⟩ := HZ_4.out.cells
    obtain ⟨_, o1, q1, rfl, _, _⟩ := hp1.cases
    obtain ⟨_, o2, q2, rfl, _, _⟩ := hp2.cases
    clear hp1 hp2
    generalize hj1 : (joinA m s [] []).1.length = j1 at *
    generalize hj2 : (joinA m s [] []).2.1.length = j2 at *
    clear hj1 hj2
    have hbx := below1 w5 (.cells #[.slice o1 j1 q1, .slice o2 j2 q2] 24)
    have hnx := heap_alloc_new w5 (.cells #[.slice o1 j1 q1, .slice o2 j2 q2] 24)
    have HB5 := Lib.hid (HB4.out.trans (hbx.mono HB4.out.size))
    have Ra5 := Lib.hid ((hbx.block _ (Array.getElem?_eq_some_iff.1 Ra4.out).1).trans Ra4.out)
    have HX_5 := Lib.hid (HX_4.out.below hbx)
    have HY_5 := Lib.hid (HY_4.out.below hbx)
    have HZ_5 := Lib.hid (HZ_4.out.below hbx)
    clear HB4 Ra4 HX_4 HY_4 HZ_4
    have Rb6 := Lib.hid hnx
    clear hbx hnx
    go_upto_region 4 with fail
    clear ca4 da4 ya4 za4
    generalize w5.alloc (.cells #[.slice o1 j1 q1, .slice o2 j2 q2] 24) = w5a at *
    obtain ⟨ca5, da5, ya5, za5⟩ := rowp2 Ra5.out
    obtain ⟨cb5, db5, yb5, zb5⟩ := rowp2 Rb6.out
    go_wp2_with fail
    refine (lown_any _ m s w5a HX_5.out (by have := HLN.out; omega) (by have := HLN.out; omega)).mono ?_
    rintro e w6 ⟨⟨y2, rfl, hy2⟩, hbx⟩
    have HB7 := Lib.hid (HB5.out.trans (hbx.mono HB5.out.size))
    have Ra7 := Lib.hid ((hbx.block _ (Array.getElem?_eq_some_iff.1 Ra5.out).1).trans Ra5.out)
    have Rb7 := Lib.hid ((hbx.block _ (Array.getElem?_eq_some_iff.1 Rb6.out).1).trans Rb6.out)
    have HX_7 := Lib.hid (HX_5.out.below hbx)
    have HY_7 := Lib.hid (HY_5.out.below hbx)
    have HZ_7 := Lib.hid (HZ_5.out.below hbx)
    clear HB5 Ra5 Rb6 HX_5 HY_5 HZ_5
    clear hbx
    clear ca5 da5 ya5 za5 cb5 db5 yb5 zb5
    obtain ⟨ca6, da6, ya6, za6⟩ := rowp2 Ra7.out
    obtain ⟨cb6, db6, yb6, zb6⟩ := rowp2 Rb7.out
    have HV_7 := Lib.hid hy2
    clear hy2
    go_wp2_with fail
    refine (wjoin_any _ y2 [] [] m s w6 (wr_nil w6) HV_7.out).mono ?_
    rintro e w7 ⟨⟨z2, rfl, hz2⟩, hbx⟩
    have HB8 := Lib.hid (HB7.out.trans (hbx.mono HB7.out.size))
    have Ra8 := Lib.hid ((hbx.block _ (Array.getElem?_eq_some_iff.1 Ra7.out).1).trans Ra7.out)
    have Rb8 := Lib.hid ((hbx.block _ (Array.getElem?_eq_some_iff.1 Rb7.out).1).trans Rb7.out)
    have HX_8 := Lib.hid (HX_7.out.below hbx)
    have HY_8 := Lib.hid (HY_7.out.below hbx)
    have HZ_8 := Lib.hid (HZ_7.out.below hbx)
    have HV_8 := Lib.hid (HV_7.out.below hbx)
    clear HB7 Ra7 Rb7 HX_7 HY_7 HZ_7 HV_7
    clear hbx
    clear ca6 da6 ya6 za6 cb6 db6 yb6 zb6
    obtain ⟨ca7, da7, ya7, za7⟩ := rowp2 Ra8.out
    obtain ⟨cb7, db7, yb7, zb7⟩ := rowp2 Rb8.out
    obtain ⟨k2, hk2⟩ : ∃ k, k = (joinA [] [] m s).2.2 := ⟨_, rfl⟩
    rw [← hk2]
    have HK2 := Lib.hid hk2
    clear hk2
    have HW_8 := Lib.hid hz2
    clear hz2
    obtain ⟨_, _, rfl, hp1, hp2⟩ := HW_8.out.cells
    obtain ⟨_, o3, q3, rfl, _, _⟩ := hp1.cases
    obtain ⟨_, o4, q4, rfl, _, _⟩ := hp2.cases
    clear hp1 hp2
    generalize hj3 : (joinA [] [] m s).1.length = j3 at *
    generalize hj4 : (joinA [] [] m s).2.1.length = j4 at *
    clear hj3 hj4
    have hbx := below1 w7 (.cells #[.slice o3 j3 q3, .slice o4 j4 q4] 24)
    have hnx := heap_alloc_new w7 (.cells #[.slice o3 j3 q3, .slice o4 j4 q4] 24)
    have HB9 := Lib.hid (HB8.out.trans (hbx.mono HB8.out.size))
    have Ra9 := Lib.hid ((hbx.block _ (Array.getElem?_eq_some_iff.1 Ra8.out).1).trans Ra8.out)
    have Rb9 := Lib.hid ((hbx.block _ (Array.getElem?_eq_some_iff.1 Rb8.out).1).trans Rb8.out)
    have HX_9 := Lib.hid (HX_8.out.below hbx)
    have HY_9 := Lib.hid (HY_8.out.below hbx)
    have HZ_9 := Lib.hid (HZ_8.out.below hbx)
    have HV_9 := Lib.hid (HV_8.out.below hbx)
    have HW_9 := Lib.hid (HW_8.out.below hbx)
    clear HB8 Ra8 Rb8 HX_8 HY_8 HZ_8 HV_8 HW_8
    have Rd10 := Lib.hid hnx
    clear hbx hnx
    go_upto_region 5 with fail
    clear ca7 da7 ya7 za7 cb7 db7 yb7 zb7
    generalize w7.alloc (.cells #[.slice o3 j3 q3, .slice o4 j4 q4] 24) = w7a at *
    obtain ⟨ca8, da8, ya8, za8⟩ := rowp2 Ra9.out
    obtain ⟨cb8, db8, yb8, zb8⟩ := rowp2 Rb9.out
    obtain ⟨cd8, dd8, yd8, zd8⟩ := rowp2 Rd10.out
    go_wp2_with fail
    refine (rsound_any _ _ m s w7a (by obtain ⟨_, _, e, h1, _⟩ := HX_9.out.cells; injection e with e; injection e with e; injection e with e1 e2; rw [e1]; exact h1) (by obtain ⟨_, _, e, _, h2⟩ := HX_9.out.cells; injection e with e; injection e with e; injection e with _ e2; injection e2 with e2; rw [e2]; exact h2)).mono ?_
    rintro e w8 ⟨rfl, hwx⟩
    subst hwx
    have hbx := Below.refl w7a.heap.size w7a
    have HB11 := Lib.hid (HB9.out.trans (hbx.mono HB9.out.size))
    have Ra11 := Lib.hid ((hbx.block _ (Array.getElem?_eq_some_iff.1 Ra9.out).1).trans Ra9.out)
    have Rb11 := Lib.hid ((hbx.block _ (Array.getElem?_eq_some_iff.1 Rb9.out).1).trans Rb9.out)
    have Rd11 := Lib.hid ((hbx.block _ (Array.getElem?_eq_some_iff.1 Rd10.out).1).trans Rd10.out)
    have HX_11 := Lib.hid (HX_9.out.below hbx)
    have HY_11 := Lib.hid (HY_9.out.below hbx)
    have HZ_11 := Lib.hid (HZ_9.out.below hbx)
    have HV_11 := Lib.hid (HV_9.out.below hbx)
    have HW_11 := Lib.hid (HW_9.out.below hbx)
    clear HB9 Ra9 Rb9 Rd10 HX_9 HY_9 HZ_9 HV_9 HW_9
    clear hbx
    clear ca8 da8 ya8 za8 cb8 db8 yb8 zb8 cd8 dd8 yd8 zd8
    obtain ⟨ca9, da9, ya9, za9⟩ := rowp2 Ra11.out
    obtain ⟨cb9, db9, yb9, zb9⟩ := rowp2 Rb11.out
    obtain ⟨cd9, dd9, yd9, zd9⟩ := rowp2 Rd11.out
    cases hsd : sndB m s with
    | false =>
      have hb2 := joinA_bad (m := m) (s := s) (n := []) (t := []) (by rw [hsd]; rfl)
      have hb3 := joinA_bad (m := []) (s := []) (n := m) (t := s) (by rw [hsd, Bool.and_false])
      have e1 : k1 = 2 := by rw [HK1.out, hb2]
      have e2 : k2 = 2 := by rw [HK2.out, hb3]
      subst e1 e2
      clear hb2 hb3
      go_wp2_with fail
      go_ret
      exact ⟨rfl, HB11.out⟩
    | true =>
      have hb2 := joinA_none hsd
      have hb3 := none_joinA hsd
      have e1 : k1 = 0 := by rw [HK1.out, hb2]
      have e2 : k2 = 0 := by rw [HK2.out, hb3]
      subst e1 e2
      have hz1 := HZ_11.out
      have hz2 := HW_11.out
      rw [hb2] at hz1
      rw [hb3] at hz2
      have HZ1 := Lib.hid hz1
      have HZ2 := Lib.hid hz2
      clear hb2 hb3 hz1 hz2
      go_wp2_with fail
      refine (lsame_wr _ _ m s m s _ HZ1.out HX_11.out).mono ?_
      rintro e w9 ⟨rfl, hbx⟩
      have HB12 := Lib.hid (HB11.out.trans (hbx.mono HB11.out.size))
      have Ra12 := Lib.hid ((hbx.block _ (Array.getElem?_eq_some_iff.1 Ra11.out).1).trans Ra11.out)
      have Rb12 := Lib.hid ((hbx.block _ (Array.getElem?_eq_some_iff.1 Rb11.out).1).trans Rb11.out)
      have Rd12 := Lib.hid ((hbx.block _ (Array.getElem?_eq_some_iff.1 Rd11.out).1).trans Rd11.out)
      have HX_12 := Lib.hid (HX_11.out.below hbx)
      have HZ1_12 := Lib.hid (HZ1.out.below hbx)
      have HZ2_12 := Lib.hid (HZ2.out.below hbx)
      clear HB11 Ra11 Rb11 Rd11 HX_11 HZ1 HZ2
      clear hbx
      clear ca9 da9 ya9 za9 cb9 db9 yb9 zb9 cd9 dd9 yd9 zd9
      obtain ⟨ca10, da10, ya10, za10⟩ := rowp2 Ra12.out
      obtain ⟨cb10, db10, yb10, zb10⟩ := rowp2 Rb12.out
      obtain ⟨cd10, dd10, yd10, zd10⟩ := rowp2 Rd12.out
      rw [sameZ_self, sameZ_self]
      go_wp2_with fail
      refine (lsame_wr _ _ m s m s _ HZ2_12.out HX_12.out).mono ?_
      rintro e w10 ⟨rfl, hbx⟩
      have HB13 := Lib.hid (HB12.out.trans (hbx.mono HB12.out.size))
      have Ra13 := Lib.hid ((hbx.block _ (Array.getElem?_eq_some_iff.1 Ra12.out).1).trans Ra12.out)
      have Rb13 := Lib.hid ((hbx.block _ (Array.getElem?_eq_some_iff.1 Rb12.out).1).trans Rb12.out)
      have Rd13 := Lib.hid ((hbx.block _ (Array.getElem?_eq_some_iff.1 Rd12.out).1).trans Rd12.out)
      have HX_13 := Lib.hid (HX_12.out.below hbx)
      have HZ1_13 := Lib.hid (HZ1_12.out.below hbx)
      have HZ2_13 := Lib.hid (HZ2_12.out.below hbx)
      clear HB12 Ra12 Rb12 Rd12 HX_12 HZ1_12 HZ2_12
      clear hbx
      clear ca10 da10 ya10 za10 cb10 db10 yb10 zb10 cd10 dd10 yd10 zd10
      obtain ⟨ca11, da11, ya11, za11⟩ := rowp2 Ra13.out
      obtain ⟨cb11, db11, yb11, zb11⟩ := rowp2 Rb13.out
      obtain ⟨cd11, dd11, yd11, zd11⟩ := rowp2 Rd13.out
      rw [sameZ_self, sameZ_self]
      go_wp2_with fail
      go_ret
      exact ⟨rfl, HB13.out⟩
end Go.Proofs.Ytoefkhpgabmieaa
