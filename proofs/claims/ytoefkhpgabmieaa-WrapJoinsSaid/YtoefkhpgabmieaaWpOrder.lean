/- WrapOrder -/
import Derived.Test.YtoefkhpgabmieaaWpMarks
import Derived.Test.YtoefkhpgabmieaaWpAssoc
namespace Go.Proofs.Ytoefkhpgabmieaa
open Go.RowKit

def isJ (r : List Int × List Int × Int) : Value → World → Prop := fun v W => ∃ x, v = .tuple #[x, .int .i64 r.2.2] ∧ Wr W x r.1 r.2.1
theorem isJ_stays (r : List Int × List Int × Int) : Stays (isJ r) := fun _ _ _ hb ⟨x, h1, h2⟩ => ⟨x, h1, h2.below hb⟩
/-- A box laid since. -/
def isBox (B : Nat) : Value → World → Prop := fun v W => ∃ g, v = .pointer (some ⟨g, 0, none⟩) ∧ B ≤ g ∧ W.heap[g]? = some (.cells #[.slice none 0 0, .slice none 0 0] 24 (0, 0))
theorem isBox_stays (B : Nat) : Stays (isBox B) := fun _ _ _ hb ⟨g, h1, h2, h3⟩ => ⟨g, h1, h2, (hb.block g (Array.getElem?_eq_some_iff.1 h3).1).trans h3⟩
def FillsP : Value → Value → World → World → Prop := fun p v W0 W' => ∃ g a b, p = .pointer (some ⟨g, 0, none⟩) ∧ v = .agg #[a, b] ∧ W' = (W0.setCell ⟨g, 0, none⟩ a).setCell ⟨g, 1, none⟩ b
/-- What stands behind such a region. -/
theorem fills_end {w1 W0 W' : World} {B : Nat} {p v : Value} {m s : List Int} (hC : Below B w1 W0) (hF : FillsP p v W0 W') (hb : isBox B p W0) (hw : isWr m s v W0) : ∃ g o1 n1 c1 o2 n2 c2, p = .pointer (some ⟨g, 0, none⟩) ∧ v = .agg #[.slice o1 n1 c1, .slice o2 n2 c2] ∧ W'.heap[g]? = some (.cells #[.slice o1 n1 c1, .slice o2 n2 c2] 24 (0, 0)) ∧ Wr W' (.agg #[.slice o1 n1 c1, .slice o2 n2 c2]) m s ∧ Below B w1 W' := by
  obtain ⟨g, a, b, hp, hv, rfl⟩ := hF
  obtain ⟨g', hp', hge, hg⟩ := hb
  rw [hp] at hp'
  injection hp' with hp'
  injection hp' with hp'
  injection hp' with hp'
  subst hp'
  have hw' : Wr W0 v m s := hw
  rw [hv] at hw'
  obtain ⟨_, _, e, hu, ht⟩ := hw'.cells
  injection e with e
  injection e with e
  injection e with e1 e2
  injection e2 with e2
  subst e1 e2
  obtain ⟨_, o1, c1, e1, _, _⟩ := hu.cases
  obtain ⟨_, o2, c2, e2, _, _⟩ := ht.cases
  subst e1 e2
  exact ⟨g, o1, _, c1, o2, _, c2, hp, hv, putp2 hg _ _, hw'.fill hg _ _, below_fill2 hC hge _ _⟩

theorem parts1 {W : World} {v : Value} {m s : List Int} (h : Wr W v m s) : ∃ a b, v = .agg #[a, b] := by obtain ⟨a, b, e, _⟩ := h.cells; exact ⟨a, b, e⟩
theorem newsp3' {w : World} {a b c : Obj} : (((w.alloc a).alloc b).alloc c).heap[w.heap.size]? = some a ∧ (((w.alloc a).alloc b).alloc c).heap[w.heap.size + 1]? = some b ∧ (((w.alloc a).alloc b).alloc c).heap[w.heap.size + 1 + 1]? = some c := newsp3
theorem joinA_snd0 {m s n t : List Int} (h : (joinA m s n t).2.2 = 0) : sndB m s = true ∧ sndB n t = true := by
  unfold joinA at h
  cases h1 : sndB m s <;> cases h2 : sndB n t <;> simp [h1, h2] at h ⊢

set_option maxRecDepth 100000 in
set_option maxHeartbeats 8000000 in
theorem wraporder_any (x y z : Value) (ma sa mb sb mc sc : List Int) (w : World) (hx : Wr w x ma sa) (hy : Wr w y mb sb) (hz : Wr w z mc sc) :
    Calls Try.prog 5 #[x, y, z] w fun e w' => e = .returned (.bool true) ∧ Below w.heap.size w w' := by
  obtain ⟨_, _, rfl, h1a, h2a⟩ := hx.cells
  obtain ⟨_, ao, ap, h3a, _, _⟩ := h1a.cases
  obtain ⟨_, aq, ar, h4a, _, _⟩ := h2a.cases
  generalize hla1 : ma.length = am at h3a
  generalize hla2 : sa.length = an at h4a
  subst h3a h4a
  obtain ⟨_, _, rfl, h1b, h2b⟩ := hy.cells
  obtain ⟨_, bo, bp, h3b, _, _⟩ := h1b.cases
  obtain ⟨_, bq, br, h4b, _, _⟩ := h2b.cases
  generalize hlb1 : mb.length = bm at h3b
  generalize hlb2 : sb.length = bn at h4b
  subst h3b h4b
  obtain ⟨_, _, rfl, h1c, h2c⟩ := hz.cells
  obtain ⟨_, co, cp, h3c, _, _⟩ := h1c.cases
  obtain ⟨_, cq, cr, h4c, _, _⟩ := h2c.cases
  generalize hlc1 : mc.length = cm at h3c
  generalize hlc2 : sc.length = cn at h4c
  subst h3c h4c
  have hb1 := below3 w (.cells #[.slice ao am ap, .slice aq an ar] 24) (.cells #[.slice bo bm bp, .slice bq bn br] 24) (.cells #[.slice co cm cp, .slice cq cn cr] 24)
  have hn1 := @newsp3' w (.cells #[.slice ao am ap, .slice aq an ar] 24) (.cells #[.slice bo bm bp, .slice bq bn br] 24) (.cells #[.slice co cm cp, .slice cq cn cr] 24)
  have HB0 := Lib.hid hb1
  have Ra0 := Lib.hid hn1.1
  have Rb0 := Lib.hid hn1.2.1
  have Rc0 := Lib.hid hn1.2.2
  have HX_0 := Lib.hid (hx.below hb1)
  have HY_0 := Lib.hid (hy.below hb1)
  have HZ_0 := Lib.hid (hz.below hb1)
  have HLa := Lib.hid (And.intro hla1 hla2)
  have HLb := Lib.hid (And.intro hlb1 hlb2)
  have HLc := Lib.hid (And.intro hlc1 hlc2)
  clear hb1 hn1 hx hy hz h1a h2a hla1 hla2 h1b h2b hlb1 hlb2 h1c h2c hlc1 hlc2
  go_enter Try.func5, Try.ntmps5
  go_upto_region 1 with fail
  generalize ((w.alloc (.cells #[.slice ao am ap, .slice aq an ar] 24)).alloc (.cells #[.slice bo bm bp, .slice bq bn br] 24)).alloc (.cells #[.slice co cm cp, .slice cq cn cr] 24) = w1 at *
  obtain ⟨ca0, da0, ya0, za0⟩ := rowp2 Ra0.out
  obtain ⟨cb0, db0, yb0, zb0⟩ := rowp2 Rb0.out
  obtain ⟨cc0, dc0, yc0, zc0⟩ := rowp2 Rc0.out
  go_wp2_with fail
  refine (answers9_any w1).mono ?_
  rintro e w2 ⟨rfl, hbx⟩
  have HB1 := Lib.hid (HB0.out.trans (hbx.mono HB0.out.size))
  have Ra1 := Lib.hid ((hbx.block _ (Array.getElem?_eq_some_iff.1 Ra0.out).1).trans Ra0.out)
  have Rb1 := Lib.hid ((hbx.block _ (Array.getElem?_eq_some_iff.1 Rb0.out).1).trans Rb0.out)
  have Rc1 := Lib.hid ((hbx.block _ (Array.getElem?_eq_some_iff.1 Rc0.out).1).trans Rc0.out)
  have HX_1 := Lib.hid (HX_0.out.below hbx)
  have HY_1 := Lib.hid (HY_0.out.below hbx)
  have HZ_1 := Lib.hid (HZ_0.out.below hbx)
  clear Ra0 Rb0 Rc0 HX_0 HY_0 HZ_0
  clear hbx
  clear ca0 da0 ya0 za0 cb0 db0 yb0 zb0 cc0 dc0 yc0 zc0
  obtain ⟨ca1, da1, ya1, za1⟩ := rowp2 Ra1.out
  obtain ⟨cb1, db1, yb1, zb1⟩ := rowp2 Rb1.out
  obtain ⟨cc1, dc1, yc1, zc1⟩ := rowp2 Rc1.out
  go_wp2_with fail
  refine (light_any _ _ ma sa _ HX_1.out.parts.1 HX_1.out.parts.2).mono ?_
  rintro e w3 ⟨rfl, hbx⟩
  have HB2 := Lib.hid (HB1.out.trans (hbx.mono HB1.out.size))
  have Ra2 := Lib.hid ((hbx.block _ (Array.getElem?_eq_some_iff.1 Ra1.out).1).trans Ra1.out)
  have Rb2 := Lib.hid ((hbx.block _ (Array.getElem?_eq_some_iff.1 Rb1.out).1).trans Rb1.out)
  have Rc2 := Lib.hid ((hbx.block _ (Array.getElem?_eq_some_iff.1 Rc1.out).1).trans Rc1.out)
  have HX_2 := Lib.hid (HX_1.out.below hbx)
  have HY_2 := Lib.hid (HY_1.out.below hbx)
  have HZ_2 := Lib.hid (HZ_1.out.below hbx)
  clear HB1 Ra1 Rb1 Rc1 HX_1 HY_1 HZ_1
  clear hbx
  clear ca1 da1 ya1 za1 cb1 db1 yb1 zb1 cc1 dc1 yc1 zc1
  obtain ⟨ca2, da2, ya2, za2⟩ := rowp2 Ra2.out
  obtain ⟨cb2, db2, yb2, zb2⟩ := rowp2 Rb2.out
  obtain ⟨cc2, dc2, yc2, zc2⟩ := rowp2 Rc2.out
  cases hlta : (decide (ma.length ≤ 2000) && decide (sa.length ≤ 2000)) with
  | false =>
    go_wp2_with fail
    clear ca2 da2 ya2 za2 cb2 db2 yb2 zb2 cc2 dc2 yc2 zc2
    refine (answers9_any _).mono ?_
    rintro e wz ⟨rfl, hbx⟩
    have HBz := Lib.hid (HB2.out.trans (hbx.mono HB2.out.size))
    clear hbx
    go_wp2_with fail
    go_ret
    exact ⟨rfl, HBz.out⟩
  | true =>
    have hlna : ma.length ≤ 2000 ∧ sa.length ≤ 2000 := by simpa using hlta
    have HNa := Lib.hid hlna
    clear hlta hlna
    go_wp2_with fail
    refine (light_any _ _ mb sb _ HY_2.out.parts.1 HY_2.out.parts.2).mono ?_
    rintro e w4 ⟨rfl, hbx⟩
    have HB3 := Lib.hid (HB2.out.trans (hbx.mono HB2.out.size))
    have Ra3 := Lib.hid ((hbx.block _ (Array.getElem?_eq_some_iff.1 Ra2.out).1).trans Ra2.out)
    have Rb3 := Lib.hid ((hbx.block _ (Array.getElem?_eq_some_iff.1 Rb2.out).1).trans Rb2.out)
    have Rc3 := Lib.hid ((hbx.block _ (Array.getElem?_eq_some_iff.1 Rc2.out).1).trans Rc2.out)
    have HX_3 := Lib.hid (HX_2.out.below hbx)
    have HY_3 := Lib.hid (HY_2.out.below hbx)
    have HZ_3 := Lib.hid (HZ_2.out.below hbx)
    clear HB2 Ra2 Rb2 Rc2 HX_2 HY_2 HZ_2
    clear hbx
    clear ca2 da2 ya2 za2 cb2 db2 yb2 zb2 cc2 dc2 yc2 zc2
    obtain ⟨ca3, da3, ya3, za3⟩ := rowp2 Ra3.out
    obtain ⟨cb3, db3, yb3, zb3⟩ := rowp2 Rb3.out
    obtain ⟨cc3, dc3, yc3, zc3⟩ := rowp2 Rc3.out
    cases hltb : (decide (mb.length ≤ 2000) && decide (sb.length ≤ 2000)) with
    | false =>
      go_wp2_with fail
      clear ca3 da3 ya3 za3 cb3 db3 yb3 zb3 cc3 dc3 yc3 zc3
      refine (answers9_any _).mono ?_
      rintro e wz ⟨rfl, hbx⟩
      have HBz := Lib.hid (HB3.out.trans (hbx.mono HB3.out.size))
      clear hbx
      go_wp2_with fail
      go_ret
      exact ⟨rfl, HBz.out⟩
    | true =>
      have hlnb : mb.length ≤ 2000 ∧ sb.length ≤ 2000 := by simpa using hltb
      have HNb := Lib.hid hlnb
      clear hltb hlnb
      go_wp2_with fail
      refine (light_any _ _ mc sc _ HZ_3.out.parts.1 HZ_3.out.parts.2).mono ?_
      rintro e w5 ⟨rfl, hbx⟩
      have HB4 := Lib.hid (HB3.out.trans (hbx.mono HB3.out.size))
      have Ra4 := Lib.hid ((hbx.block _ (Array.getElem?_eq_some_iff.1 Ra3.out).1).trans Ra3.out)
      have Rb4 := Lib.hid ((hbx.block _ (Array.getElem?_eq_some_iff.1 Rb3.out).1).trans Rb3.out)
      have Rc4 := Lib.hid ((hbx.block _ (Array.getElem?_eq_some_iff.1 Rc3.out).1).trans Rc3.out)
      have HX_4 := Lib.hid (HX_3.out.below hbx)
      have HY_4 := Lib.hid (HY_3.out.below hbx)
      have HZ_4 := Lib.hid (HZ_3.out.below hbx)
      clear HB3 Ra3 Rb3 Rc3 HX_3 HY_3 HZ_3
      clear hbx
      clear ca3 da3 ya3 za3 cb3 db3 yb3 zb3 cc3 dc3 yc3 zc3
      obtain ⟨ca4, da4, ya4, za4⟩ := rowp2 Ra4.out
      obtain ⟨cb4, db4, yb4, zb4⟩ := rowp2 Rb4.out
      obtain ⟨cc4, dc4, yc4, zc4⟩ := rowp2 Rc4.out
      cases hltc : (decide (mc.length ≤ 2000) && decide (sc.length ≤ 2000)) with
      | false =>
        go_wp2_with fail
        clear ca4 da4 ya4 za4 cb4 db4 yb4 zb4 cc4 dc4 yc4 zc4
        refine (answers9_any _).mono ?_
        rintro e wz ⟨rfl, hbx⟩
        have HBz := Lib.hid (HB4.out.trans (hbx.mono HB4.out.size))
        clear hbx
        go_wp2_with fail
        go_ret
        exact ⟨rfl, HBz.out⟩
      | true =>
        have hlnc : mc.length ≤ 2000 ∧ sc.length ≤ 2000 := by simpa using hltc
        have HNc := Lib.hid hlnc
        clear hltc hlnc
        go_wp2_with fail
        refine (ljoin_any _ _ ma sa mb sb _ HX_4.out HY_4.out).mono ?_
        rintro e w6 ⟨⟨uz, rfl, huz⟩, hbx⟩
        have HB5 := Lib.hid (HB4.out.trans (hbx.mono HB4.out.size))
        have Ra5 := Lib.hid ((hbx.block _ (Array.getElem?_eq_some_iff.1 Ra4.out).1).trans Ra4.out)
        have Rb5 := Lib.hid ((hbx.block _ (Array.getElem?_eq_some_iff.1 Rb4.out).1).trans Rb4.out)
        have Rc5 := Lib.hid ((hbx.block _ (Array.getElem?_eq_some_iff.1 Rc4.out).1).trans Rc4.out)
        have HX_5 := Lib.hid (HX_4.out.below hbx)
        have HY_5 := Lib.hid (HY_4.out.below hbx)
        have HZ_5 := Lib.hid (HZ_4.out.below hbx)
        clear HB4 Ra4 Rb4 Rc4 HX_4 HY_4 HZ_4
        clear hbx
        clear ca4 da4 ya4 za4 cb4 db4 yb4 zb4 cc4 dc4 yc4 zc4
        obtain ⟨ca5, da5, ya5, za5⟩ := rowp2 Ra5.out
        obtain ⟨cb5, db5, yb5, zb5⟩ := rowp2 Rb5.out
        obtain ⟨cc5, dc5, yc5, zc5⟩ := rowp2 Rc5.out
        obtain ⟨uk, huk⟩ : ∃ k, k = ((joinA ma sa mb sb).2.2 == 0) := ⟨_, rfl⟩
        rw [← huk]
        have HKu := Lib.hid huk
        clear huk
        have HU_5 := Lib.hid huz
        clear huz
        obtain ⟨_, _, rfl, hp1, hp2⟩ := HU_5.out.cells
        obtain ⟨_, uo, up, hp3, _, _⟩ := hp1.cases
        obtain ⟨_, uq, ur, hp4, _, _⟩ := hp2.cases
        generalize (joinA ma sa mb sb).1.length = um at hp3
        generalize (joinA ma sa mb sb).2.1.length = un at hp4
        subst hp3 hp4
        clear hp1 hp2
        have hbx := below1 w6 (.cells #[.slice uo um up, .slice uq un ur] 24)
        have hnx := heap_alloc_new w6 (.cells #[.slice uo um up, .slice uq un ur] 24)
        have HB6 := Lib.hid (HB5.out.trans (hbx.mono HB5.out.size))
        have Ra6 := Lib.hid ((hbx.block _ (Array.getElem?_eq_some_iff.1 Ra5.out).1).trans Ra5.out)
        have Rb6 := Lib.hid ((hbx.block _ (Array.getElem?_eq_some_iff.1 Rb5.out).1).trans Rb5.out)
        have Rc6 := Lib.hid ((hbx.block _ (Array.getElem?_eq_some_iff.1 Rc5.out).1).trans Rc5.out)
        have HX_6 := Lib.hid (HX_5.out.below hbx)
        have HY_6 := Lib.hid (HY_5.out.below hbx)
        have HZ_6 := Lib.hid (HZ_5.out.below hbx)
        have HU_6 := Lib.hid (HU_5.out.below hbx)
        clear HB5 Ra5 Rb5 Rc5 HX_5 HY_5 HZ_5 HU_5
        have Ru7 := Lib.hid hnx
        clear hbx hnx
        go_upto_region 4 with fail
        clear ca5 da5 ya5 za5 cb5 db5 yb5 zb5 cc5 dc5 yc5 zc5
        generalize w6.alloc (.cells #[.slice uo um up, .slice uq un ur] 24) = w6a at *
        obtain ⟨ca6, da6, ya6, za6⟩ := rowp2 Ra6.out
        obtain ⟨cb6, db6, yb6, zb6⟩ := rowp2 Rb6.out
        obtain ⟨cc6, dc6, yc6, zc6⟩ := rowp2 Rc6.out
        obtain ⟨cu6, du6, yu6, zu6⟩ := rowp2 Ru7.out
        go_wp2_with fail
        refine (ljoin_any _ _ mb sb mc sc _ HY_6.out HZ_6.out).mono ?_
        rintro e w7 ⟨⟨vz, rfl, hvz⟩, hbx⟩
        have HB8 := Lib.hid (HB6.out.trans (hbx.mono HB6.out.size))
        have Ra8 := Lib.hid ((hbx.block _ (Array.getElem?_eq_some_iff.1 Ra6.out).1).trans Ra6.out)
        have Rb8 := Lib.hid ((hbx.block _ (Array.getElem?_eq_some_iff.1 Rb6.out).1).trans Rb6.out)
        have Rc8 := Lib.hid ((hbx.block _ (Array.getElem?_eq_some_iff.1 Rc6.out).1).trans Rc6.out)
        have Ru8 := Lib.hid ((hbx.block _ (Array.getElem?_eq_some_iff.1 Ru7.out).1).trans Ru7.out)
        have HX_8 := Lib.hid (HX_6.out.below hbx)
        have HY_8 := Lib.hid (HY_6.out.below hbx)
        have HZ_8 := Lib.hid (HZ_6.out.below hbx)
        have HU_8 := Lib.hid (HU_6.out.below hbx)
        clear HB6 Ra6 Rb6 Rc6 Ru7 HX_6 HY_6 HZ_6 HU_6
        clear hbx
        clear ca6 da6 ya6 za6 cb6 db6 yb6 zb6 cc6 dc6 yc6 zc6 cu6 du6 yu6 zu6
        obtain ⟨ca7, da7, ya7, za7⟩ := rowp2 Ra8.out
        obtain ⟨cb7, db7, yb7, zb7⟩ := rowp2 Rb8.out
        obtain ⟨cc7, dc7, yc7, zc7⟩ := rowp2 Rc8.out
        obtain ⟨cu7, du7, yu7, zu7⟩ := rowp2 Ru8.out
        obtain ⟨vk, hvk⟩ : ∃ k, k = ((joinA mb sb mc sc).2.2 == 0) := ⟨_, rfl⟩
        rw [← hvk]
        have HKv := Lib.hid hvk
        clear hvk
        have HV_8 := Lib.hid hvz
        clear hvz
        obtain ⟨_, _, rfl, hp1, hp2⟩ := HV_8.out.cells
        obtain ⟨_, vo, vp, hp3, _, _⟩ := hp1.cases
        obtain ⟨_, vq, vr, hp4, _, _⟩ := hp2.cases
        generalize (joinA mb sb mc sc).1.length = vm at hp3
        generalize (joinA mb sb mc sc).2.1.length = vn at hp4
        subst hp3 hp4
        clear hp1 hp2
        have hbx := below1 w7 (.cells #[.slice vo vm vp, .slice vq vn vr] 24)
        have hnx := heap_alloc_new w7 (.cells #[.slice vo vm vp, .slice vq vn vr] 24)
        have HB9 := Lib.hid (HB8.out.trans (hbx.mono HB8.out.size))
        have Ra9 := Lib.hid ((hbx.block _ (Array.getElem?_eq_some_iff.1 Ra8.out).1).trans Ra8.out)
        have Rb9 := Lib.hid ((hbx.block _ (Array.getElem?_eq_some_iff.1 Rb8.out).1).trans Rb8.out)
        have Rc9 := Lib.hid ((hbx.block _ (Array.getElem?_eq_some_iff.1 Rc8.out).1).trans Rc8.out)
        have Ru9 := Lib.hid ((hbx.block _ (Array.getElem?_eq_some_iff.1 Ru8.out).1).trans Ru8.out)
        have HX_9 := Lib.hid (HX_8.out.below hbx)
        have HY_9 := Lib.hid (HY_8.out.below hbx)
        have HZ_9 := Lib.hid (HZ_8.out.below hbx)
        have HU_9 := Lib.hid (HU_8.out.below hbx)
        have HV_9 := Lib.hid (HV_8.out.below hbx)
        clear HB8 Ra8 Rb8 Rc8 Ru8 HX_8 HY_8 HZ_8 HU_8 HV_8
        have Rv10 := Lib.hid hnx
        clear hbx hnx
        go_upto_region 5 with fail
        clear ca7 da7 ya7 za7 cb7 db7 yb7 zb7 cc7 dc7 yc7 zc7 cu7 du7 yu7 zu7
        generalize w7.alloc (.cells #[.slice vo vm vp, .slice vq vn vr] 24) = w7a at *
        obtain ⟨ca8, da8, ya8, za8⟩ := rowp2 Ra9.out
        obtain ⟨cb8, db8, yb8, zb8⟩ := rowp2 Rb9.out
        obtain ⟨cc8, dc8, yc8, zc8⟩ := rowp2 Rc9.out
        obtain ⟨cu8, du8, yu8, zu8⟩ := rowp2 Ru9.out
        obtain ⟨cv8, dv8, yv8, zv8⟩ := rowp2 Rv10.out
        cases uk with
        | false =>
          go_wp2_with fail
          go_ret
          exact ⟨rfl, HB9.out⟩
        | true =>
          cases vk with
          | false =>
            go_wp2_with fail
            go_ret
            exact ⟨rfl, HB9.out⟩
          | true =>
            by_cases hm2 : bm < 2
            · have hm2i : ((bm : Nat) : Int) < 2 := by omega
              go_wp2_with fail
              go_ret
              exact ⟨rfl, HB9.out⟩
            have hm2i : ¬ ((bm : Nat) : Int) < 2 := by omega
            go_wp2_with fail
            refine (ljoin_any _ _ (joinA ma sa mb sb).1 (joinA ma sa mb sb).2.1 mc sc _ HU_9.out HZ_9.out).mono ?_
            rintro e w8 ⟨⟨pz, rfl, hpz⟩, hbx⟩
            have HB11 := Lib.hid (HB9.out.trans (hbx.mono HB9.out.size))
            have Ra11 := Lib.hid ((hbx.block _ (Array.getElem?_eq_some_iff.1 Ra9.out).1).trans Ra9.out)
            have Rb11 := Lib.hid ((hbx.block _ (Array.getElem?_eq_some_iff.1 Rb9.out).1).trans Rb9.out)
            have Rc11 := Lib.hid ((hbx.block _ (Array.getElem?_eq_some_iff.1 Rc9.out).1).trans Rc9.out)
            have Ru11 := Lib.hid ((hbx.block _ (Array.getElem?_eq_some_iff.1 Ru9.out).1).trans Ru9.out)
            have Rv11 := Lib.hid ((hbx.block _ (Array.getElem?_eq_some_iff.1 Rv10.out).1).trans Rv10.out)
            have HX_11 := Lib.hid (HX_9.out.below hbx)
            have HY_11 := Lib.hid (HY_9.out.below hbx)
            have HZ_11 := Lib.hid (HZ_9.out.below hbx)
            have HU_11 := Lib.hid (HU_9.out.below hbx)
            have HV_11 := Lib.hid (HV_9.out.below hbx)
            clear HB9 Ra9 Rb9 Rc9 Ru9 Rv10 HX_9 HY_9 HZ_9 HU_9 HV_9
            clear hbx
            clear ca8 da8 ya8 za8 cb8 db8 yb8 zb8 cc8 dc8 yc8 zc8 cu8 du8 yu8 zu8 cv8 dv8 yv8 zv8
            obtain ⟨ca9, da9, ya9, za9⟩ := rowp2 Ra11.out
            obtain ⟨cb9, db9, yb9, zb9⟩ := rowp2 Rb11.out
            obtain ⟨cc9, dc9, yc9, zc9⟩ := rowp2 Rc11.out
            obtain ⟨cu9, du9, yu9, zu9⟩ := rowp2 Ru11.out
            obtain ⟨cv9, dv9, yv9, zv9⟩ := rowp2 Rv11.out
            obtain ⟨pk, hpk⟩ : ∃ k, k = ((joinA (joinA ma sa mb sb).1 (joinA ma sa mb sb).2.1 mc sc).2.2 == 0) := ⟨_, rfl⟩
            rw [← hpk]
            have HKp := Lib.hid hpk
            clear hpk
            have HP_11 := Lib.hid hpz
            clear hpz
            obtain ⟨_, _, rfl, hp1, hp2⟩ := HP_11.out.cells
            obtain ⟨_, po, pp, hp3, _, _⟩ := hp1.cases
            obtain ⟨_, pq, pr, hp4, _, _⟩ := hp2.cases
            generalize (joinA (joinA ma sa mb sb).1 (joinA ma sa mb sb).2.1 mc sc).1.length = pm at hp3
            generalize (joinA (joinA ma sa mb sb).1 (joinA ma sa mb sb).2.1 mc sc).2.1.length = pn at hp4
            subst hp3 hp4
            clear hp1 hp2
            have hbx := below1 w8 (.cells #[.slice po pm pp, .slice pq pn pr] 24)
            have hnx := heap_alloc_new w8 (.cells #[.slice po pm pp, .slice pq pn pr] 24)
            have HB12 := Lib.hid (HB11.out.trans (hbx.mono HB11.out.size))
            have Ra12 := Lib.hid ((hbx.block _ (Array.getElem?_eq_some_iff.1 Ra11.out).1).trans Ra11.out)
            have Rb12 := Lib.hid ((hbx.block _ (Array.getElem?_eq_some_iff.1 Rb11.out).1).trans Rb11.out)
            have Rc12 := Lib.hid ((hbx.block _ (Array.getElem?_eq_some_iff.1 Rc11.out).1).trans Rc11.out)
            have Ru12 := Lib.hid ((hbx.block _ (Array.getElem?_eq_some_iff.1 Ru11.out).1).trans Ru11.out)
            have Rv12 := Lib.hid ((hbx.block _ (Array.getElem?_eq_some_iff.1 Rv11.out).1).trans Rv11.out)
            have HX_12 := Lib.hid (HX_11.out.below hbx)
            have HY_12 := Lib.hid (HY_11.out.below hbx)
            have HZ_12 := Lib.hid (HZ_11.out.below hbx)
            have HU_12 := Lib.hid (HU_11.out.below hbx)
            have HV_12 := Lib.hid (HV_11.out.below hbx)
            have HP_12 := Lib.hid (HP_11.out.below hbx)
            clear HB11 Ra11 Rb11 Rc11 Ru11 Rv11 HX_11 HY_11 HZ_11 HU_11 HV_11 HP_11
            have Rp13 := Lib.hid hnx
            clear hbx hnx
            go_upto_region 8 with fail
            clear ca9 da9 ya9 za9 cb9 db9 yb9 zb9 cc9 dc9 yc9 zc9 cu9 du9 yu9 zu9 cv9 dv9 yv9 zv9
            generalize w8.alloc (.cells #[.slice po pm pp, .slice pq pn pr] 24) = w8a at *
            obtain ⟨ca10, da10, ya10, za10⟩ := rowp2 Ra12.out
            obtain ⟨cb10, db10, yb10, zb10⟩ := rowp2 Rb12.out
            obtain ⟨cc10, dc10, yc10, zc10⟩ := rowp2 Rc12.out
            obtain ⟨cu10, du10, yu10, zu10⟩ := rowp2 Ru12.out
            obtain ⟨cv10, dv10, yv10, zv10⟩ := rowp2 Rv12.out
            obtain ⟨cp10, dp10, yp10, zp10⟩ := rowp2 Rp13.out
            go_wp2_with fail
            refine (ljoin_any _ _ ma sa (joinA mb sb mc sc).1 (joinA mb sb mc sc).2.1 _ HX_12.out HV_12.out).mono ?_
            rintro e w9 ⟨⟨qz, rfl, hqz⟩, hbx⟩
            have HB14 := Lib.hid (HB12.out.trans (hbx.mono HB12.out.size))
            have Ra14 := Lib.hid ((hbx.block _ (Array.getElem?_eq_some_iff.1 Ra12.out).1).trans Ra12.out)
            have Rb14 := Lib.hid ((hbx.block _ (Array.getElem?_eq_some_iff.1 Rb12.out).1).trans Rb12.out)
            have Rc14 := Lib.hid ((hbx.block _ (Array.getElem?_eq_some_iff.1 Rc12.out).1).trans Rc12.out)
            have Ru14 := Lib.hid ((hbx.block _ (Array.getElem?_eq_some_iff.1 Ru12.out).1).trans Ru12.out)
            have Rv14 := Lib.hid ((hbx.block _ (Array.getElem?_eq_some_iff.1 Rv12.out).1).trans Rv12.out)
            have Rp14 := Lib.hid ((hbx.block _ (Array.getElem?_eq_some_iff.1 Rp13.out).1).trans Rp13.out)
            have HX_14 := Lib.hid (HX_12.out.below hbx)
            have HY_14 := Lib.hid (HY_12.out.below hbx)
            have HZ_14 := Lib.hid (HZ_12.out.below hbx)
            have HU_14 := Lib.hid (HU_12.out.below hbx)
            have HV_14 := Lib.hid (HV_12.out.below hbx)
            have HP_14 := Lib.hid (HP_12.out.below hbx)
            clear HB12 Ra12 Rb12 Rc12 Ru12 Rv12 Rp13 HX_12 HY_12 HZ_12 HU_12 HV_12 HP_12
            clear hbx
            clear ca10 da10 ya10 za10 cb10 db10 yb10 zb10 cc10 dc10 yc10 zc10 cu10 du10 yu10 zu10 cv10 dv10 yv10 zv10 cp10 dp10 yp10 zp10
            obtain ⟨ca11, da11, ya11, za11⟩ := rowp2 Ra14.out
            obtain ⟨cb11, db11, yb11, zb11⟩ := rowp2 Rb14.out
            obtain ⟨cc11, dc11, yc11, zc11⟩ := rowp2 Rc14.out
            obtain ⟨cu11, du11, yu11, zu11⟩ := rowp2 Ru14.out
            obtain ⟨cv11, dv11, yv11, zv11⟩ := rowp2 Rv14.out
            obtain ⟨cp11, dp11, yp11, zp11⟩ := rowp2 Rp14.out
            obtain ⟨qk, hqk⟩ : ∃ k, k = ((joinA ma sa (joinA mb sb mc sc).1 (joinA mb sb mc sc).2.1).2.2 == 0) := ⟨_, rfl⟩
            rw [← hqk]
            have HKq := Lib.hid hqk
            clear hqk
            have HQ_14 := Lib.hid hqz
            clear hqz
            obtain ⟨_, _, rfl, hp1, hp2⟩ := HQ_14.out.cells
            obtain ⟨_, qo, qp, hp3, _, _⟩ := hp1.cases
            obtain ⟨_, qq, qr, hp4, _, _⟩ := hp2.cases
            generalize (joinA ma sa (joinA mb sb mc sc).1 (joinA mb sb mc sc).2.1).1.length = qm at hp3
            generalize (joinA ma sa (joinA mb sb mc sc).1 (joinA mb sb mc sc).2.1).2.1.length = qn at hp4
            subst hp3 hp4
            clear hp1 hp2
            have hbx := below1 w9 (.cells #[.slice qo qm qp, .slice qq qn qr] 24)
            have hnx := heap_alloc_new w9 (.cells #[.slice qo qm qp, .slice qq qn qr] 24)
            have HB15 := Lib.hid (HB14.out.trans (hbx.mono HB14.out.size))
            have Ra15 := Lib.hid ((hbx.block _ (Array.getElem?_eq_some_iff.1 Ra14.out).1).trans Ra14.out)
            have Rb15 := Lib.hid ((hbx.block _ (Array.getElem?_eq_some_iff.1 Rb14.out).1).trans Rb14.out)
            have Rc15 := Lib.hid ((hbx.block _ (Array.getElem?_eq_some_iff.1 Rc14.out).1).trans Rc14.out)
            have Ru15 := Lib.hid ((hbx.block _ (Array.getElem?_eq_some_iff.1 Ru14.out).1).trans Ru14.out)
            have Rv15 := Lib.hid ((hbx.block _ (Array.getElem?_eq_some_iff.1 Rv14.out).1).trans Rv14.out)
            have Rp15 := Lib.hid ((hbx.block _ (Array.getElem?_eq_some_iff.1 Rp14.out).1).trans Rp14.out)
            have HX_15 := Lib.hid (HX_14.out.below hbx)
            have HY_15 := Lib.hid (HY_14.out.below hbx)
            have HZ_15 := Lib.hid (HZ_14.out.below hbx)
            have HU_15 := Lib.hid (HU_14.out.below hbx)
            have HV_15 := Lib.hid (HV_14.out.below hbx)
            have HP_15 := Lib.hid (HP_14.out.below hbx)
            have HQ_15 := Lib.hid (HQ_14.out.below hbx)
            clear HB14 Ra14 Rb14 Rc14 Ru14 Rv14 Rp14 HX_14 HY_14 HZ_14 HU_14 HV_14 HP_14 HQ_14
            have Rq16 := Lib.hid hnx
            clear hbx hnx
            go_upto_region 9 with fail
            clear ca11 da11 ya11 za11 cb11 db11 yb11 zb11 cc11 dc11 yc11 zc11 cu11 du11 yu11 zu11 cv11 dv11 yv11 zv11 cp11 dp11 yp11 zp11
            generalize w9.alloc (.cells #[.slice qo qm qp, .slice qq qn qr] 24) = w9a at *
            obtain ⟨ca12, da12, ya12, za12⟩ := rowp2 Ra15.out
            obtain ⟨cb12, db12, yb12, zb12⟩ := rowp2 Rb15.out
            obtain ⟨cc12, dc12, yc12, zc12⟩ := rowp2 Rc15.out
            obtain ⟨cu12, du12, yu12, zu12⟩ := rowp2 Ru15.out
            obtain ⟨cv12, dv12, yv12, zv12⟩ := rowp2 Rv15.out
            obtain ⟨cp12, dp12, yp12, zp12⟩ := rowp2 Rp15.out
            obtain ⟨cq12, dq12, yq12, zq12⟩ := rowp2 Rq16.out
            cases pk with
            | false =>
              go_wp2_with fail
              go_ret
              exact ⟨rfl, HB15.out⟩
            | true =>
              cases qk with
              | false =>
                go_wp2_with fail
                go_ret
                exact ⟨rfl, HB15.out⟩
              | true =>
                have HEu : Hid ((joinA ma sa mb sb).2.2 = 0) := Lib.hid (by simpa using HKu.out.symm)
                have HEv : Hid ((joinA mb sb mc sc).2.2 = 0) := Lib.hid (by simpa using HKv.out.symm)
                have HEp : Hid ((joinA (joinA ma sa mb sb).1 (joinA ma sa mb sb).2.1 mc sc).2.2 = 0) := Lib.hid (by simpa using HKp.out.symm)
                have HEq : Hid ((joinA ma sa (joinA mb sb mc sc).1 (joinA mb sb mc sc).2.1).2.2 = 0) := Lib.hid (by simpa using HKq.out.symm)
                go_upto_region 11 with fail
                clear ca12 da12 ya12 za12 cb12 db12 yb12 zb12 cc12 dc12 yc12 zc12 cu12 du12 yu12 zu12 cv12 dv12 yv12 zv12 cp12 dp12 yp12 zp12 cq12 dq12 yq12 zq12
                refine wp_region_late 9 8 6 15 89 (psi [isV (.agg #[.slice ao am ap, .slice aq an ar]), isWr (ma) (sa), isV (.agg #[.slice bo bm bp, .slice bq bn br]), isWr (mb) (sb), isJ (joinA (ma) (sa) (mb) (sb)), isJ (joinA (ma) (sa) (mb) (sb)), isWr (joinA (ma) (sa) (mb) (sb)).1 (joinA (ma) (sa) (mb) (sb)).2.1, isV (.int .i64 (joinA (ma) (sa) (mb) (sb)).2.2), isBox w9a.heap.size, nothing, isV (.int .i64 (joinA (ma) (sa) (mb) (sb)).2.2)]) (fun W => Below w9a.heap.size w9a W) (FillsP) (by kernel_rfl) (Below.refl _ _).drew (psi_mono ?_) (by kernel_rfl) (by kernel_rfl) (by kernel_rfl) ?_ ?_
                · intro p hp
                  simp only [List.mem_cons, List.not_mem_nil, or_false] at hp
                  (repeat' rcases hp with rfl | hp) <;> first | exact isV_stays _ | exact nothing_stays | (subst hp; first | exact isV_stays _ | exact nothing_stays) | exact isBox_stays _ | exact isJ_stays _ | exact isWr_stays _ _ | (subst hp; exact isBox_stays _) | (subst hp; exact isJ_stays _) | (subst hp; exact isWr_stays _ _)
                · refine AllOps.cons ?_ ?_
                  · refine OpL.early (by kernel_rfl) (by kernel_rfl) fun ab W hC hB hdep => ?_
                    refine .inl ⟨rfl, ?_⟩
                    have b0 : ab.tmps.getD 3 undef = .pointer (some ⟨w.heap.size, 0, none⟩) := hB.off 3 (by kernel_rfl)
                    obtain ⟨c0, c1, _, _⟩ := rowp2 ((hC.block _ (Array.getElem?_eq_some_iff.1 Ra15.out).1).trans Ra15.out)
                    clear hB hdep
                    refine goes_value (v := .agg #[.slice ao am ap, .slice aq an ar]) ?_ hC rfl
                    simp only [execOp, Act.eval, b0]
                    go_simp
                  refine AllOps.cons ?_ ?_
                  · refine OpL.early (by kernel_rfl) (by kernel_rfl) fun ab W hC hB hdep => ?_
                    refine .inl ⟨rfl, ?_⟩
                    obtain ⟨x0, (q0 : (isV (.agg #[.slice ao am ap, .slice aq an ar])) x0 W), e0⟩ := hdep 0 84 (by kernel_rfl)
                    obtain rfl : x0 = .agg #[.slice ao am ap, .slice aq an ar] := q0
                    clear hB hdep
                    refine goes_call (f := 12) (args := #[.agg #[.slice ao am ap, .slice aq an ar]]) ?_ ?_
                    · simp only [execOp]
                      go_simp
                    · exact (lown_any _ (ma) (sa) W (HX_15.out.below hC) (by have := HNa.out; omega) (by have := HNa.out; omega)).mono fun e w7 ⟨⟨v7, he, hi⟩, hb⟩ => ⟨v7, he, hC.trans (hb.mono hC.size), hb, hi⟩
                  refine AllOps.cons ?_ ?_
                  · refine OpL.early (by kernel_rfl) (by kernel_rfl) fun ab W hC hB hdep => ?_
                    refine .inl ⟨rfl, ?_⟩
                    have b0 : ab.tmps.getD 4 undef = .pointer (some ⟨w.heap.size + 1, 0, none⟩) := hB.off 4 (by kernel_rfl)
                    obtain ⟨c0, c1, _, _⟩ := rowp2 ((hC.block _ (Array.getElem?_eq_some_iff.1 Rb15.out).1).trans Rb15.out)
                    clear hB hdep
                    refine goes_value (v := .agg #[.slice bo bm bp, .slice bq bn br]) ?_ hC rfl
                    simp only [execOp, Act.eval, b0]
                    go_simp
                  refine AllOps.cons ?_ ?_
                  · refine OpL.early (by kernel_rfl) (by kernel_rfl) fun ab W hC hB hdep => ?_
                    refine .inl ⟨rfl, ?_⟩
                    obtain ⟨x0, (q0 : (isV (.agg #[.slice bo bm bp, .slice bq bn br])) x0 W), e0⟩ := hdep 2 86 (by kernel_rfl)
                    obtain rfl : x0 = .agg #[.slice bo bm bp, .slice bq bn br] := q0
                    clear hB hdep
                    refine goes_call (f := 12) (args := #[.agg #[.slice bo bm bp, .slice bq bn br]]) ?_ ?_
                    · simp only [execOp]
                      go_simp
                    · exact (lown_any _ (mb) (sb) W (HY_15.out.below hC) (by have := HNb.out; omega) (by have := HNb.out; omega)).mono fun e w7 ⟨⟨v7, he, hi⟩, hb⟩ => ⟨v7, he, hC.trans (hb.mono hC.size), hb, hi⟩
                  refine AllOps.cons ?_ ?_
                  · refine OpL.early (by kernel_rfl) (by kernel_rfl) fun ab W hC hB hdep => ?_
                    refine .inl ⟨rfl, ?_⟩
                    obtain ⟨x0, (q0 : (isWr (ma) (sa)) x0 W), e0⟩ := hdep 1 85 (by kernel_rfl)
                    skip
                    obtain ⟨x1, (q1 : (isWr (mb) (sb)) x1 W), e1⟩ := hdep 3 87 (by kernel_rfl)
                    skip
                    clear hB hdep
                    refine goes_call (f := 11) (args := #[x0, x1]) ?_ ?_
                    · simp only [execOp]
                      go_simp
                    · exact (wjoin_any x0 x1 (ma) (sa) (mb) (sb) W (q0) (q1)).mono fun e w7 ⟨⟨v7, he, hi⟩, hb⟩ => ⟨_, he, hC.trans (hb.mono hC.size), hb, ⟨v7, rfl, hi⟩⟩
                  refine AllOps.cons ?_ ?_
                  · refine OpL.early (by kernel_rfl) (by kernel_rfl) fun ab W hC hB hdep => ?_
                    refine .inl ⟨rfl, ?_⟩
                    obtain ⟨x0, (q0 : (isJ (joinA (ma) (sa) (mb) (sb))) x0 W), e0⟩ := hdep 4 88 (by kernel_rfl)
                    obtain ⟨jx0, rfl, hj0⟩ := q0
                    clear hB hdep
                    refine goes_value (v := .tuple #[jx0, .int .i64 (joinA (ma) (sa) (mb) (sb)).2.2]) ?_ hC ⟨jx0, rfl, hj0⟩
                    simp only [execOp, Act.eval, e0]
                    go_simp
                  refine AllOps.cons ?_ ?_
                  · refine OpL.early (by kernel_rfl) (by kernel_rfl) fun ab W hC hB hdep => ?_
                    refine .inl ⟨rfl, ?_⟩
                    obtain ⟨x0, (q0 : (isJ (joinA (ma) (sa) (mb) (sb))) x0 W), e0⟩ := hdep 5 83 (by kernel_rfl)
                    obtain ⟨jx0, rfl, hj0⟩ := q0
                    clear hB hdep
                    refine goes_value (v := jx0) ?_ hC hj0
                    simp only [execOp, Act.eval, e0]
                    go_simp
                  refine AllOps.cons ?_ ?_
                  · refine OpL.pure (by kernel_rfl) (by kernel_rfl) fun ab W W1 hC hB hdep => .inl ⟨rfl, ?_⟩
                    obtain ⟨x0, (q0 : (isJ (joinA (ma) (sa) (mb) (sb))) x0 W), e0⟩ := hdep 5 83 (by kernel_rfl)
                    obtain ⟨jx0, rfl, hj0⟩ := q0
                    clear hB hdep
                    refine ⟨.int .i64 (joinA (ma) (sa) (mb) (sb)).2.2, ?_, rfl⟩
                    simp only [execOp, Act.eval, e0]
                    go_simp
                  refine AllOps.cons ?_ ?_
                  · refine OpL.early (by kernel_rfl) (by kernel_rfl) fun ab W hC hB hdep => ?_
                    refine .inl ⟨rfl, ?_⟩
                    clear hB hdep
                    refine goes_world (v := .pointer (some ⟨W.heap.size, 0, none⟩)) (w1 := W.alloc (.cells #[.slice none 0 0, .slice none 0 0] 24)) ?_ (hC.trans ((below1 W _).mono hC.size)) (below1 W _) ⟨_, rfl, hC.size, heap_alloc_new W _⟩
                    simp only [execOp]
                    go_simp
                  refine AllOps.cons ?_ ?_
                  · refine OpL.write (by kernel_rfl) fun vals ab W hC hB hdep => ⟨rfl, ?_⟩
                    obtain ⟨(q0 : (isBox w9a.heap.size) (vals 8) W), e0⟩ := hdep 8 15 (by kernel_rfl)
                    generalize vals 8 = x0 at *
                    obtain ⟨g0, rfl, hge0, hg0⟩ := q0
                    obtain ⟨(q1 : (isWr (joinA (ma) (sa) (mb) (sb)).1 (joinA (ma) (sa) (mb) (sb)).2.1) (vals 6) W), e1⟩ := hdep 6 89 (by kernel_rfl)
                    generalize vals 6 = x1 at *
                    obtain ⟨u1, v1, rfl, hu1, hv1⟩ := Wr.cells q1
                    obtain ⟨_, uo1, uc1, rfl, _, _⟩ := hu1.cases
                    obtain ⟨_, vo1, vc1, rfl, _, _⟩ := hv1.cases
                    clear hB hdep
                    obtain ⟨_, _, z1, z2⟩ := rowp2 hg0
                    refine writes_skip (w1 := (W.setCell ⟨g0, 0, none⟩ _).setCell ⟨g0, 1, none⟩ _) ?_ ⟨_, _, _, rfl, rfl, rfl⟩
                    simp only [execOp, Act.eval, e0, e1]
                    go_simp
                  refine AllOps.cons ?_ ?_
                  · refine OpL.pure (by kernel_rfl) (by kernel_rfl) fun ab W W1 hC hB hdep => .inl ⟨rfl, ?_⟩
                    obtain ⟨x0, (q0 : (isV (.int .i64 (joinA (ma) (sa) (mb) (sb)).2.2)) x0 W), e0⟩ := hdep 7 90 (by kernel_rfl)
                    obtain rfl : x0 = .int .i64 (joinA (ma) (sa) (mb) (sb)).2.2 := q0
                    clear hB hdep
                    refine ⟨.int .i64 (joinA (ma) (sa) (mb) (sb)).2.2, ?_, rfl⟩
                    simp only [execOp, Act.eval, e0]
                    go_simp
                  exact trivial
                · intro vals aa W0 wA hC hFin hB hall
                  obtain ⟨(k0 : (isV (.agg #[.slice ao am ap, .slice aq an ar])) (vals 0) W0), e0⟩ := hall 0 _ rfl (by decide)
                  obtain ⟨(k1 : (isWr (ma) (sa)) (vals 1) W0), e1⟩ := hall 1 _ rfl (by decide)
                  obtain ⟨(k2 : (isV (.agg #[.slice bo bm bp, .slice bq bn br])) (vals 2) W0), e2⟩ := hall 2 _ rfl (by decide)
                  obtain ⟨(k3 : (isWr (mb) (sb)) (vals 3) W0), e3⟩ := hall 3 _ rfl (by decide)
                  obtain ⟨(k4 : (isJ (joinA (ma) (sa) (mb) (sb))) (vals 4) W0), e4⟩ := hall 4 _ rfl (by decide)
                  obtain ⟨(k5 : (isJ (joinA (ma) (sa) (mb) (sb))) (vals 5) W0), e5⟩ := hall 5 _ rfl (by decide)
                  obtain ⟨(k6 : (isWr (joinA (ma) (sa) (mb) (sb)).1 (joinA (ma) (sa) (mb) (sb)).2.1) (vals 6) W0), e6⟩ := hall 6 _ rfl (by decide)
                  obtain ⟨(k7 : (isV (.int .i64 (joinA (ma) (sa) (mb) (sb)).2.2)) (vals 7) W0), e7⟩ := hall 7 _ rfl (by decide)
                  obtain ⟨(k8 : (isBox w9a.heap.size) (vals 8) W0), e8⟩ := hall 8 _ rfl (by decide)
                  obtain ⟨(k10 : (isV (.int .i64 (joinA (ma) (sa) (mb) (sb)).2.2)) (vals 10) W0), e10⟩ := hall 10 _ rfl (by decide)
                  have hv : ∀ p ∈ [((84 : Nat), (.agg #[.slice ao am ap, .slice aq an ar] : Value)), ((85 : Nat), (vals 1 : Value)), ((86 : Nat), (.agg #[.slice bo bm bp, .slice bq bn br] : Value)), ((87 : Nat), (vals 3 : Value)), ((88 : Nat), (vals 4 : Value)), ((83 : Nat), (vals 5 : Value)), ((89 : Nat), (vals 6 : Value)), ((90 : Nat), (.int .i64 (joinA (ma) (sa) (mb) (sb)).2.2 : Value)), ((15 : Nat), (vals 8 : Value)), ((16 : Nat), (.int .i64 (joinA (ma) (sa) (mb) (sb)).2.2 : Value))], aa.tmps.getD p.1 undef = p.2 := by
                    intro p hp
                    simp only [List.mem_cons, List.not_mem_nil, or_false] at hp
                    rcases hp with rfl | rfl | rfl | rfl | rfl | rfl | rfl | rfl | rfl | rfl
                    · exact (e0 _ rfl).trans k0
                    · exact e1 _ rfl
                    · exact (e2 _ rfl).trans k2
                    · exact e3 _ rfl
                    · exact e4 _ rfl
                    · exact e5 _ rfl
                    · exact e6 _ rfl
                    · exact (e7 _ rfl).trans k7
                    · exact e8 _ rfl
                    · exact (e10 _ rfl).trans k10
                  have hact := act_fold _ hB hv (by kernel_rfl)
                  subst hact
                  obtain ⟨d_g, d_o1, d_n1, d_c1, d_o2, d_n2, d_c2, hpg, hpv, hrow, hwr, hbx⟩ := fills_end hC hFin k8 k6
                  generalize vals 1 = d_v1 at *
                  generalize vals 3 = d_v3 at *
                  generalize vals 4 = d_v4 at *
                  generalize vals 5 = d_v5 at *
                  rw [hpg, hpv]
                  clear hv hall hB hC hFin k0 e0 k1 e1 k2 e2 k3 e3 k4 e4 k5 e5 k6 e6 k7 e7 k8 e8 k10 e10 hpg hpv
                  refine (‹∀ (a : Act) (w : World), Code.wp Try.prog _ _ a w → _›) _ wA ?_
                  simp only [List.foldl, List.setIfInBounds_toArray, List.set_cons_succ, List.set_cons_zero]
                  rw [HEu.out]
                  have HB17 := Lib.hid (HB15.out.trans (hbx.mono HB15.out.size))
                  have Ra17 := Lib.hid ((hbx.block _ (Array.getElem?_eq_some_iff.1 Ra15.out).1).trans Ra15.out)
                  have Rb17 := Lib.hid ((hbx.block _ (Array.getElem?_eq_some_iff.1 Rb15.out).1).trans Rb15.out)
                  have Rc17 := Lib.hid ((hbx.block _ (Array.getElem?_eq_some_iff.1 Rc15.out).1).trans Rc15.out)
                  have Ru17 := Lib.hid ((hbx.block _ (Array.getElem?_eq_some_iff.1 Ru15.out).1).trans Ru15.out)
                  have Rv17 := Lib.hid ((hbx.block _ (Array.getElem?_eq_some_iff.1 Rv15.out).1).trans Rv15.out)
                  have Rp17 := Lib.hid ((hbx.block _ (Array.getElem?_eq_some_iff.1 Rp15.out).1).trans Rp15.out)
                  have Rq17 := Lib.hid ((hbx.block _ (Array.getElem?_eq_some_iff.1 Rq16.out).1).trans Rq16.out)
                  have HX_17 := Lib.hid (HX_15.out.below hbx)
                  have HY_17 := Lib.hid (HY_15.out.below hbx)
                  have HZ_17 := Lib.hid (HZ_15.out.below hbx)
                  have HU_17 := Lib.hid (HU_15.out.below hbx)
                  have HV_17 := Lib.hid (HV_15.out.below hbx)
                  have HP_17 := Lib.hid (HP_15.out.below hbx)
                  have HQ_17 := Lib.hid (HQ_15.out.below hbx)
                  clear HB15 Ra15 Rb15 Rc15 Ru15 Rv15 Rp15 Rq16 HX_15 HY_15 HZ_15 HU_15 HV_15 HP_15 HQ_15
                  have Rd17 := Lib.hid hrow
                  have HD_17 := Lib.hid hwr
                  clear hbx hrow hwr
                  obtain ⟨ca13, da13, ya13, za13⟩ := rowp2 Ra17.out
                  obtain ⟨cb13, db13, yb13, zb13⟩ := rowp2 Rb17.out
                  obtain ⟨cc13, dc13, yc13, zc13⟩ := rowp2 Rc17.out
                  obtain ⟨cu13, du13, yu13, zu13⟩ := rowp2 Ru17.out
                  obtain ⟨cv13, dv13, yv13, zv13⟩ := rowp2 Rv17.out
                  obtain ⟨cp13, dp13, yp13, zp13⟩ := rowp2 Rp17.out
                  obtain ⟨cq13, dq13, yq13, zq13⟩ := rowp2 Rq17.out
                  obtain ⟨cd13, dd13, yd13, zd13⟩ := rowp2 Rd17.out
                  go_upto_region 12 with fail
                  clear ca13 da13 ya13 za13 cb13 db13 yb13 zb13 cc13 dc13 yc13 zc13 cu13 du13 yu13 zu13 cv13 dv13 yv13 zv13 cp13 dp13 yp13 zp13 cq13 dq13 yq13 zq13 cd13 dd13 yd13 zd13
                  refine wp_region_late 8 7 5 17 96 (psi [isV (.agg #[.slice d_o1 d_n1 d_c1, .slice d_o2 d_n2 d_c2]), isV (.agg #[.slice co cm cp, .slice cq cn cr]), isWr (mc) (sc), isJ (joinA ((joinA ma sa mb sb).1) ((joinA ma sa mb sb).2.1) (mc) (sc)), isJ (joinA ((joinA ma sa mb sb).1) ((joinA ma sa mb sb).2.1) (mc) (sc)), isWr (joinA ((joinA ma sa mb sb).1) ((joinA ma sa mb sb).2.1) (mc) (sc)).1 (joinA ((joinA ma sa mb sb).1) ((joinA ma sa mb sb).2.1) (mc) (sc)).2.1, isV (.int .i64 (joinA ((joinA ma sa mb sb).1) ((joinA ma sa mb sb).2.1) (mc) (sc)).2.2), isBox wA.heap.size, nothing, isV (.int .i64 (joinA ((joinA ma sa mb sb).1) ((joinA ma sa mb sb).2.1) (mc) (sc)).2.2)]) (fun W => Below wA.heap.size wA W) (FillsP) (by kernel_rfl) (Below.refl _ _).drew (psi_mono ?_) (by kernel_rfl) (by kernel_rfl) (by kernel_rfl) ?_ ?_
                  · intro p hp
                    simp only [List.mem_cons, List.not_mem_nil, or_false] at hp
                    (repeat' rcases hp with rfl | hp) <;> first | exact isV_stays _ | exact nothing_stays | (subst hp; first | exact isV_stays _ | exact nothing_stays) | exact isBox_stays _ | exact isJ_stays _ | exact isWr_stays _ _ | (subst hp; exact isBox_stays _) | (subst hp; exact isJ_stays _) | (subst hp; exact isWr_stays _ _)
                  · refine AllOps.cons ?_ ?_
                    · refine OpL.early (by kernel_rfl) (by kernel_rfl) fun ab W hC hB hdep => ?_
                      refine .inl ⟨rfl, ?_⟩
                      have b0 : ab.tmps.getD 15 undef = .pointer (some ⟨d_g, 0, none⟩) := hB.off 15 (by kernel_rfl)
                      obtain ⟨c0, c1, _, _⟩ := rowp2 ((hC.block _ (Array.getElem?_eq_some_iff.1 Rd17.out).1).trans Rd17.out)
                      clear hB hdep
                      refine goes_value (v := .agg #[.slice d_o1 d_n1 d_c1, .slice d_o2 d_n2 d_c2]) ?_ hC rfl
                      simp only [execOp, Act.eval, b0]
                      go_simp
                    refine AllOps.cons ?_ ?_
                    · refine OpL.early (by kernel_rfl) (by kernel_rfl) fun ab W hC hB hdep => ?_
                      refine .inl ⟨rfl, ?_⟩
                      have b0 : ab.tmps.getD 5 undef = .pointer (some ⟨w.heap.size + 1 + 1, 0, none⟩) := hB.off 5 (by kernel_rfl)
                      obtain ⟨c0, c1, _, _⟩ := rowp2 ((hC.block _ (Array.getElem?_eq_some_iff.1 Rc17.out).1).trans Rc17.out)
                      clear hB hdep
                      refine goes_value (v := .agg #[.slice co cm cp, .slice cq cn cr]) ?_ hC rfl
                      simp only [execOp, Act.eval, b0]
                      go_simp
                    refine AllOps.cons ?_ ?_
                    · refine OpL.early (by kernel_rfl) (by kernel_rfl) fun ab W hC hB hdep => ?_
                      refine .inl ⟨rfl, ?_⟩
                      obtain ⟨x0, (q0 : (isV (.agg #[.slice co cm cp, .slice cq cn cr])) x0 W), e0⟩ := hdep 1 93 (by kernel_rfl)
                      obtain rfl : x0 = .agg #[.slice co cm cp, .slice cq cn cr] := q0
                      clear hB hdep
                      refine goes_call (f := 12) (args := #[.agg #[.slice co cm cp, .slice cq cn cr]]) ?_ ?_
                      · simp only [execOp]
                        go_simp
                      · exact (lown_any _ (mc) (sc) W (HZ_17.out.below hC) (by have := HNc.out; omega) (by have := HNc.out; omega)).mono fun e w7 ⟨⟨v7, he, hi⟩, hb⟩ => ⟨v7, he, hC.trans (hb.mono hC.size), hb, hi⟩
                    refine AllOps.cons ?_ ?_
                    · refine OpL.early (by kernel_rfl) (by kernel_rfl) fun ab W hC hB hdep => ?_
                      refine .inl ⟨rfl, ?_⟩
                      obtain ⟨x0, (q0 : (isV (.agg #[.slice d_o1 d_n1 d_c1, .slice d_o2 d_n2 d_c2])) x0 W), e0⟩ := hdep 0 92 (by kernel_rfl)
                      obtain rfl : x0 = .agg #[.slice d_o1 d_n1 d_c1, .slice d_o2 d_n2 d_c2] := q0
                      obtain ⟨x1, (q1 : (isWr (mc) (sc)) x1 W), e1⟩ := hdep 2 94 (by kernel_rfl)
                      skip
                      clear hB hdep
                      refine goes_call (f := 11) (args := #[.agg #[.slice d_o1 d_n1 d_c1, .slice d_o2 d_n2 d_c2], x1]) ?_ ?_
                      · simp only [execOp]
                        go_simp
                      · exact (wjoin_any _ x1 ((joinA ma sa mb sb).1) ((joinA ma sa mb sb).2.1) (mc) (sc) W (HD_17.out.below hC) (q1)).mono fun e w7 ⟨⟨v7, he, hi⟩, hb⟩ => ⟨_, he, hC.trans (hb.mono hC.size), hb, ⟨v7, rfl, hi⟩⟩
                    refine AllOps.cons ?_ ?_
                    · refine OpL.early (by kernel_rfl) (by kernel_rfl) fun ab W hC hB hdep => ?_
                      refine .inl ⟨rfl, ?_⟩
                      obtain ⟨x0, (q0 : (isJ (joinA ((joinA ma sa mb sb).1) ((joinA ma sa mb sb).2.1) (mc) (sc))) x0 W), e0⟩ := hdep 3 95 (by kernel_rfl)
                      obtain ⟨jx0, rfl, hj0⟩ := q0
                      clear hB hdep
                      refine goes_value (v := .tuple #[jx0, .int .i64 (joinA ((joinA ma sa mb sb).1) ((joinA ma sa mb sb).2.1) (mc) (sc)).2.2]) ?_ hC ⟨jx0, rfl, hj0⟩
                      simp only [execOp, Act.eval, e0]
                      go_simp
                    refine AllOps.cons ?_ ?_
                    · refine OpL.early (by kernel_rfl) (by kernel_rfl) fun ab W hC hB hdep => ?_
                      refine .inl ⟨rfl, ?_⟩
                      obtain ⟨x0, (q0 : (isJ (joinA ((joinA ma sa mb sb).1) ((joinA ma sa mb sb).2.1) (mc) (sc))) x0 W), e0⟩ := hdep 4 91 (by kernel_rfl)
                      obtain ⟨jx0, rfl, hj0⟩ := q0
                      clear hB hdep
                      refine goes_value (v := jx0) ?_ hC hj0
                      simp only [execOp, Act.eval, e0]
                      go_simp
                    refine AllOps.cons ?_ ?_
                    · refine OpL.pure (by kernel_rfl) (by kernel_rfl) fun ab W W1 hC hB hdep => .inl ⟨rfl, ?_⟩
                      obtain ⟨x0, (q0 : (isJ (joinA ((joinA ma sa mb sb).1) ((joinA ma sa mb sb).2.1) (mc) (sc))) x0 W), e0⟩ := hdep 4 91 (by kernel_rfl)
                      obtain ⟨jx0, rfl, hj0⟩ := q0
                      clear hB hdep
                      refine ⟨.int .i64 (joinA ((joinA ma sa mb sb).1) ((joinA ma sa mb sb).2.1) (mc) (sc)).2.2, ?_, rfl⟩
                      simp only [execOp, Act.eval, e0]
                      go_simp
                    refine AllOps.cons ?_ ?_
                    · refine OpL.early (by kernel_rfl) (by kernel_rfl) fun ab W hC hB hdep => ?_
                      refine .inl ⟨rfl, ?_⟩
                      clear hB hdep
                      refine goes_world (v := .pointer (some ⟨W.heap.size, 0, none⟩)) (w1 := W.alloc (.cells #[.slice none 0 0, .slice none 0 0] 24)) ?_ (hC.trans ((below1 W _).mono hC.size)) (below1 W _) ⟨_, rfl, hC.size, heap_alloc_new W _⟩
                      simp only [execOp]
                      go_simp
                    refine AllOps.cons ?_ ?_
                    · refine OpL.write (by kernel_rfl) fun vals ab W hC hB hdep => ⟨rfl, ?_⟩
                      obtain ⟨(q0 : (isBox wA.heap.size) (vals 7) W), e0⟩ := hdep 7 17 (by kernel_rfl)
                      generalize vals 7 = x0 at *
                      obtain ⟨g0, rfl, hge0, hg0⟩ := q0
                      obtain ⟨(q1 : (isWr (joinA ((joinA ma sa mb sb).1) ((joinA ma sa mb sb).2.1) (mc) (sc)).1 (joinA ((joinA ma sa mb sb).1) ((joinA ma sa mb sb).2.1) (mc) (sc)).2.1) (vals 5) W), e1⟩ := hdep 5 96 (by kernel_rfl)
                      generalize vals 5 = x1 at *
                      obtain ⟨u1, v1, rfl, hu1, hv1⟩ := Wr.cells q1
                      obtain ⟨_, uo1, uc1, rfl, _, _⟩ := hu1.cases
                      obtain ⟨_, vo1, vc1, rfl, _, _⟩ := hv1.cases
                      clear hB hdep
                      obtain ⟨_, _, z1, z2⟩ := rowp2 hg0
                      refine writes_skip (w1 := (W.setCell ⟨g0, 0, none⟩ _).setCell ⟨g0, 1, none⟩ _) ?_ ⟨_, _, _, rfl, rfl, rfl⟩
                      simp only [execOp, Act.eval, e0, e1]
                      go_simp
                    refine AllOps.cons ?_ ?_
                    · refine OpL.pure (by kernel_rfl) (by kernel_rfl) fun ab W W1 hC hB hdep => .inl ⟨rfl, ?_⟩
                      obtain ⟨x0, (q0 : (isV (.int .i64 (joinA ((joinA ma sa mb sb).1) ((joinA ma sa mb sb).2.1) (mc) (sc)).2.2)) x0 W), e0⟩ := hdep 6 97 (by kernel_rfl)
                      obtain rfl : x0 = .int .i64 (joinA ((joinA ma sa mb sb).1) ((joinA ma sa mb sb).2.1) (mc) (sc)).2.2 := q0
                      clear hB hdep
                      refine ⟨.int .i64 (joinA ((joinA ma sa mb sb).1) ((joinA ma sa mb sb).2.1) (mc) (sc)).2.2, ?_, rfl⟩
                      simp only [execOp, Act.eval, e0]
                      go_simp
                    exact trivial
                  · intro vals aa W0 wB hC hFin hB hall
                    obtain ⟨(k0 : (isV (.agg #[.slice d_o1 d_n1 d_c1, .slice d_o2 d_n2 d_c2])) (vals 0) W0), e0⟩ := hall 0 _ rfl (by decide)
                    obtain ⟨(k1 : (isV (.agg #[.slice co cm cp, .slice cq cn cr])) (vals 1) W0), e1⟩ := hall 1 _ rfl (by decide)
                    obtain ⟨(k2 : (isWr (mc) (sc)) (vals 2) W0), e2⟩ := hall 2 _ rfl (by decide)
                    obtain ⟨(k3 : (isJ (joinA ((joinA ma sa mb sb).1) ((joinA ma sa mb sb).2.1) (mc) (sc))) (vals 3) W0), e3⟩ := hall 3 _ rfl (by decide)
                    obtain ⟨(k4 : (isJ (joinA ((joinA ma sa mb sb).1) ((joinA ma sa mb sb).2.1) (mc) (sc))) (vals 4) W0), e4⟩ := hall 4 _ rfl (by decide)
                    obtain ⟨(k5 : (isWr (joinA ((joinA ma sa mb sb).1) ((joinA ma sa mb sb).2.1) (mc) (sc)).1 (joinA ((joinA ma sa mb sb).1) ((joinA ma sa mb sb).2.1) (mc) (sc)).2.1) (vals 5) W0), e5⟩ := hall 5 _ rfl (by decide)
                    obtain ⟨(k6 : (isV (.int .i64 (joinA ((joinA ma sa mb sb).1) ((joinA ma sa mb sb).2.1) (mc) (sc)).2.2)) (vals 6) W0), e6⟩ := hall 6 _ rfl (by decide)
                    obtain ⟨(k7 : (isBox wA.heap.size) (vals 7) W0), e7⟩ := hall 7 _ rfl (by decide)
                    obtain ⟨(k9 : (isV (.int .i64 (joinA ((joinA ma sa mb sb).1) ((joinA ma sa mb sb).2.1) (mc) (sc)).2.2)) (vals 9) W0), e9⟩ := hall 9 _ rfl (by decide)
                    have hv : ∀ p ∈ [((92 : Nat), (.agg #[.slice d_o1 d_n1 d_c1, .slice d_o2 d_n2 d_c2] : Value)), ((93 : Nat), (.agg #[.slice co cm cp, .slice cq cn cr] : Value)), ((94 : Nat), (vals 2 : Value)), ((95 : Nat), (vals 3 : Value)), ((91 : Nat), (vals 4 : Value)), ((96 : Nat), (vals 5 : Value)), ((97 : Nat), (.int .i64 (joinA ((joinA ma sa mb sb).1) ((joinA ma sa mb sb).2.1) (mc) (sc)).2.2 : Value)), ((17 : Nat), (vals 7 : Value)), ((18 : Nat), (.int .i64 (joinA ((joinA ma sa mb sb).1) ((joinA ma sa mb sb).2.1) (mc) (sc)).2.2 : Value))], aa.tmps.getD p.1 undef = p.2 := by
                      intro p hp
                      simp only [List.mem_cons, List.not_mem_nil, or_false] at hp
                      rcases hp with rfl | rfl | rfl | rfl | rfl | rfl | rfl | rfl | rfl
                      · exact (e0 _ rfl).trans k0
                      · exact (e1 _ rfl).trans k1
                      · exact e2 _ rfl
                      · exact e3 _ rfl
                      · exact e4 _ rfl
                      · exact e5 _ rfl
                      · exact (e6 _ rfl).trans k6
                      · exact e7 _ rfl
                      · exact (e9 _ rfl).trans k9
                    have hact := act_fold _ hB hv (by kernel_rfl)
                    subst hact
                    obtain ⟨h_g, h_o1, h_n1, h_c1, h_o2, h_n2, h_c2, hpg, hpv, hrow, hwr, hbx⟩ := fills_end hC hFin k7 k5
                    generalize vals 2 = h_v2 at *
                    generalize vals 3 = h_v3 at *
                    generalize vals 4 = h_v4 at *
                    rw [hpg, hpv]
                    clear hv hall hB hC hFin k0 e0 k1 e1 k2 e2 k3 e3 k4 e4 k5 e5 k6 e6 k7 e7 k9 e9 hpg hpv
                    refine (‹∀ (a : Act) (w : World), Code.wp Try.prog _ _ a w → _›) _ wB ?_
                    simp only [List.foldl, List.setIfInBounds_toArray, List.set_cons_succ, List.set_cons_zero]
                    rw [HEp.out]
                    have HB18 := Lib.hid (HB17.out.trans (hbx.mono HB17.out.size))
                    have Ra18 := Lib.hid ((hbx.block _ (Array.getElem?_eq_some_iff.1 Ra17.out).1).trans Ra17.out)
                    have Rb18 := Lib.hid ((hbx.block _ (Array.getElem?_eq_some_iff.1 Rb17.out).1).trans Rb17.out)
                    have Rc18 := Lib.hid ((hbx.block _ (Array.getElem?_eq_some_iff.1 Rc17.out).1).trans Rc17.out)
                    have Ru18 := Lib.hid ((hbx.block _ (Array.getElem?_eq_some_iff.1 Ru17.out).1).trans Ru17.out)
                    have Rv18 := Lib.hid ((hbx.block _ (Array.getElem?_eq_some_iff.1 Rv17.out).1).trans Rv17.out)
                    have Rp18 := Lib.hid ((hbx.block _ (Array.getElem?_eq_some_iff.1 Rp17.out).1).trans Rp17.out)
                    have Rq18 := Lib.hid ((hbx.block _ (Array.getElem?_eq_some_iff.1 Rq17.out).1).trans Rq17.out)
                    have Rd18 := Lib.hid ((hbx.block _ (Array.getElem?_eq_some_iff.1 Rd17.out).1).trans Rd17.out)
                    have HX_18 := Lib.hid (HX_17.out.below hbx)
                    have HY_18 := Lib.hid (HY_17.out.below hbx)
                    have HZ_18 := Lib.hid (HZ_17.out.below hbx)
                    have HU_18 := Lib.hid (HU_17.out.below hbx)
                    have HV_18 := Lib.hid (HV_17.out.below hbx)
                    have HP_18 := Lib.hid (HP_17.out.below hbx)
                    have HQ_18 := Lib.hid (HQ_17.out.below hbx)
                    have HD_18 := Lib.hid (HD_17.out.below hbx)
                    clear HB17 Ra17 Rb17 Rc17 Ru17 Rv17 Rp17 Rq17 Rd17 HX_17 HY_17 HZ_17 HU_17 HV_17 HP_17 HQ_17 HD_17
                    have Rh18 := Lib.hid hrow
                    have HH_18 := Lib.hid hwr
                    clear hbx hrow hwr
                    obtain ⟨ca14, da14, ya14, za14⟩ := rowp2 Ra18.out
                    obtain ⟨cb14, db14, yb14, zb14⟩ := rowp2 Rb18.out
                    obtain ⟨cc14, dc14, yc14, zc14⟩ := rowp2 Rc18.out
                    obtain ⟨cu14, du14, yu14, zu14⟩ := rowp2 Ru18.out
                    obtain ⟨cv14, dv14, yv14, zv14⟩ := rowp2 Rv18.out
                    obtain ⟨cp14, dp14, yp14, zp14⟩ := rowp2 Rp18.out
                    obtain ⟨cq14, dq14, yq14, zq14⟩ := rowp2 Rq18.out
                    obtain ⟨cd14, dd14, yd14, zd14⟩ := rowp2 Rd18.out
                    obtain ⟨ch14, dh14, yh14, zh14⟩ := rowp2 Rh18.out
                    go_upto_region 13 with fail
                    clear ca14 da14 ya14 za14 cb14 db14 yb14 zb14 cc14 dc14 yc14 zc14 cu14 du14 yu14 zu14 cv14 dv14 yv14 zv14 cp14 dp14 yp14 zp14 cq14 dq14 yq14 zq14 cd14 dd14 yd14 zd14 ch14 dh14 yh14 zh14
                    refine wp_region_late 9 8 6 19 104 (psi [isV (.agg #[.slice bo bm bp, .slice bq bn br]), isWr (mb) (sb), isV (.agg #[.slice co cm cp, .slice cq cn cr]), isWr (mc) (sc), isJ (joinA (mb) (sb) (mc) (sc)), isJ (joinA (mb) (sb) (mc) (sc)), isWr (joinA (mb) (sb) (mc) (sc)).1 (joinA (mb) (sb) (mc) (sc)).2.1, isV (.int .i64 (joinA (mb) (sb) (mc) (sc)).2.2), isBox wB.heap.size, nothing, isV (.int .i64 (joinA (mb) (sb) (mc) (sc)).2.2)]) (fun W => Below wB.heap.size wB W) (FillsP) (by kernel_rfl) (Below.refl _ _).drew (psi_mono ?_) (by kernel_rfl) (by kernel_rfl) (by kernel_rfl) ?_ ?_
                    · intro p hp
                      simp only [List.mem_cons, List.not_mem_nil, or_false] at hp
                      (repeat' rcases hp with rfl | hp) <;> first | exact isV_stays _ | exact nothing_stays | (subst hp; first | exact isV_stays _ | exact nothing_stays) | exact isBox_stays _ | exact isJ_stays _ | exact isWr_stays _ _ | (subst hp; exact isBox_stays _) | (subst hp; exact isJ_stays _) | (subst hp; exact isWr_stays _ _)
                    · refine AllOps.cons ?_ ?_
                      · refine OpL.early (by kernel_rfl) (by kernel_rfl) fun ab W hC hB hdep => ?_
                        refine .inl ⟨rfl, ?_⟩
                        have b0 : ab.tmps.getD 4 undef = .pointer (some ⟨w.heap.size + 1, 0, none⟩) := hB.off 4 (by kernel_rfl)
                        obtain ⟨c0, c1, _, _⟩ := rowp2 ((hC.block _ (Array.getElem?_eq_some_iff.1 Rb18.out).1).trans Rb18.out)
                        clear hB hdep
                        refine goes_value (v := .agg #[.slice bo bm bp, .slice bq bn br]) ?_ hC rfl
                        simp only [execOp, Act.eval, b0]
                        go_simp
                      refine AllOps.cons ?_ ?_
                      · refine OpL.early (by kernel_rfl) (by kernel_rfl) fun ab W hC hB hdep => ?_
                        refine .inl ⟨rfl, ?_⟩
                        obtain ⟨x0, (q0 : (isV (.agg #[.slice bo bm bp, .slice bq bn br])) x0 W), e0⟩ := hdep 0 99 (by kernel_rfl)
                        obtain rfl : x0 = .agg #[.slice bo bm bp, .slice bq bn br] := q0
                        clear hB hdep
                        refine goes_call (f := 12) (args := #[.agg #[.slice bo bm bp, .slice bq bn br]]) ?_ ?_
                        · simp only [execOp]
                          go_simp
                        · exact (lown_any _ (mb) (sb) W (HY_18.out.below hC) (by have := HNb.out; omega) (by have := HNb.out; omega)).mono fun e w7 ⟨⟨v7, he, hi⟩, hb⟩ => ⟨v7, he, hC.trans (hb.mono hC.size), hb, hi⟩
                      refine AllOps.cons ?_ ?_
                      · refine OpL.early (by kernel_rfl) (by kernel_rfl) fun ab W hC hB hdep => ?_
                        refine .inl ⟨rfl, ?_⟩
                        have b0 : ab.tmps.getD 5 undef = .pointer (some ⟨w.heap.size + 1 + 1, 0, none⟩) := hB.off 5 (by kernel_rfl)
                        obtain ⟨c0, c1, _, _⟩ := rowp2 ((hC.block _ (Array.getElem?_eq_some_iff.1 Rc18.out).1).trans Rc18.out)
                        clear hB hdep
                        refine goes_value (v := .agg #[.slice co cm cp, .slice cq cn cr]) ?_ hC rfl
                        simp only [execOp, Act.eval, b0]
                        go_simp
                      refine AllOps.cons ?_ ?_
                      · refine OpL.early (by kernel_rfl) (by kernel_rfl) fun ab W hC hB hdep => ?_
                        refine .inl ⟨rfl, ?_⟩
                        obtain ⟨x0, (q0 : (isV (.agg #[.slice co cm cp, .slice cq cn cr])) x0 W), e0⟩ := hdep 2 101 (by kernel_rfl)
                        obtain rfl : x0 = .agg #[.slice co cm cp, .slice cq cn cr] := q0
                        clear hB hdep
                        refine goes_call (f := 12) (args := #[.agg #[.slice co cm cp, .slice cq cn cr]]) ?_ ?_
                        · simp only [execOp]
                          go_simp
                        · exact (lown_any _ (mc) (sc) W (HZ_18.out.below hC) (by have := HNc.out; omega) (by have := HNc.out; omega)).mono fun e w7 ⟨⟨v7, he, hi⟩, hb⟩ => ⟨v7, he, hC.trans (hb.mono hC.size), hb, hi⟩
                      refine AllOps.cons ?_ ?_
                      · refine OpL.early (by kernel_rfl) (by kernel_rfl) fun ab W hC hB hdep => ?_
                        refine .inl ⟨rfl, ?_⟩
                        obtain ⟨x0, (q0 : (isWr (mb) (sb)) x0 W), e0⟩ := hdep 1 100 (by kernel_rfl)
                        skip
                        obtain ⟨x1, (q1 : (isWr (mc) (sc)) x1 W), e1⟩ := hdep 3 102 (by kernel_rfl)
                        skip
                        clear hB hdep
                        refine goes_call (f := 11) (args := #[x0, x1]) ?_ ?_
                        · simp only [execOp]
                          go_simp
                        · exact (wjoin_any x0 x1 (mb) (sb) (mc) (sc) W (q0) (q1)).mono fun e w7 ⟨⟨v7, he, hi⟩, hb⟩ => ⟨_, he, hC.trans (hb.mono hC.size), hb, ⟨v7, rfl, hi⟩⟩
                      refine AllOps.cons ?_ ?_
                      · refine OpL.early (by kernel_rfl) (by kernel_rfl) fun ab W hC hB hdep => ?_
                        refine .inl ⟨rfl, ?_⟩
                        obtain ⟨x0, (q0 : (isJ (joinA (mb) (sb) (mc) (sc))) x0 W), e0⟩ := hdep 4 103 (by kernel_rfl)
                        obtain ⟨jx0, rfl, hj0⟩ := q0
                        clear hB hdep
                        refine goes_value (v := .tuple #[jx0, .int .i64 (joinA (mb) (sb) (mc) (sc)).2.2]) ?_ hC ⟨jx0, rfl, hj0⟩
                        simp only [execOp, Act.eval, e0]
                        go_simp
                      refine AllOps.cons ?_ ?_
                      · refine OpL.early (by kernel_rfl) (by kernel_rfl) fun ab W hC hB hdep => ?_
                        refine .inl ⟨rfl, ?_⟩
                        obtain ⟨x0, (q0 : (isJ (joinA (mb) (sb) (mc) (sc))) x0 W), e0⟩ := hdep 5 98 (by kernel_rfl)
                        obtain ⟨jx0, rfl, hj0⟩ := q0
                        clear hB hdep
                        refine goes_value (v := jx0) ?_ hC hj0
                        simp only [execOp, Act.eval, e0]
                        go_simp
                      refine AllOps.cons ?_ ?_
                      · refine OpL.pure (by kernel_rfl) (by kernel_rfl) fun ab W W1 hC hB hdep => .inl ⟨rfl, ?_⟩
                        obtain ⟨x0, (q0 : (isJ (joinA (mb) (sb) (mc) (sc))) x0 W), e0⟩ := hdep 5 98 (by kernel_rfl)
                        obtain ⟨jx0, rfl, hj0⟩ := q0
                        clear hB hdep
                        refine ⟨.int .i64 (joinA (mb) (sb) (mc) (sc)).2.2, ?_, rfl⟩
                        simp only [execOp, Act.eval, e0]
                        go_simp
                      refine AllOps.cons ?_ ?_
                      · refine OpL.early (by kernel_rfl) (by kernel_rfl) fun ab W hC hB hdep => ?_
                        refine .inl ⟨rfl, ?_⟩
                        clear hB hdep
                        refine goes_world (v := .pointer (some ⟨W.heap.size, 0, none⟩)) (w1 := W.alloc (.cells #[.slice none 0 0, .slice none 0 0] 24)) ?_ (hC.trans ((below1 W _).mono hC.size)) (below1 W _) ⟨_, rfl, hC.size, heap_alloc_new W _⟩
                        simp only [execOp]
                        go_simp
                      refine AllOps.cons ?_ ?_
                      · refine OpL.write (by kernel_rfl) fun vals ab W hC hB hdep => ⟨rfl, ?_⟩
                        obtain ⟨(q0 : (isBox wB.heap.size) (vals 8) W), e0⟩ := hdep 8 19 (by kernel_rfl)
                        generalize vals 8 = x0 at *
                        obtain ⟨g0, rfl, hge0, hg0⟩ := q0
                        obtain ⟨(q1 : (isWr (joinA (mb) (sb) (mc) (sc)).1 (joinA (mb) (sb) (mc) (sc)).2.1) (vals 6) W), e1⟩ := hdep 6 104 (by kernel_rfl)
                        generalize vals 6 = x1 at *
                        obtain ⟨u1, v1, rfl, hu1, hv1⟩ := Wr.cells q1
                        obtain ⟨_, uo1, uc1, rfl, _, _⟩ := hu1.cases
                        obtain ⟨_, vo1, vc1, rfl, _, _⟩ := hv1.cases
                        clear hB hdep
                        obtain ⟨_, _, z1, z2⟩ := rowp2 hg0
                        refine writes_skip (w1 := (W.setCell ⟨g0, 0, none⟩ _).setCell ⟨g0, 1, none⟩ _) ?_ ⟨_, _, _, rfl, rfl, rfl⟩
                        simp only [execOp, Act.eval, e0, e1]
                        go_simp
                      refine AllOps.cons ?_ ?_
                      · refine OpL.pure (by kernel_rfl) (by kernel_rfl) fun ab W W1 hC hB hdep => .inl ⟨rfl, ?_⟩
                        obtain ⟨x0, (q0 : (isV (.int .i64 (joinA (mb) (sb) (mc) (sc)).2.2)) x0 W), e0⟩ := hdep 7 105 (by kernel_rfl)
                        obtain rfl : x0 = .int .i64 (joinA (mb) (sb) (mc) (sc)).2.2 := q0
                        clear hB hdep
                        refine ⟨.int .i64 (joinA (mb) (sb) (mc) (sc)).2.2, ?_, rfl⟩
                        simp only [execOp, Act.eval, e0]
                        go_simp
                      exact trivial
                    · intro vals aa W0 wC hC hFin hB hall
                      obtain ⟨(k0 : (isV (.agg #[.slice bo bm bp, .slice bq bn br])) (vals 0) W0), e0⟩ := hall 0 _ rfl (by decide)
                      obtain ⟨(k1 : (isWr (mb) (sb)) (vals 1) W0), e1⟩ := hall 1 _ rfl (by decide)
                      obtain ⟨(k2 : (isV (.agg #[.slice co cm cp, .slice cq cn cr])) (vals 2) W0), e2⟩ := hall 2 _ rfl (by decide)
                      obtain ⟨(k3 : (isWr (mc) (sc)) (vals 3) W0), e3⟩ := hall 3 _ rfl (by decide)
                      obtain ⟨(k4 : (isJ (joinA (mb) (sb) (mc) (sc))) (vals 4) W0), e4⟩ := hall 4 _ rfl (by decide)
                      obtain ⟨(k5 : (isJ (joinA (mb) (sb) (mc) (sc))) (vals 5) W0), e5⟩ := hall 5 _ rfl (by decide)
                      obtain ⟨(k6 : (isWr (joinA (mb) (sb) (mc) (sc)).1 (joinA (mb) (sb) (mc) (sc)).2.1) (vals 6) W0), e6⟩ := hall 6 _ rfl (by decide)
                      obtain ⟨(k7 : (isV (.int .i64 (joinA (mb) (sb) (mc) (sc)).2.2)) (vals 7) W0), e7⟩ := hall 7 _ rfl (by decide)
                      obtain ⟨(k8 : (isBox wB.heap.size) (vals 8) W0), e8⟩ := hall 8 _ rfl (by decide)
                      obtain ⟨(k10 : (isV (.int .i64 (joinA (mb) (sb) (mc) (sc)).2.2)) (vals 10) W0), e10⟩ := hall 10 _ rfl (by decide)
                      have hv : ∀ p ∈ [((99 : Nat), (.agg #[.slice bo bm bp, .slice bq bn br] : Value)), ((100 : Nat), (vals 1 : Value)), ((101 : Nat), (.agg #[.slice co cm cp, .slice cq cn cr] : Value)), ((102 : Nat), (vals 3 : Value)), ((103 : Nat), (vals 4 : Value)), ((98 : Nat), (vals 5 : Value)), ((104 : Nat), (vals 6 : Value)), ((105 : Nat), (.int .i64 (joinA (mb) (sb) (mc) (sc)).2.2 : Value)), ((19 : Nat), (vals 8 : Value)), ((20 : Nat), (.int .i64 (joinA (mb) (sb) (mc) (sc)).2.2 : Value))], aa.tmps.getD p.1 undef = p.2 := by
                        intro p hp
                        simp only [List.mem_cons, List.not_mem_nil, or_false] at hp
                        rcases hp with rfl | rfl | rfl | rfl | rfl | rfl | rfl | rfl | rfl | rfl
                        · exact (e0 _ rfl).trans k0
                        · exact e1 _ rfl
                        · exact (e2 _ rfl).trans k2
                        · exact e3 _ rfl
                        · exact e4 _ rfl
                        · exact e5 _ rfl
                        · exact e6 _ rfl
                        · exact (e7 _ rfl).trans k7
                        · exact e8 _ rfl
                        · exact (e10 _ rfl).trans k10
                      have hact := act_fold _ hB hv (by kernel_rfl)
                      subst hact
                      obtain ⟨i_g, i_o1, i_n1, i_c1, i_o2, i_n2, i_c2, hpg, hpv, hrow, hwr, hbx⟩ := fills_end hC hFin k8 k6
                      generalize vals 1 = i_v1 at *
                      generalize vals 3 = i_v3 at *
                      generalize vals 4 = i_v4 at *
                      generalize vals 5 = i_v5 at *
                      rw [hpg, hpv]
                      clear hv hall hB hC hFin k0 e0 k1 e1 k2 e2 k3 e3 k4 e4 k5 e5 k6 e6 k7 e7 k8 e8 k10 e10 hpg hpv
                      refine (‹∀ (a : Act) (w : World), Code.wp Try.prog _ _ a w → _›) _ wC ?_
                      simp only [List.foldl, List.setIfInBounds_toArray, List.set_cons_succ, List.set_cons_zero]
                      rw [HEv.out]
                      have HB19 := Lib.hid (HB18.out.trans (hbx.mono HB18.out.size))
                      have Ra19 := Lib.hid ((hbx.block _ (Array.getElem?_eq_some_iff.1 Ra18.out).1).trans Ra18.out)
                      have Rb19 := Lib.hid ((hbx.block _ (Array.getElem?_eq_some_iff.1 Rb18.out).1).trans Rb18.out)
                      have Rc19 := Lib.hid ((hbx.block _ (Array.getElem?_eq_some_iff.1 Rc18.out).1).trans Rc18.out)
                      have Ru19 := Lib.hid ((hbx.block _ (Array.getElem?_eq_some_iff.1 Ru18.out).1).trans Ru18.out)
                      have Rv19 := Lib.hid ((hbx.block _ (Array.getElem?_eq_some_iff.1 Rv18.out).1).trans Rv18.out)
                      have Rp19 := Lib.hid ((hbx.block _ (Array.getElem?_eq_some_iff.1 Rp18.out).1).trans Rp18.out)
                      have Rq19 := Lib.hid ((hbx.block _ (Array.getElem?_eq_some_iff.1 Rq18.out).1).trans Rq18.out)
                      have Rd19 := Lib.hid ((hbx.block _ (Array.getElem?_eq_some_iff.1 Rd18.out).1).trans Rd18.out)
                      have Rh19 := Lib.hid ((hbx.block _ (Array.getElem?_eq_some_iff.1 Rh18.out).1).trans Rh18.out)
                      have HX_19 := Lib.hid (HX_18.out.below hbx)
                      have HY_19 := Lib.hid (HY_18.out.below hbx)
                      have HZ_19 := Lib.hid (HZ_18.out.below hbx)
                      have HU_19 := Lib.hid (HU_18.out.below hbx)
                      have HV_19 := Lib.hid (HV_18.out.below hbx)
                      have HP_19 := Lib.hid (HP_18.out.below hbx)
                      have HQ_19 := Lib.hid (HQ_18.out.below hbx)
                      have HD_19 := Lib.hid (HD_18.out.below hbx)
                      have HH_19 := Lib.hid (HH_18.out.below hbx)
                      clear HB18 Ra18 Rb18 Rc18 Ru18 Rv18 Rp18 Rq18 Rd18 Rh18 HX_18 HY_18 HZ_18 HU_18 HV_18 HP_18 HQ_18 HD_18 HH_18
                      have Ri19 := Lib.hid hrow
                      have HI_19 := Lib.hid hwr
                      clear hbx hrow hwr
                      obtain ⟨ca15, da15, ya15, za15⟩ := rowp2 Ra19.out
                      obtain ⟨cb15, db15, yb15, zb15⟩ := rowp2 Rb19.out
                      obtain ⟨cc15, dc15, yc15, zc15⟩ := rowp2 Rc19.out
                      obtain ⟨cu15, du15, yu15, zu15⟩ := rowp2 Ru19.out
                      obtain ⟨cv15, dv15, yv15, zv15⟩ := rowp2 Rv19.out
                      obtain ⟨cp15, dp15, yp15, zp15⟩ := rowp2 Rp19.out
                      obtain ⟨cq15, dq15, yq15, zq15⟩ := rowp2 Rq19.out
                      obtain ⟨cd15, dd15, yd15, zd15⟩ := rowp2 Rd19.out
                      obtain ⟨ch15, dh15, yh15, zh15⟩ := rowp2 Rh19.out
                      obtain ⟨ci15, di15, yi15, zi15⟩ := rowp2 Ri19.out
                      go_upto_region 14 with fail
                      clear ca15 da15 ya15 za15 cb15 db15 yb15 zb15 cc15 dc15 yc15 zc15 cu15 du15 yu15 zu15 cv15 dv15 yv15 zv15 cp15 dp15 yp15 zp15 cq15 dq15 yq15 zq15 cd15 dd15 yd15 zd15 ch15 dh15 yh15 zh15 ci15 di15 yi15 zi15
                      refine wp_region_late 8 7 5 21 111 (psi [isV (.agg #[.slice ao am ap, .slice aq an ar]), isWr (ma) (sa), isV (.agg #[.slice i_o1 i_n1 i_c1, .slice i_o2 i_n2 i_c2]), isJ (joinA (ma) (sa) ((joinA mb sb mc sc).1) ((joinA mb sb mc sc).2.1)), isJ (joinA (ma) (sa) ((joinA mb sb mc sc).1) ((joinA mb sb mc sc).2.1)), isWr (joinA (ma) (sa) ((joinA mb sb mc sc).1) ((joinA mb sb mc sc).2.1)).1 (joinA (ma) (sa) ((joinA mb sb mc sc).1) ((joinA mb sb mc sc).2.1)).2.1, isV (.int .i64 (joinA (ma) (sa) ((joinA mb sb mc sc).1) ((joinA mb sb mc sc).2.1)).2.2), isBox wC.heap.size, nothing, isV (.int .i64 (joinA (ma) (sa) ((joinA mb sb mc sc).1) ((joinA mb sb mc sc).2.1)).2.2)]) (fun W => Below wC.heap.size wC W) (FillsP) (by kernel_rfl) (Below.refl _ _).drew (psi_mono ?_) (by kernel_rfl) (by kernel_rfl) (by kernel_rfl) ?_ ?_
                      · intro p hp
                        simp only [List.mem_cons, List.not_mem_nil, or_false] at hp
                        (repeat' rcases hp with rfl | hp) <;> first | exact isV_stays _ | exact nothing_stays | (subst hp; first | exact isV_stays _ | exact nothing_stays) | exact isBox_stays _ | exact isJ_stays _ | exact isWr_stays _ _ | (subst hp; exact isBox_stays _) | (subst hp; exact isJ_stays _) | (subst hp; exact isWr_stays _ _)
                      · refine AllOps.cons ?_ ?_
                        · refine OpL.early (by kernel_rfl) (by kernel_rfl) fun ab W hC hB hdep => ?_
                          refine .inl ⟨rfl, ?_⟩
                          have b0 : ab.tmps.getD 3 undef = .pointer (some ⟨w.heap.size, 0, none⟩) := hB.off 3 (by kernel_rfl)
                          obtain ⟨c0, c1, _, _⟩ := rowp2 ((hC.block _ (Array.getElem?_eq_some_iff.1 Ra19.out).1).trans Ra19.out)
                          clear hB hdep
                          refine goes_value (v := .agg #[.slice ao am ap, .slice aq an ar]) ?_ hC rfl
                          simp only [execOp, Act.eval, b0]
                          go_simp
                        refine AllOps.cons ?_ ?_
                        · refine OpL.early (by kernel_rfl) (by kernel_rfl) fun ab W hC hB hdep => ?_
                          refine .inl ⟨rfl, ?_⟩
                          obtain ⟨x0, (q0 : (isV (.agg #[.slice ao am ap, .slice aq an ar])) x0 W), e0⟩ := hdep 0 107 (by kernel_rfl)
                          obtain rfl : x0 = .agg #[.slice ao am ap, .slice aq an ar] := q0
                          clear hB hdep
                          refine goes_call (f := 12) (args := #[.agg #[.slice ao am ap, .slice aq an ar]]) ?_ ?_
                          · simp only [execOp]
                            go_simp
                          · exact (lown_any _ (ma) (sa) W (HX_19.out.below hC) (by have := HNa.out; omega) (by have := HNa.out; omega)).mono fun e w7 ⟨⟨v7, he, hi⟩, hb⟩ => ⟨v7, he, hC.trans (hb.mono hC.size), hb, hi⟩
                        refine AllOps.cons ?_ ?_
                        · refine OpL.early (by kernel_rfl) (by kernel_rfl) fun ab W hC hB hdep => ?_
                          refine .inl ⟨rfl, ?_⟩
                          have b0 : ab.tmps.getD 19 undef = .pointer (some ⟨i_g, 0, none⟩) := hB.off 19 (by kernel_rfl)
                          obtain ⟨c0, c1, _, _⟩ := rowp2 ((hC.block _ (Array.getElem?_eq_some_iff.1 Ri19.out).1).trans Ri19.out)
                          clear hB hdep
                          refine goes_value (v := .agg #[.slice i_o1 i_n1 i_c1, .slice i_o2 i_n2 i_c2]) ?_ hC rfl
                          simp only [execOp, Act.eval, b0]
                          go_simp
                        refine AllOps.cons ?_ ?_
                        · refine OpL.early (by kernel_rfl) (by kernel_rfl) fun ab W hC hB hdep => ?_
                          refine .inl ⟨rfl, ?_⟩
                          obtain ⟨x0, (q0 : (isWr (ma) (sa)) x0 W), e0⟩ := hdep 1 108 (by kernel_rfl)
                          skip
                          obtain ⟨x1, (q1 : (isV (.agg #[.slice i_o1 i_n1 i_c1, .slice i_o2 i_n2 i_c2])) x1 W), e1⟩ := hdep 2 109 (by kernel_rfl)
                          obtain rfl : x1 = .agg #[.slice i_o1 i_n1 i_c1, .slice i_o2 i_n2 i_c2] := q1
                          clear hB hdep
                          refine goes_call (f := 11) (args := #[x0, .agg #[.slice i_o1 i_n1 i_c1, .slice i_o2 i_n2 i_c2]]) ?_ ?_
                          · simp only [execOp]
                            go_simp
                          · exact (wjoin_any x0 _ (ma) (sa) ((joinA mb sb mc sc).1) ((joinA mb sb mc sc).2.1) W (q0) (HI_19.out.below hC)).mono fun e w7 ⟨⟨v7, he, hi⟩, hb⟩ => ⟨_, he, hC.trans (hb.mono hC.size), hb, ⟨v7, rfl, hi⟩⟩
                        refine AllOps.cons ?_ ?_
                        · refine OpL.early (by kernel_rfl) (by kernel_rfl) fun ab W hC hB hdep => ?_
                          refine .inl ⟨rfl, ?_⟩
                          obtain ⟨x0, (q0 : (isJ (joinA (ma) (sa) ((joinA mb sb mc sc).1) ((joinA mb sb mc sc).2.1))) x0 W), e0⟩ := hdep 3 110 (by kernel_rfl)
                          obtain ⟨jx0, rfl, hj0⟩ := q0
                          clear hB hdep
                          refine goes_value (v := .tuple #[jx0, .int .i64 (joinA (ma) (sa) ((joinA mb sb mc sc).1) ((joinA mb sb mc sc).2.1)).2.2]) ?_ hC ⟨jx0, rfl, hj0⟩
                          simp only [execOp, Act.eval, e0]
                          go_simp
                        refine AllOps.cons ?_ ?_
                        · refine OpL.early (by kernel_rfl) (by kernel_rfl) fun ab W hC hB hdep => ?_
                          refine .inl ⟨rfl, ?_⟩
                          obtain ⟨x0, (q0 : (isJ (joinA (ma) (sa) ((joinA mb sb mc sc).1) ((joinA mb sb mc sc).2.1))) x0 W), e0⟩ := hdep 4 106 (by kernel_rfl)
                          obtain ⟨jx0, rfl, hj0⟩ := q0
                          clear hB hdep
                          refine goes_value (v := jx0) ?_ hC hj0
                          simp only [execOp, Act.eval, e0]
                          go_simp
                        refine AllOps.cons ?_ ?_
                        · refine OpL.pure (by kernel_rfl) (by kernel_rfl) fun ab W W1 hC hB hdep => .inl ⟨rfl, ?_⟩
                          obtain ⟨x0, (q0 : (isJ (joinA (ma) (sa) ((joinA mb sb mc sc).1) ((joinA mb sb mc sc).2.1))) x0 W), e0⟩ := hdep 4 106 (by kernel_rfl)
                          obtain ⟨jx0, rfl, hj0⟩ := q0
                          clear hB hdep
                          refine ⟨.int .i64 (joinA (ma) (sa) ((joinA mb sb mc sc).1) ((joinA mb sb mc sc).2.1)).2.2, ?_, rfl⟩
                          simp only [execOp, Act.eval, e0]
                          go_simp
                        refine AllOps.cons ?_ ?_
                        · refine OpL.early (by kernel_rfl) (by kernel_rfl) fun ab W hC hB hdep => ?_
                          refine .inl ⟨rfl, ?_⟩
                          clear hB hdep
                          refine goes_world (v := .pointer (some ⟨W.heap.size, 0, none⟩)) (w1 := W.alloc (.cells #[.slice none 0 0, .slice none 0 0] 24)) ?_ (hC.trans ((below1 W _).mono hC.size)) (below1 W _) ⟨_, rfl, hC.size, heap_alloc_new W _⟩
                          simp only [execOp]
                          go_simp
                        refine AllOps.cons ?_ ?_
                        · refine OpL.write (by kernel_rfl) fun vals ab W hC hB hdep => ⟨rfl, ?_⟩
                          obtain ⟨(q0 : (isBox wC.heap.size) (vals 7) W), e0⟩ := hdep 7 21 (by kernel_rfl)
                          generalize vals 7 = x0 at *
                          obtain ⟨g0, rfl, hge0, hg0⟩ := q0
                          obtain ⟨(q1 : (isWr (joinA (ma) (sa) ((joinA mb sb mc sc).1) ((joinA mb sb mc sc).2.1)).1 (joinA (ma) (sa) ((joinA mb sb mc sc).1) ((joinA mb sb mc sc).2.1)).2.1) (vals 5) W), e1⟩ := hdep 5 111 (by kernel_rfl)
                          generalize vals 5 = x1 at *
                          obtain ⟨u1, v1, rfl, hu1, hv1⟩ := Wr.cells q1
                          obtain ⟨_, uo1, uc1, rfl, _, _⟩ := hu1.cases
                          obtain ⟨_, vo1, vc1, rfl, _, _⟩ := hv1.cases
                          clear hB hdep
                          obtain ⟨_, _, z1, z2⟩ := rowp2 hg0
                          refine writes_skip (w1 := (W.setCell ⟨g0, 0, none⟩ _).setCell ⟨g0, 1, none⟩ _) ?_ ⟨_, _, _, rfl, rfl, rfl⟩
                          simp only [execOp, Act.eval, e0, e1]
                          go_simp
                        refine AllOps.cons ?_ ?_
                        · refine OpL.pure (by kernel_rfl) (by kernel_rfl) fun ab W W1 hC hB hdep => .inl ⟨rfl, ?_⟩
                          obtain ⟨x0, (q0 : (isV (.int .i64 (joinA (ma) (sa) ((joinA mb sb mc sc).1) ((joinA mb sb mc sc).2.1)).2.2)) x0 W), e0⟩ := hdep 6 112 (by kernel_rfl)
                          obtain rfl : x0 = .int .i64 (joinA (ma) (sa) ((joinA mb sb mc sc).1) ((joinA mb sb mc sc).2.1)).2.2 := q0
                          clear hB hdep
                          refine ⟨.int .i64 (joinA (ma) (sa) ((joinA mb sb mc sc).1) ((joinA mb sb mc sc).2.1)).2.2, ?_, rfl⟩
                          simp only [execOp, Act.eval, e0]
                          go_simp
                        exact trivial
                      · intro vals aa W0 wD hC hFin hB hall
                        obtain ⟨(k0 : (isV (.agg #[.slice ao am ap, .slice aq an ar])) (vals 0) W0), e0⟩ := hall 0 _ rfl (by decide)
                        obtain ⟨(k1 : (isWr (ma) (sa)) (vals 1) W0), e1⟩ := hall 1 _ rfl (by decide)
                        obtain ⟨(k2 : (isV (.agg #[.slice i_o1 i_n1 i_c1, .slice i_o2 i_n2 i_c2])) (vals 2) W0), e2⟩ := hall 2 _ rfl (by decide)
                        obtain ⟨(k3 : (isJ (joinA (ma) (sa) ((joinA mb sb mc sc).1) ((joinA mb sb mc sc).2.1))) (vals 3) W0), e3⟩ := hall 3 _ rfl (by decide)
                        obtain ⟨(k4 : (isJ (joinA (ma) (sa) ((joinA mb sb mc sc).1) ((joinA mb sb mc sc).2.1))) (vals 4) W0), e4⟩ := hall 4 _ rfl (by decide)
                        obtain ⟨(k5 : (isWr (joinA (ma) (sa) ((joinA mb sb mc sc).1) ((joinA mb sb mc sc).2.1)).1 (joinA (ma) (sa) ((joinA mb sb mc sc).1) ((joinA mb sb mc sc).2.1)).2.1) (vals 5) W0), e5⟩ := hall 5 _ rfl (by decide)
                        obtain ⟨(k6 : (isV (.int .i64 (joinA (ma) (sa) ((joinA mb sb mc sc).1) ((joinA mb sb mc sc).2.1)).2.2)) (vals 6) W0), e6⟩ := hall 6 _ rfl (by decide)
                        obtain ⟨(k7 : (isBox wC.heap.size) (vals 7) W0), e7⟩ := hall 7 _ rfl (by decide)
                        obtain ⟨(k9 : (isV (.int .i64 (joinA (ma) (sa) ((joinA mb sb mc sc).1) ((joinA mb sb mc sc).2.1)).2.2)) (vals 9) W0), e9⟩ := hall 9 _ rfl (by decide)
                        have hv : ∀ p ∈ [((107 : Nat), (.agg #[.slice ao am ap, .slice aq an ar] : Value)), ((108 : Nat), (vals 1 : Value)), ((109 : Nat), (.agg #[.slice i_o1 i_n1 i_c1, .slice i_o2 i_n2 i_c2] : Value)), ((110 : Nat), (vals 3 : Value)), ((106 : Nat), (vals 4 : Value)), ((111 : Nat), (vals 5 : Value)), ((112 : Nat), (.int .i64 (joinA (ma) (sa) ((joinA mb sb mc sc).1) ((joinA mb sb mc sc).2.1)).2.2 : Value)), ((21 : Nat), (vals 7 : Value)), ((22 : Nat), (.int .i64 (joinA (ma) (sa) ((joinA mb sb mc sc).1) ((joinA mb sb mc sc).2.1)).2.2 : Value))], aa.tmps.getD p.1 undef = p.2 := by
                          intro p hp
                          simp only [List.mem_cons, List.not_mem_nil, or_false] at hp
                          rcases hp with rfl | rfl | rfl | rfl | rfl | rfl | rfl | rfl | rfl
                          · exact (e0 _ rfl).trans k0
                          · exact e1 _ rfl
                          · exact (e2 _ rfl).trans k2
                          · exact e3 _ rfl
                          · exact e4 _ rfl
                          · exact e5 _ rfl
                          · exact (e6 _ rfl).trans k6
                          · exact e7 _ rfl
                          · exact (e9 _ rfl).trans k9
                        have hact := act_fold _ hB hv (by kernel_rfl)
                        subst hact
                        obtain ⟨j_g, j_o1, j_n1, j_c1, j_o2, j_n2, j_c2, hpg, hpv, hrow, hwr, hbx⟩ := fills_end hC hFin k7 k5
                        generalize vals 1 = j_v1 at *
                        generalize vals 3 = j_v3 at *
                        generalize vals 4 = j_v4 at *
                        rw [hpg, hpv]
                        clear hv hall hB hC hFin k0 e0 k1 e1 k2 e2 k3 e3 k4 e4 k5 e5 k6 e6 k7 e7 k9 e9 hpg hpv
                        refine (‹∀ (a : Act) (w : World), Code.wp Try.prog _ _ a w → _›) _ wD ?_
                        simp only [List.foldl, List.setIfInBounds_toArray, List.set_cons_succ, List.set_cons_zero]
                        rw [HEq.out]
                        have HB20 := Lib.hid (HB19.out.trans (hbx.mono HB19.out.size))
                        have Ra20 := Lib.hid ((hbx.block _ (Array.getElem?_eq_some_iff.1 Ra19.out).1).trans Ra19.out)
                        have Rb20 := Lib.hid ((hbx.block _ (Array.getElem?_eq_some_iff.1 Rb19.out).1).trans Rb19.out)
                        have Rc20 := Lib.hid ((hbx.block _ (Array.getElem?_eq_some_iff.1 Rc19.out).1).trans Rc19.out)
                        have Ru20 := Lib.hid ((hbx.block _ (Array.getElem?_eq_some_iff.1 Ru19.out).1).trans Ru19.out)
                        have Rv20 := Lib.hid ((hbx.block _ (Array.getElem?_eq_some_iff.1 Rv19.out).1).trans Rv19.out)
                        have Rp20 := Lib.hid ((hbx.block _ (Array.getElem?_eq_some_iff.1 Rp19.out).1).trans Rp19.out)
                        have Rq20 := Lib.hid ((hbx.block _ (Array.getElem?_eq_some_iff.1 Rq19.out).1).trans Rq19.out)
                        have Rd20 := Lib.hid ((hbx.block _ (Array.getElem?_eq_some_iff.1 Rd19.out).1).trans Rd19.out)
                        have Rh20 := Lib.hid ((hbx.block _ (Array.getElem?_eq_some_iff.1 Rh19.out).1).trans Rh19.out)
                        have Ri20 := Lib.hid ((hbx.block _ (Array.getElem?_eq_some_iff.1 Ri19.out).1).trans Ri19.out)
                        have HX_20 := Lib.hid (HX_19.out.below hbx)
                        have HY_20 := Lib.hid (HY_19.out.below hbx)
                        have HZ_20 := Lib.hid (HZ_19.out.below hbx)
                        have HU_20 := Lib.hid (HU_19.out.below hbx)
                        have HV_20 := Lib.hid (HV_19.out.below hbx)
                        have HP_20 := Lib.hid (HP_19.out.below hbx)
                        have HQ_20 := Lib.hid (HQ_19.out.below hbx)
                        have HD_20 := Lib.hid (HD_19.out.below hbx)
                        have HH_20 := Lib.hid (HH_19.out.below hbx)
                        have HI_20 := Lib.hid (HI_19.out.below hbx)
                        clear HB19 Ra19 Rb19 Rc19 Ru19 Rv19 Rp19 Rq19 Rd19 Rh19 Ri19 HX_19 HY_19 HZ_19 HU_19 HV_19 HP_19 HQ_19 HD_19 HH_19 HI_19
                        have Rj20 := Lib.hid hrow
                        have HJ_20 := Lib.hid hwr
                        clear hbx hrow hwr
                        obtain ⟨ca16, da16, ya16, za16⟩ := rowp2 Ra20.out
                        obtain ⟨cb16, db16, yb16, zb16⟩ := rowp2 Rb20.out
                        obtain ⟨cc16, dc16, yc16, zc16⟩ := rowp2 Rc20.out
                        obtain ⟨cu16, du16, yu16, zu16⟩ := rowp2 Ru20.out
                        obtain ⟨cv16, dv16, yv16, zv16⟩ := rowp2 Rv20.out
                        obtain ⟨cp16, dp16, yp16, zp16⟩ := rowp2 Rp20.out
                        obtain ⟨cq16, dq16, yq16, zq16⟩ := rowp2 Rq20.out
                        obtain ⟨cd16, dd16, yd16, zd16⟩ := rowp2 Rd20.out
                        obtain ⟨ch16, dh16, yh16, zh16⟩ := rowp2 Rh20.out
                        obtain ⟨ci16, di16, yi16, zi16⟩ := rowp2 Ri20.out
                        obtain ⟨cj16, dj16, yj16, zj16⟩ := rowp2 Rj20.out
                        have has := joinA_assoc HEu.out HEv.out (by have := HLb.out; omega) HEp.out HEq.out
                        have HAS := Lib.hid has
                        clear has
                        go_wp2_with fail
                        refine (lsame_wr _ _ _ _ _ _ _ HH_20.out HP_20.out).mono ?_
                        rintro e wE ⟨rfl, hbx⟩
                        rw [sameZ_true rfl, sameZ_true rfl]
                        have HB21 := Lib.hid (HB20.out.trans (hbx.mono HB20.out.size))
                        have Ra21 := Lib.hid ((hbx.block _ (Array.getElem?_eq_some_iff.1 Ra20.out).1).trans Ra20.out)
                        have Rb21 := Lib.hid ((hbx.block _ (Array.getElem?_eq_some_iff.1 Rb20.out).1).trans Rb20.out)
                        have Rc21 := Lib.hid ((hbx.block _ (Array.getElem?_eq_some_iff.1 Rc20.out).1).trans Rc20.out)
                        have Ru21 := Lib.hid ((hbx.block _ (Array.getElem?_eq_some_iff.1 Ru20.out).1).trans Ru20.out)
                        have Rv21 := Lib.hid ((hbx.block _ (Array.getElem?_eq_some_iff.1 Rv20.out).1).trans Rv20.out)
                        have Rp21 := Lib.hid ((hbx.block _ (Array.getElem?_eq_some_iff.1 Rp20.out).1).trans Rp20.out)
                        have Rq21 := Lib.hid ((hbx.block _ (Array.getElem?_eq_some_iff.1 Rq20.out).1).trans Rq20.out)
                        have Rd21 := Lib.hid ((hbx.block _ (Array.getElem?_eq_some_iff.1 Rd20.out).1).trans Rd20.out)
                        have Rh21 := Lib.hid ((hbx.block _ (Array.getElem?_eq_some_iff.1 Rh20.out).1).trans Rh20.out)
                        have Ri21 := Lib.hid ((hbx.block _ (Array.getElem?_eq_some_iff.1 Ri20.out).1).trans Ri20.out)
                        have Rj21 := Lib.hid ((hbx.block _ (Array.getElem?_eq_some_iff.1 Rj20.out).1).trans Rj20.out)
                        have HX_21 := Lib.hid (HX_20.out.below hbx)
                        have HY_21 := Lib.hid (HY_20.out.below hbx)
                        have HZ_21 := Lib.hid (HZ_20.out.below hbx)
                        have HU_21 := Lib.hid (HU_20.out.below hbx)
                        have HV_21 := Lib.hid (HV_20.out.below hbx)
                        have HP_21 := Lib.hid (HP_20.out.below hbx)
                        have HQ_21 := Lib.hid (HQ_20.out.below hbx)
                        have HD_21 := Lib.hid (HD_20.out.below hbx)
                        have HH_21 := Lib.hid (HH_20.out.below hbx)
                        have HI_21 := Lib.hid (HI_20.out.below hbx)
                        have HJ_21 := Lib.hid (HJ_20.out.below hbx)
                        clear HB20 Ra20 Rb20 Rc20 Ru20 Rv20 Rp20 Rq20 Rd20 Rh20 Ri20 Rj20 HX_20 HY_20 HZ_20 HU_20 HV_20 HP_20 HQ_20 HD_20 HH_20 HI_20 HJ_20
                        clear hbx
                        clear ca16 da16 ya16 za16 cb16 db16 yb16 zb16 cc16 dc16 yc16 zc16 cu16 du16 yu16 zu16 cv16 dv16 yv16 zv16 cp16 dp16 yp16 zp16 cq16 dq16 yq16 zq16 cd16 dd16 yd16 zd16 ch16 dh16 yh16 zh16 ci16 di16 yi16 zi16 cj16 dj16 yj16 zj16
                        obtain ⟨ca17, da17, ya17, za17⟩ := rowp2 Ra21.out
                        obtain ⟨cb17, db17, yb17, zb17⟩ := rowp2 Rb21.out
                        obtain ⟨cc17, dc17, yc17, zc17⟩ := rowp2 Rc21.out
                        obtain ⟨cu17, du17, yu17, zu17⟩ := rowp2 Ru21.out
                        obtain ⟨cv17, dv17, yv17, zv17⟩ := rowp2 Rv21.out
                        obtain ⟨cp17, dp17, yp17, zp17⟩ := rowp2 Rp21.out
                        obtain ⟨cq17, dq17, yq17, zq17⟩ := rowp2 Rq21.out
                        obtain ⟨cd17, dd17, yd17, zd17⟩ := rowp2 Rd21.out
                        obtain ⟨ch17, dh17, yh17, zh17⟩ := rowp2 Rh21.out
                        obtain ⟨ci17, di17, yi17, zi17⟩ := rowp2 Ri21.out
                        obtain ⟨cj17, dj17, yj17, zj17⟩ := rowp2 Rj21.out
                        go_wp2_with fail
                        refine (lsame_wr _ _ _ _ _ _ _ HJ_21.out HQ_21.out).mono ?_
                        rintro e wF ⟨rfl, hbx⟩
                        rw [sameZ_true rfl, sameZ_true rfl]
                        have HB22 := Lib.hid (HB21.out.trans (hbx.mono HB21.out.size))
                        have Ra22 := Lib.hid ((hbx.block _ (Array.getElem?_eq_some_iff.1 Ra21.out).1).trans Ra21.out)
                        have Rb22 := Lib.hid ((hbx.block _ (Array.getElem?_eq_some_iff.1 Rb21.out).1).trans Rb21.out)
                        have Rc22 := Lib.hid ((hbx.block _ (Array.getElem?_eq_some_iff.1 Rc21.out).1).trans Rc21.out)
                        have Ru22 := Lib.hid ((hbx.block _ (Array.getElem?_eq_some_iff.1 Ru21.out).1).trans Ru21.out)
                        have Rv22 := Lib.hid ((hbx.block _ (Array.getElem?_eq_some_iff.1 Rv21.out).1).trans Rv21.out)
                        have Rp22 := Lib.hid ((hbx.block _ (Array.getElem?_eq_some_iff.1 Rp21.out).1).trans Rp21.out)
                        have Rq22 := Lib.hid ((hbx.block _ (Array.getElem?_eq_some_iff.1 Rq21.out).1).trans Rq21.out)
                        have Rd22 := Lib.hid ((hbx.block _ (Array.getElem?_eq_some_iff.1 Rd21.out).1).trans Rd21.out)
                        have Rh22 := Lib.hid ((hbx.block _ (Array.getElem?_eq_some_iff.1 Rh21.out).1).trans Rh21.out)
                        have Ri22 := Lib.hid ((hbx.block _ (Array.getElem?_eq_some_iff.1 Ri21.out).1).trans Ri21.out)
                        have Rj22 := Lib.hid ((hbx.block _ (Array.getElem?_eq_some_iff.1 Rj21.out).1).trans Rj21.out)
                        have HX_22 := Lib.hid (HX_21.out.below hbx)
                        have HY_22 := Lib.hid (HY_21.out.below hbx)
                        have HZ_22 := Lib.hid (HZ_21.out.below hbx)
                        have HU_22 := Lib.hid (HU_21.out.below hbx)
                        have HV_22 := Lib.hid (HV_21.out.below hbx)
                        have HP_22 := Lib.hid (HP_21.out.below hbx)
                        have HQ_22 := Lib.hid (HQ_21.out.below hbx)
                        have HD_22 := Lib.hid (HD_21.out.below hbx)
                        have HH_22 := Lib.hid (HH_21.out.below hbx)
                        have HI_22 := Lib.hid (HI_21.out.below hbx)
                        have HJ_22 := Lib.hid (HJ_21.out.below hbx)
                        clear HB21 Ra21 Rb21 Rc21 Ru21 Rv21 Rp21 Rq21 Rd21 Rh21 Ri21 Rj21 HX_21 HY_21 HZ_21 HU_21 HV_21 HP_21 HQ_21 HD_21 HH_21 HI_21 HJ_21
                        clear hbx
                        clear ca17 da17 ya17 za17 cb17 db17 yb17 zb17 cc17 dc17 yc17 zc17 cu17 du17 yu17 zu17 cv17 dv17 yv17 zv17 cp17 dp17 yp17 zp17 cq17 dq17 yq17 zq17 cd17 dd17 yd17 zd17 ch17 dh17 yh17 zh17 ci17 di17 yi17 zi17 cj17 dj17 yj17 zj17
                        obtain ⟨ca18, da18, ya18, za18⟩ := rowp2 Ra22.out
                        obtain ⟨cb18, db18, yb18, zb18⟩ := rowp2 Rb22.out
                        obtain ⟨cc18, dc18, yc18, zc18⟩ := rowp2 Rc22.out
                        obtain ⟨cu18, du18, yu18, zu18⟩ := rowp2 Ru22.out
                        obtain ⟨cv18, dv18, yv18, zv18⟩ := rowp2 Rv22.out
                        obtain ⟨cp18, dp18, yp18, zp18⟩ := rowp2 Rp22.out
                        obtain ⟨cq18, dq18, yq18, zq18⟩ := rowp2 Rq22.out
                        obtain ⟨cd18, dd18, yd18, zd18⟩ := rowp2 Rd22.out
                        obtain ⟨ch18, dh18, yh18, zh18⟩ := rowp2 Rh22.out
                        obtain ⟨ci18, di18, yi18, zi18⟩ := rowp2 Ri22.out
                        obtain ⟨cj18, dj18, yj18, zj18⟩ := rowp2 Rj22.out
                        go_wp2_with fail
                        refine (lsame_wr _ _ _ _ _ _ _ HH_22.out HJ_22.out).mono ?_
                        rintro e wG ⟨rfl, hbx⟩
                        rw [sameZ_true HAS.out.1, sameZ_true HAS.out.2]
                        have HB23 := Lib.hid (HB22.out.trans (hbx.mono HB22.out.size))
                        have Ra23 := Lib.hid ((hbx.block _ (Array.getElem?_eq_some_iff.1 Ra22.out).1).trans Ra22.out)
                        have Rb23 := Lib.hid ((hbx.block _ (Array.getElem?_eq_some_iff.1 Rb22.out).1).trans Rb22.out)
                        have Rc23 := Lib.hid ((hbx.block _ (Array.getElem?_eq_some_iff.1 Rc22.out).1).trans Rc22.out)
                        have Ru23 := Lib.hid ((hbx.block _ (Array.getElem?_eq_some_iff.1 Ru22.out).1).trans Ru22.out)
                        have Rv23 := Lib.hid ((hbx.block _ (Array.getElem?_eq_some_iff.1 Rv22.out).1).trans Rv22.out)
                        have Rp23 := Lib.hid ((hbx.block _ (Array.getElem?_eq_some_iff.1 Rp22.out).1).trans Rp22.out)
                        have Rq23 := Lib.hid ((hbx.block _ (Array.getElem?_eq_some_iff.1 Rq22.out).1).trans Rq22.out)
                        have Rd23 := Lib.hid ((hbx.block _ (Array.getElem?_eq_some_iff.1 Rd22.out).1).trans Rd22.out)
                        have Rh23 := Lib.hid ((hbx.block _ (Array.getElem?_eq_some_iff.1 Rh22.out).1).trans Rh22.out)
                        have Ri23 := Lib.hid ((hbx.block _ (Array.getElem?_eq_some_iff.1 Ri22.out).1).trans Ri22.out)
                        have Rj23 := Lib.hid ((hbx.block _ (Array.getElem?_eq_some_iff.1 Rj22.out).1).trans Rj22.out)
                        have HX_23 := Lib.hid (HX_22.out.below hbx)
                        have HY_23 := Lib.hid (HY_22.out.below hbx)
                        have HZ_23 := Lib.hid (HZ_22.out.below hbx)
                        have HU_23 := Lib.hid (HU_22.out.below hbx)
                        have HV_23 := Lib.hid (HV_22.out.below hbx)
                        have HP_23 := Lib.hid (HP_22.out.below hbx)
                        have HQ_23 := Lib.hid (HQ_22.out.below hbx)
                        have HD_23 := Lib.hid (HD_22.out.below hbx)
                        have HH_23 := Lib.hid (HH_22.out.below hbx)
                        have HI_23 := Lib.hid (HI_22.out.below hbx)
                        have HJ_23 := Lib.hid (HJ_22.out.below hbx)
                        clear HB22 Ra22 Rb22 Rc22 Ru22 Rv22 Rp22 Rq22 Rd22 Rh22 Ri22 Rj22 HX_22 HY_22 HZ_22 HU_22 HV_22 HP_22 HQ_22 HD_22 HH_22 HI_22 HJ_22
                        clear hbx
                        clear ca18 da18 ya18 za18 cb18 db18 yb18 zb18 cc18 dc18 yc18 zc18 cu18 du18 yu18 zu18 cv18 dv18 yv18 zv18 cp18 dp18 yp18 zp18 cq18 dq18 yq18 zq18 cd18 dd18 yd18 zd18 ch18 dh18 yh18 zh18 ci18 di18 yi18 zi18 cj18 dj18 yj18 zj18
                        obtain ⟨ca19, da19, ya19, za19⟩ := rowp2 Ra23.out
                        obtain ⟨cb19, db19, yb19, zb19⟩ := rowp2 Rb23.out
                        obtain ⟨cc19, dc19, yc19, zc19⟩ := rowp2 Rc23.out
                        obtain ⟨cu19, du19, yu19, zu19⟩ := rowp2 Ru23.out
                        obtain ⟨cv19, dv19, yv19, zv19⟩ := rowp2 Rv23.out
                        obtain ⟨cp19, dp19, yp19, zp19⟩ := rowp2 Rp23.out
                        obtain ⟨cq19, dq19, yq19, zq19⟩ := rowp2 Rq23.out
                        obtain ⟨cd19, dd19, yd19, zd19⟩ := rowp2 Rd23.out
                        obtain ⟨ch19, dh19, yh19, zh19⟩ := rowp2 Rh23.out
                        obtain ⟨ci19, di19, yi19, zi19⟩ := rowp2 Ri23.out
                        obtain ⟨cj19, dj19, yj19, zj19⟩ := rowp2 Rj23.out
                        go_wp2_with fail
                        go_ret
                        exact ⟨rfl, HB23.out⟩
end Go.Proofs.Ytoefkhpgabmieaa
