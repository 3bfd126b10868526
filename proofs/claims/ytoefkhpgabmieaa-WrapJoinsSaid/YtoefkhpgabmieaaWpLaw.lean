/- law09's join, answers. -/
import Derived.Test.YtoefkhpgabmieaaWpRJoin
import Derived.Test.YtoefkhpgabmieaaWpJoin
import Derived.Test.YtoefkhpgabmieaaWpSame
import Derived.Test.YtoefkhpgabmieaaWpOwn
namespace Go.Proofs.Ytoefkhpgabmieaa
open Go.RowKit

set_option maxRecDepth 100000 in
set_option maxHeartbeats 2000000 in
theorem answers9_any (w : World) : Calls Try.prog 9 #[] w fun e w' => e = .returned (.bool true) ∧ Below w.heap.size w w' := by
  go_enter Try.func9, Try.ntmps9
  go_wp2_with fail
  refine (rib_any 2 w).mono ?_
  rintro e w1 ⟨⟨x, rfl, hx⟩, hb1⟩
  have HX := Lib.hid hx
  have HB1 := Lib.hid hb1
  clear hx hb1
  go_wp2_with fail
  refine (mark_any 5 w1).mono ?_
  rintro e w2 ⟨⟨y, rfl, hy⟩, hb2⟩
  have HX2 := Lib.hid (HX.out.below hb2)
  have HY := Lib.hid hy
  have HB2 := Lib.hid (HB1.out.trans (hb2.mono HB1.out.size))
  clear hy hb2 HX
  go_wp2_with fail
  refine (wjoin_any x y _ _ _ _ w2 HX2.out HY.out).mono ?_
  rintro e w3 ⟨⟨z, rfl, hz⟩, hb3⟩
  have hj : joinA (ribA 2).1 (ribA 2).2 (mrkA 5).1 (mrkA 5).2 = ([5], [2, 0], 0) := by decide
  rw [hj] at hz
  rw [hj]
  obtain ⟨zm, zs, rfl, hzm, hzs⟩ := hz.cells
  obtain ⟨_, zmo, zmc, rfl, _, _⟩ := hzm.cases
  obtain ⟨_, zso, zsc, rfl, _, hr⟩ := hzs.cases
  rcases hr with ⟨h0, _⟩ | ⟨b, off, rfl, hb, hcell⟩
  · cases h0
  have HC : Hid (w3.cell? ⟨b, off, none⟩ = some (.int .i64 2)) := Lib.hid (hcell 0 (by decide))
  have HB3 := Lib.hid (HB2.out.trans (hb3.mono HB2.out.size))
  have HBL := Lib.hid hb
  clear hz hzm hzs hcell hb3 hb hj
  have HW4 := Lib.hid (below1 w3 (.cells #[.slice zmo 1 zmc, .slice (some ⟨b, off, none⟩) 2 zsc] 24))
  have c0 := (HW4.out.cell (p := ⟨b, off, none⟩) HBL.out).trans HC.out
  go_wp2_with fail
  go_ret
  exact ⟨rfl, HB3.out.alloc HB3.out.size _⟩

/-- What law09's join leaves. -/
def LJPost (w : World) (r : List Int × List Int × Int) : Ending → World → Prop := fun e w' => (∃ x, e = .returned (.tuple #[x, .bool (r.2.2 == 0)]) ∧ Wr w' x r.1 r.2.1) ∧ Below w.heap.size w w'
set_option maxRecDepth 100000 in
set_option maxHeartbeats 2000000 in
theorem ljoin_any (x y : Value) (m s n t : List Int) (w : World) (hx : Wr w x m s) (hy : Wr w y n t) :
    Calls Try.prog 20 #[x, y] w (LJPost w (joinA m s n t)) := by
  obtain ⟨mv, sv, rfl, hm, hs⟩ := hx.cells
  obtain ⟨nv, tv, rfl, hn, ht⟩ := hy.cells
  obtain ⟨_, ma, mc, hmv, _, _⟩ := hm.cases
  obtain ⟨_, sa, sc, hsv, _, _⟩ := hs.cases
  obtain ⟨_, na, nc, hnv, _, _⟩ := hn.cases
  obtain ⟨_, ta, tc, htv, _, _⟩ := ht.cases
  generalize m.length = ml at hmv
  generalize s.length = sl at hsv
  generalize n.length = nl at hnv
  generalize t.length = tl at htv
  subst hmv hsv hnv htv
  have HM := Lib.hid hm
  have HS := Lib.hid hs
  have HN := Lib.hid hn
  have HT := Lib.hid ht
  clear hx hy hm hs hn ht
  have HB1 := Lib.hid (below3 w (.cells #[.slice ma ml mc, .slice sa sl sc] 24) (.cells #[.slice na nl nc, .slice ta tl tc] 24) (.cells #[.slice none 0 0, .slice none 0 0] 24))
  have HN1 := Lib.hid (@newsp3 w (.cells #[.slice ma ml mc, .slice sa sl sc] 24) (.cells #[.slice na nl nc, .slice ta tl tc] 24) (.cells #[.slice none 0 0, .slice none 0 0] 24))
  go_enter Try.func20, Try.ntmps20
  go_upto_region 1 with fail
  generalize ((w.alloc (.cells #[.slice ma ml mc, .slice sa sl sc] 24)).alloc (.cells #[.slice na nl nc, .slice ta tl tc] 24)).alloc (.cells #[.slice none 0 0, .slice none 0 0] 24) = w1 at *
  obtain ⟨r0, r1, r2⟩ := HN1.out
  have HR2 := Lib.hid r2
  obtain ⟨c0, c1, _, _⟩ := rowp2 r0
  obtain ⟨d0, d1, _, _⟩ := rowp2 r1
  clear r0 r1 r2 HN1
  go_wp2_with fail
  refine (rjoin_any _ _ _ _ m s n t w1 (HM.out.below HB1.out) (HS.out.below HB1.out) (HN.out.below HB1.out) (HT.out.below HB1.out)).mono ?_
  rintro e w2 ⟨⟨a, b, rfl, ha, hb⟩, hb2⟩
  have HB2 := Lib.hid (HB1.out.trans (hb2.mono HB1.out.size))
  have T2 := Lib.hid ((hb2.block _ (Array.getElem?_eq_some_iff.1 HR2.out).1).trans HR2.out)
  have HA := Lib.hid ha
  have HBb := Lib.hid hb
  obtain ⟨_, ao, ac, hae, _, _⟩ := ha.cases
  obtain ⟨_, bo, bc, hbe, _, _⟩ := hb.cases
  generalize (joinA m s n t).1.length = al at hae
  generalize (joinA m s n t).2.1.length = bl at hbe
  subst hae hbe
  clear hb2 ha hb c0 c1 d0 d1 HR2
  obtain ⟨p0, p1, z0, z1⟩ := rowp2 T2.out
  obtain ⟨k, hk⟩ : ∃ k, k = (joinA m s n t).2.2 := ⟨_, rfl⟩
  rw [← hk]
  have HK := Lib.hid hk
  clear hk
  go_wp2_with fail
  have hw := (Wr.mk ⟨_, _, rfl, HA.out, HBb.out⟩ : Wr w2 (.agg #[.slice ao al ac, .slice bo bl bc]) (joinA m s n t).1 (joinA m s n t).2.1).fill T2.out (.slice ao al ac) (.slice bo bl bc)
  obtain ⟨q0, q1, _, _⟩ := rowp2 (putp2 T2.out (.slice ao al ac) (.slice bo bl bc))
  refine bodyPost_ret (v := .tuple #[.agg #[.slice ao al ac, .slice bo bl bc], .bool (k == 0)]) (by simp [results, Try.results20, go_sem, q0, q1]) rfl ?_
  rw [HK.out]
  exact ⟨⟨_, rfl, hw⟩, below_fill2 HB2.out (by omega) _ _⟩
end Go.Proofs.Ytoefkhpgabmieaa
