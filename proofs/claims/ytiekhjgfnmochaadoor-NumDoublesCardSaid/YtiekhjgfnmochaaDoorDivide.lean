/- num.Divide -/
import Derived.Test.YtiekhjgfnmochaaDoorSplit
import Derived.Test.YtiekhjgfnmochaaDoorMade
import Derived.Test.YtiekhjgfnmochaaDoorEnv
namespace Go.Proofs.YtiekhjgfnmochaaDoor
open Go.RowKit

namespace DV
/-- A struct's box, as it is laid. -/
def ZB (W : World) (g : Nat) : Prop := W.heap[g]? = some (.cells #[.bool false, .slice none 0 0] 24 (0, 0))
theorem ZB.lt {W : World} {g : Nat} (h : ZB W g) : g < W.heap.size := (Array.getElem?_eq_some_iff.1 h).1
theorem ZB.step {W W' : World} {g : Nat} (h : ZB W g) (hb : Below W.heap.size W W') : ZB W' g := (hb.block g h.lt).trans h
theorem ZB.alloc {W : World} {g : Nat} (h : ZB W g) (o : Obj) : ZB (W.alloc o) g := (Below.heap_alloc _ _ _ h.lt).trans h
theorem ZB.set {W : World} {g h : Nat} (hz : ZB W g) (hne : ¬ (g = h)) (x y : Value) : ZB ((W.setCell ⟨h, 0, none⟩ x).setCell ⟨h, 1, none⟩ y) g := by
  unfold ZB at *; rw [Below.heap_setCell _ _ _ _ hne, Below.heap_setCell _ _ _ _ hne]; exact hz
theorem ZB.new (W : World) : ZB (W.alloc (.cells #[.bool false, .slice none 0 0] 24)) W.heap.size := heap_alloc_new W _
theorem ZB.facts {W : World} {g : Nat} (h : ZB W g) : W.cell? ⟨g, 0, none⟩ = some (.bool false) ∧ W.cell? ⟨g, 1, none⟩ = some (.slice none 0 0) ∧ W.frozen? ⟨g, 0, none⟩ = false ∧ W.frozen? ⟨g, 1, none⟩ = false :=
  ⟨cell_heap h 0, cell_heap h 1, frozen_heap h 0, frozen_heap h 1⟩

theorem ZB.env {W : World} {g : Nat} (h : ZB W g) : Env [(g, false, .slice none 0 0, [])] W := by
  intro g' n s xs hm
  simp only [List.mem_singleton, Prod.mk.injEq] at hm
  obtain ⟨rfl, rfl, rfl, rfl⟩ := hm
  exact ⟨h, Sl.nil _ _, h.lt⟩
end DV
open DV

/-- What Divide answers of sound numbers, the second not nought. -/
def DivPost (n1 n2 : Bool) (xs ys : List Nat) (w : World) (e : Ending) (w' : World) : Prop :=
  ∃ v1 m1 q v2 m2 r, e = .returned (.tuple #[v1, v2, .int .i64 0]) ∧ IntV w' v1 m1 q ∧ IntV w' v2 m2 r ∧ Snd m1 q ∧ Snd m2 r ∧ val q = val xs / val ys ∧ val r = val xs % val ys ∧ (q ≠ [] → m1 = !(n1 == n2)) ∧ (r ≠ [] → m2 = n1) ∧ Below w.heap.size w w'

set_option maxRecDepth 100000 in
set_option maxHeartbeats 1000000 in
theorem split_any (ao bo : Option Addr) (ca cb : Nat) (xs ys : List Nat) (w : World) (ha : Sl .u32 w (.slice ao xs.length ca) xs) (hb : Sl .u32 w (.slice bo ys.length cb) ys) (hx : Lb xs) (hy : Lb ys)
    (hxl : xs.length ≤ 1000) (hyl : ys.length ≤ 1000) (hyt : 1 ≤ limb ys (ys.length - 1)) (h1 : 1 ≤ ys.length) :
    Calls Tryd.prog 56 #[.slice ao xs.length ca, .slice bo ys.length cb] w (SplitPost xs ys w) := by
  rcases Nat.lt_or_ge xs.length ys.length with h | h
  · exact split_short ao bo ca cb xs ys w ha hb hx hy hxl hyl hyt h
  · exact split_long ao bo ca cb xs ys w ha hb hx hy hxl hyl hyt h1 h

set_option maxRecDepth 100000 in
set_option maxHeartbeats 1000000 in
theorem divide_ok (n1 n2 : Bool) (s1 s2 : Value) (xs ys : List Nat) (w : World) (hs1 : Sl .u32 w s1 xs) (hs2 : Sl .u32 w s2 ys) (hx : Snd n1 xs) (hy : Snd n2 ys) (hne : ys ≠ []) :
    Calls Tryd.prog 34 #[.agg #[.bool n1, s1], .agg #[.bool n2, s2]] w (DivPost n1 n2 xs ys w) := by
  have HS1 := Lib.hid hs1
  have HS2 := Lib.hid hs2
  obtain ⟨q1, ao1, cap1, rfl, hcap1, q2⟩ := hs1
  obtain ⟨q3, ao2, cap2, rfl, hcap2, q4⟩ := hs2
  clear q1 q2 q3 q4
  have hyl : 1 ≤ ys.length := List.length_pos_iff.2 hne
  have HTOP := Lib.hid (hy.2.2.2 hne)
  have HX := Lib.hid hx; clear hx
  have HY := Lib.hid hy; clear hy
  clear hne
  have hA0 := (Env.nil w).push (n := n1) HS1.out
  have hA1 := hA0.push (n := n2) (HS2.out.below (below1 w (.cells #[.bool n1, .slice ao1 xs.length cap1] 24)))
  have hA := Lib.hid ((hA1.alloc (.cells #[.bool false, .slice none 0 0] 24)).alloc (.cells #[.bool false, .slice none 0 0] 24))
  have hB := Lib.hid (((below2 w (.cells #[.bool n1, .slice ao1 xs.length cap1] 24) (.cells #[.bool n2, .slice ao2 ys.length cap2] 24)).alloc (by simp; omega) (.cells #[.bool false, .slice none 0 0] 24)).alloc (by simp; omega) (.cells #[.bool false, .slice none 0 0] 24))
  have hQ := Lib.hid ((ZB.new ((w.alloc (.cells #[.bool n1, .slice ao1 xs.length cap1] 24)).alloc (.cells #[.bool n2, .slice ao2 ys.length cap2] 24))).alloc (.cells #[.bool false, .slice none 0 0] 24))
  have hR := Lib.hid (ZB.new (((w.alloc (.cells #[.bool n1, .slice ao1 xs.length cap1] 24)).alloc (.cells #[.bool n2, .slice ao2 ys.length cap2] 24)).alloc (.cells #[.bool false, .slice none 0 0] 24)))
  simp only [World.size_alloc] at hA hQ hR
  clear hA0 hA1
  have hb0 : (((ys.length : Nat) : Int) == 0) = false := by rw [beq_eq_false_iff_ne]; omega
  go_enter Tryd.func34, Tryd.ntmps34
  go_wp2_with fail
  generalize ((((w.alloc (.cells #[.bool n1, .slice ao1 xs.length cap1] 24)).alloc (.cells #[.bool n2, .slice ao2 ys.length cap2] 24)).alloc (.cells #[.bool false, .slice none 0 0] 24)).alloc (.cells #[.bool false, .slice none 0 0] 24)) = W at *
  replace hA := hA.out
  replace hB := hB.out
  replace hQ := hQ.out
  replace hR := hR.out
  have M1 : Hid ((w.heap.size, n1, Value.slice ao1 xs.length cap1, xs) ∈ [(w.heap.size + 1, n2, Value.slice ao2 ys.length cap2, ys), (w.heap.size, n1, Value.slice ao1 xs.length cap1, xs)]) := Lib.hid (by simp)
  have M2 : Hid ((w.heap.size + 1, n2, Value.slice ao2 ys.length cap2, ys) ∈ [(w.heap.size + 1, n2, Value.slice ao2 ys.length cap2, ys), (w.heap.size, n1, Value.slice ao1 xs.length cap1, xs)]) := Lib.hid (by simp)
  refine (sound_any n1 _ xs _ (hA.sl M1.out) HX.out.2.1.wide).mono ?_
  rintro e w1 ⟨rfl, hb⟩
  rw [sndB_true HX.out]
  replace hB := hB.trans (hb.mono hB.size)
  replace hA := hA.step hb
  replace hQ := hQ.step hb
  replace hR := hR.step hb
  clear hb
  obtain ⟨p0, p1⟩ := hA.cells M2.out
  go_wp2_with fail
  refine (sound_any n2 _ ys _ (hA.sl M2.out) HY.out.2.1.wide).mono ?_
  rintro e w2 ⟨rfl, hb⟩
  rw [sndB_true HY.out]
  replace hB := hB.trans (hb.mono hB.size)
  replace hA := hA.step hb
  replace hQ := hQ.step hb
  replace hR := hR.step hb
  clear hb p0 p1
  obtain ⟨p0, p1⟩ := hA.cells M1.out
  obtain ⟨p2, p3⟩ := hA.cells M2.out
  go_wp2_with fail
  have hx1 := HX.out.1
  have hy1 := HY.out.1
  refine (split_any ao1 ao2 cap1 cap2 xs ys _ (hA.sl M1.out) (hA.sl M2.out) HX.out.2.1 HY.out.2.1 (by omega) (by omega) (by have := HTOP.out; omega) hyl).mono ?_
  rintro e w3 ⟨v1, v2, q, r, rfl, hs1, hs2, hlq, hlr, hql, hrl, hvq, hvr, hb⟩
  have HV1 := Lib.hid hvq; have HV2 := Lib.hid hvr
  have HLQ := Lib.hid hlq; have HLR := Lib.hid hlr
  clear hvq hvr hlq hlr
  have HSQ := Lib.hid hs1
  have HSR := Lib.hid hs2
  obtain ⟨_, ao3, cap3, rfl, _, _⟩ := hs1
  obtain ⟨_, ao4, cap4, rfl, _, _⟩ := hs2
  have HQL := Lib.hid hql; have HRL := Lib.hid hrl
  clear hql hrl
  replace hB := hB.trans (hb.mono hB.size)
  replace hA := hA.step hb
  replace hQ := hQ.step hb
  replace hR := hR.step hb
  clear hb p0 p1 p2 p3
  obtain ⟨p0, p1⟩ := hA.cells M1.out
  obtain ⟨p2, p3⟩ := hA.cells M2.out
  go_wp2_with fail
  refine (made_any (!(n1 == n2)) _ q _ HSQ.out HLQ.out).mono ?_
  rintro e w4 ⟨v4, neg4, rs4, c4, rfl, ⟨sv4, rfl, hsl4⟩, hb, hres4⟩
  have HRES4 := Lib.hid hres4
  have HS4 := Lib.hid hsl4
  obtain ⟨_, ao5, cap5, rfl, _, _⟩ := hsl4
  have HSR2 := Lib.hid (HSR.out.below hb)
  replace hB := hB.trans (hb.mono hB.size)
  replace hA := hA.step hb
  replace hQ := hQ.step hb
  replace hR := hR.step hb
  clear hb p0 p1 p2 p3 hres4 HSR
  obtain ⟨p0, p1⟩ := hA.cells M1.out
  obtain ⟨y0, y1, f0, f1⟩ := hQ.facts
  go_wp2_with fail
  have hE := (Env.put (L := []) (DV.ZB.env hQ) (B := w.heap.size + 1 + 1) (fun _ _ _ _ h => by cases h) (Nat.le_refl _) HS4.out neg4)
  have HSQ5 := Lib.hid (HS4.out.box hQ (.bool neg4) (.slice ao5 rs4.length cap5))
  have HSR5 := Lib.hid (HSR2.out.box hQ (.bool neg4) (.slice ao5 rs4.length cap5))
  replace hR := hR.set (h := w.heap.size + 1 + 1) (by omega) (.bool neg4) (.slice ao5 rs4.length cap5)
  replace hB := (hB.setCell (p := ⟨w.heap.size + 1 + 1, 0, none⟩) (by simp; omega) (.bool neg4)).setCell (p := ⟨w.heap.size + 1 + 1, 1, none⟩) (by simp; omega) (.slice ao5 rs4.length cap5)
  clear hA hQ y0 y1 f0 f1 p0 p1 HS4 HSR2
  generalize ((w4.setCell ⟨w.heap.size + 1 + 1, 0, none⟩ (.bool neg4)).setCell ⟨w.heap.size + 1 + 1, 1, none⟩ (.slice ao5 rs4.length cap5)) = W5 at *
  refine (made_any n1 _ r _ HSR5.out HLR.out).mono ?_
  rintro e w6 ⟨v6, neg6, rs6, c6, rfl, ⟨sv6, rfl, hsl6⟩, hb, hres6⟩
  have HRES6 := Lib.hid hres6
  have HS6 := Lib.hid hsl6
  obtain ⟨_, ao7, cap7, rfl, _, _⟩ := hsl6
  have HSQ6 := Lib.hid (HSQ5.out.below hb)
  replace hB := hB.trans (hb.mono hB.size)
  replace hE := hE.step hb
  replace hR := hR.step hb
  clear hb hres6 HSR5 HSQ5
  obtain ⟨y0, y1, f0, f1⟩ := hR.facts
  obtain ⟨p0, p1⟩ := hE.cells (List.mem_cons_self (a := (w.heap.size + 1 + 1, neg4, Value.slice ao5 rs4.length cap5, rs4)) (l := []))
  go_wp2_with fail
  have hE6 := (Env.put (L := []) (DV.ZB.env hR) (B := w.heap.size + 1 + 1 + 1) (fun _ _ _ _ h => by cases h) (Nat.le_refl _) HS6.out neg6)
  have hQ7 : ((w6.setCell ⟨w.heap.size + 1 + 1 + 1, 0, none⟩ (.bool neg6)).setCell ⟨w.heap.size + 1 + 1 + 1, 1, none⟩ (.slice ao7 rs6.length cap7)).heap[w.heap.size + 1 + 1]? = some (.cells #[.bool neg4, .slice ao5 rs4.length cap5] 24 (0, 0)) := by
    rw [Below.heap_setCell _ _ _ _ (by simp), Below.heap_setCell _ _ _ _ (by simp)]
    exact (hE _ _ _ _ List.mem_cons_self).1
  have HSQ7 := Lib.hid (HSQ6.out.box hR (.bool neg6) (.slice ao7 rs6.length cap7))
  replace hB := (hB.setCell (p := ⟨w.heap.size + 1 + 1 + 1, 0, none⟩) (by simp; omega) (.bool neg6)).setCell (p := ⟨w.heap.size + 1 + 1 + 1, 1, none⟩) (by simp; omega) (.slice ao7 rs6.length cap7)
  clear y0 y1 f0 f1 p0 p1 hR hE HSQ6 HS6
  generalize ((w6.setCell ⟨w.heap.size + 1 + 1 + 1, 0, none⟩ (.bool neg6)).setCell ⟨w.heap.size + 1 + 1 + 1, 1, none⟩ (.slice ao7 rs6.length cap7)) = W7 at *
  obtain ⟨y0, y1, f0, f1⟩ := hE6.zfacts
  have p0 := cell_heap hQ7 0
  have p1 := cell_heap hQ7 1
  have g0 := frozen_heap hQ7 0
  have g1 := frozen_heap hQ7 1
  clear hb0 hx1 hy1
  go_region
  have hR8 : ((W7.setCell ⟨w.heap.size + 1 + 1, 0, none⟩ (.bool neg4)).setCell ⟨w.heap.size + 1 + 1, 1, none⟩ (.slice ao5 rs4.length cap5)).heap[w.heap.size + 1 + 1 + 1]? = some (.cells #[.bool neg6, .slice ao7 rs6.length cap7] 24 (0, 0)) := by
    rw [Below.heap_setCell _ _ _ _ (by simp), Below.heap_setCell _ _ _ _ (by simp)]
    exact (hE6 _ _ _ _ List.mem_cons_self).1
  have SQ := Lib.hid ((HSQ7.out.box hQ7 (.bool neg4) (.slice ao5 rs4.length cap5)).box hR8 (.bool neg6) (.slice ao7 rs6.length cap7))
  have SR := Lib.hid (((hE6.sl List.mem_cons_self).box hQ7 (.bool neg4) (.slice ao5 rs4.length cap5)).box hR8 (.bool neg6) (.slice ao7 rs6.length cap7))
  simp only [List.getElem?_toArray, List.getElem?_cons_zero, List.getElem?_cons_succ] at p0 p1
  go_wp2
  refine bodyPost_ret (v := .tuple #[.agg #[.bool neg4, .slice ao5 rs4.length cap5], .agg #[.bool neg6, .slice ao7 rs6.length cap7], .int .i64 0]) (by simp [results, Tryd.results34, go_sem, y0, y1, p0, p1]) rfl ?_
  have hbig : val xs < 1000000000 ^ 64 := Nat.lt_of_lt_of_le (val_lt HX.out.2.1) (Nat.pow_le_pow_right (by omega) HX.out.1)
  have hq1 : val q ≤ val xs := by rw [HV1.out]; exact Nat.div_le_self _ _
  have hr1 : val r ≤ val xs := by rw [HV2.out]; exact Nat.mod_le _ _
  rcases HRES4.out with ⟨_, a2, a3, a4⟩ | ⟨_, _, _, a4⟩
  · rcases HRES6.out with ⟨_, b2, b3, b4⟩ | ⟨_, _, _, b4⟩
    · exact ⟨_, neg4, rs4, _, neg6, rs6, rfl, ⟨_, rfl, SQ.out⟩, ⟨_, rfl, SR.out⟩, a2, b2, a3.trans HV1.out, b3.trans HV2.out, a4, b4, ((((hB.setCell (by simp; omega) _).setCell (by simp; omega) _).setCell (by simp; omega) _).setCell (by simp; omega) _).drew⟩
    · exact absurd hbig (Nat.not_lt.2 (Nat.le_trans b4 hr1))
  · exact absurd hbig (Nat.not_lt.2 (Nat.le_trans a4 hq1))
end Go.Proofs.YtiekhjgfnmochaaDoor
