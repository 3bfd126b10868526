/- ref.sum, ref.give -/
import Derived.Test.YtiekhjgfnmochaaDoorRPlus
import Derived.Test.YtiekhjgfnmochaaDoorRMake
import Derived.Test.YtiekhjgfnmochaaDoorAdd
namespace Go.Proofs.YtiekhjgfnmochaaDoor
open Go.RowKit

/-- Digits with a sign. -/
def sg (neg : Bool) (N : Nat) : Int := if neg then -(N : Int) else (N : Int)

/-- What sum answers. -/
def SumPost (N : Int) (w : World) (e : Ending) (w' : World) : Prop :=
  ∃ n v ds, e = .returned (.tuple #[.bool n, v]) ∧ Sl .u8 w' v ds ∧ Db ds ∧ sg n (dval ds) = N ∧ Below w.heap.size w w'

set_option maxRecDepth 100000 in
set_option maxHeartbeats 4000000 in
theorem rsum_any (n1 n2 : Bool) (va vb : Value) (xs ys : List Nat) (w : World) (ha : Sl .u8 w va xs) (hb : Sl .u8 w vb ys) (hx : Db xs) (hy : Db ys) (htx : Top xs) (hty : Top ys) (hxl : xs.length < 1000000) (hyl : ys.length < 1000000) :
    Calls Tryd.prog 52 #[.bool n1, va, .bool n2, vb] w (SumPost (sg n1 (dval xs) + sg n2 (dval ys)) w) := by
  have HA := Lib.hid ha; clear ha
  have HB := Lib.hid hb; clear hb
  have HTX := Lib.hid htx; clear htx
  have HTY := Lib.hid hty; clear hty
  have HX := Lib.hid hx; clear hx
  have HY := Lib.hid hy; clear hy
  by_cases hn : n1 = n2
  · subst hn
    have hs : sg n1 (dval xs + dval ys) = sg n1 (dval xs) + sg n1 (dval ys) := by cases n1 <;> simp [sg] <;> omega
    have HSG := Lib.hid hs; clear hs
    have hd : (n1 == n1) = true := by simp
    go_enter Tryd.func52, Tryd.ntmps52
    go_wp2_with fail
    refine (rplus_any va vb xs ys w HA.out HB.out HX.out HY.out hxl hyl).mono ?_
    rintro e w' ⟨v, ds, rfl, q1, q2, q3, q4, q5⟩
    go_wp2_with fail
    refine bodyPost_ret (v := .tuple #[.bool n1, v]) (by simp [results, Tryd.results52, go_sem]) rfl ?_
    exact ⟨n1, v, ds, rfl, q1, q2, by rw [q4]; exact HSG.out, q5⟩
  · have hn2 : n2 = !n1 := by cases n1 <;> cases n2 <;> simp_all
    subst hn2
    have hd : (n1 == !n1) = false := by cases n1 <;> rfl
    rcases (by omega : dval ys ≤ dval xs ∨ dval xs < dval ys) with hc | hc
    · have hm : 0 ≤ cmpN (dval xs) (dval ys) := by unfold cmpN; rw [if_neg (by omega)]; split <;> omega
      have hs : sg n1 (dval xs - dval ys) = sg n1 (dval xs) + sg (!n1) (dval ys) := by cases n1 <;> simp [sg] <;> omega
      have HSG := Lib.hid hs; clear hs
      have HC := Lib.hid hc; clear hc
      have HM := Lib.hid (rmore_any va vb xs ys w HA.out HB.out HX.out HY.out HTX.out HTY.out)
      generalize cmpN (dval xs) (dval ys) = c at *
      go_enter Tryd.func52, Tryd.ntmps52
      go_wp2_with fail
      refine HM.out.mono ?_
      rintro e w' ⟨rfl, hb1⟩
      go_wp2_with fail
      refine (rminus_any va vb xs ys w' (HA.out.below hb1) (HB.out.below hb1) HX.out HY.out HTY.out HC.out hxl).mono ?_
      rintro e w2 ⟨v, ds, rfl, q1, q2, q3, q4, q5⟩
      go_wp2_with fail
      refine bodyPost_ret (v := .tuple #[.bool n1, v]) (by simp [results, Tryd.results52, go_sem]) rfl ?_
      exact ⟨n1, v, ds, rfl, q1, q2, by rw [q4]; exact HSG.out, hb1.trans (q5.mono hb1.size)⟩
    · have hm : cmpN (dval xs) (dval ys) < 0 := by unfold cmpN; rw [if_pos hc]; omega
      have hs : sg (!n1) (dval ys - dval xs) = sg n1 (dval xs) + sg (!n1) (dval ys) := by cases n1 <;> simp [sg] <;> omega
      have HSG := Lib.hid hs; clear hs
      have HC := Lib.hid (Nat.le_of_lt hc); clear hc
      have HM := Lib.hid (rmore_any va vb xs ys w HA.out HB.out HX.out HY.out HTX.out HTY.out)
      generalize cmpN (dval xs) (dval ys) = c at *
      go_enter Tryd.func52, Tryd.ntmps52
      go_wp2_with fail
      refine HM.out.mono ?_
      rintro e w' ⟨rfl, hb1⟩
      go_wp2_with fail
      refine (rminus_any vb va ys xs w' (HB.out.below hb1) (HA.out.below hb1) HY.out HX.out HTX.out HC.out hyl).mono ?_
      rintro e w2 ⟨v, ds, rfl, q1, q2, q3, q4, q5⟩
      go_wp2_with fail
      refine bodyPost_ret (v := .tuple #[.bool (!n1), v]) (by simp [results, Tryd.results52, go_sem]) rfl ?_
      exact ⟨!n1, v, ds, rfl, q1, q2, by rw [q4]; exact HSG.out, hb1.trans (q5.mono hb1.size)⟩

/-- A slice of numbers does not lie in a box of a sign and a slice: so it stays while the box is written. -/
theorem give_sl {k : IntKind} {w' : World} {b i j : Nat} {a c : Value} {o : Obj} {v : Value} {rs : List Nat} {n0 : Bool} {a0 : Option Addr} {l0 c0 : Nat} {e : TypeId} (h : Sl k w' v rs) (hr : w'.heap[b]? = some (.cells #[.bool n0, .slice a0 l0 c0] e (0, 0))) :
    Sl k (((w'.alloc o).setCell ⟨b, i, none⟩ a).setCell ⟨b, j, none⟩ c) v rs := by
  obtain ⟨hm, ao, cap, hv, hc, h⟩ := h
  refine ⟨hm, ao, cap, hv, hc, ?_⟩
  rcases h with h | ⟨g, off, ha, hlt, hcell⟩
  · exact .inl h
  · by_cases hne : g = b
    · subst hne
      by_cases h0 : rs = []
      · exact .inr ⟨g, off, ha, by simp; omega, fun j hj => by rw [h0] at hj; simp at hj⟩
      · exfalso
        have hl : 0 < rs.length := List.length_pos_iff.2 h0
        have := hcell 0 hl
        rw [cell_heap hr] at this
        rcases (by omega : off + 0 = 0 ∨ off + 0 = 1 ∨ 2 ≤ off + 0) with e | e | e
        · rw [e] at this; simp at this
        · rw [e] at this; simp at this
        · rw [Array.getElem?_eq_none (by simpa using e)] at this; cases this
    · refine .inr ⟨g, off, ha, by simp; omega, fun j hj => ?_⟩
      rw [cell_other (by simpa using hne), cell_other (by simpa using hne), World.cell?_of_block (w := w') (Below.heap_alloc _ _ _ hlt)]
      exact hcell j hj

set_option maxRecDepth 100000 in
set_option maxHeartbeats 4000000 in
theorem rgive_any (neg : Bool) (v : Value) (ds : List Nat) (w : World) (hs : Sl .u8 w v ds) (hd : Db ds) :
    Calls Tryd.prog 53 #[.bool neg, v] w (ResPost (sg neg (dval ds)) w) := by
  have HS := Lib.hid hs; clear hs
  have HD := Lib.hid hd; clear hd
  go_enter Tryd.func53, Tryd.ntmps53
  go_wp2_with fail
  refine (rmake_any neg v ds _ (HS.out.below (below1 w _)) HD.out).mono ?_
  rintro e w' ⟨v', neg', rs, ok, rfl, ⟨sv, rfl, hsv⟩, hb, hcase⟩
  have HSV := Lib.hid hsv
  obtain ⟨hm, ao, cap, rfl, hcap, hh⟩ := hsv
  clear hm hcap hh
  have HCS := Lib.hid hcase
  have hok : ok = true ∨ ok = false := by rcases hcase with h | h <;> simp [h.1]
  clear hcase
  have hsz : w.heap.size + 1 ≤ w'.heap.size := by have := hb.size; simpa using this
  have HBW := Lib.hid ((below1 w _).trans (hb.mono (by simp)))
  have hr : (w'.alloc (.cells #[.bool neg', .slice ao rs.length cap] 24)).heap[w.heap.size]? = some (.cells #[.bool false, .slice none 0 0] 24 (0, 0)) := by
    rw [Below.heap_alloc _ _ _ (by omega), hb.block _ (by simp)]; exact heap_alloc_new w _
  have hrw : w'.heap[w.heap.size]? = some (.cells #[.bool false, .slice none 0 0] 24 (0, 0)) := by
    rw [hb.block _ (by simp)]; exact heap_alloc_new w _
  have HRW := Lib.hid hrw; clear hrw
  clear hb
  have r0 := cell_heap hr 0
  have r1 := cell_heap hr 1
  have f0 := frozen_heap hr 0
  have f1 := frozen_heap hr 1
  clear hr
  rcases hok with rfl | rfl
  · have hc := HCS.out
    simp only [true_and, Bool.true_eq_false, false_and, or_false] at hc
    have HC := Lib.hid hc; clear hc
    go_wp2_with fail
    refine bodyPost_ret (v := .tuple #[.agg #[.bool neg', .slice ao rs.length cap], .int .i64 0]) (by simp [results, Tryd.results53, go_sem, r0, r1]) rfl ?_
    refine ⟨_, neg', rs, 0, rfl, ⟨_, rfl, ?_⟩, ?_, made_res (.inl ⟨rfl, HC.out⟩)⟩
    · exact give_sl HSV.out HRW.out
    · exact ((HBW.out.alloc (by omega) _).setCell (by simp) _).setCell (by simp) _
  · have hc := HCS.out
    simp only [true_and, Bool.false_eq_true, false_and, false_or] at hc
    have HC := Lib.hid hc; clear hc
    go_wp2_with fail
    refine bodyPost_ret (v := .tuple #[.agg #[.bool false, .slice none 0 0], .int .i64 6]) (by simp [results, Tryd.results53, go_sem, r0, r1]) rfl ?_
    exact ⟨_, false, [], 6, rfl, ⟨_, rfl, Sl.nil _ _⟩, ((HBW.out.alloc (by omega) _).setCell (by simp) _).setCell (by simp) _, made_res (neg := neg) (.inr ⟨rfl, rfl, rfl, HC.out.2.2⟩)⟩
end Go.Proofs.YtiekhjgfnmochaaDoor
