/- slices.Grow of nil, slices.Concat of two. -/
import Derived.Test.YtegengnffdlplaaDoorWpCut
import Derived.Lib.AppendZeros
namespace Go.Proofs.YtegengnffdlplaaDoor
open Go.RowKit

theorem infoIntW : (Tryd.prog.info? 3).map (fun i => (i.zero, i.size, i.bytes)) = some (some (.int .i64 0), 1, 8) := by kernel_rfl

set_option maxRecDepth 100000 in
set_option maxHeartbeats 2000000 in
theorem grow_any (n : Nat) (w : World) (hn : n ≤ 1000000) :
    Calls Tryd.prog 71 #[.slice none 0 0, .int .i64 (n : Nat)] w fun e w' => (∃ v, e = .returned v ∧ w'.ownsRow w.heap.size 3 1 v 0 []) ∧ Below w.heap.size w w' := by
  obtain ⟨i0, hi, hz0, hz1, hz2⟩ := info_parts infoIntW
  by_cases h0 : n = 0
  · subst h0
    go_enter Tryd.func71, Tryd.ntmps71
    go_wp2_with fail
    go_ret
    exact ⟨⟨_, rfl, World.ownsRow_nil _ _ _ _⟩, Below.refl _ _⟩
  · have happ := Lib.run_append_nil_zeros (P := Tryd.prog) w 33 3 33 3 i0 (.int .i64 0) .i64 .i64 Tryd.underlying33 Tryd.underlying3 hi hz0 n (by omega) (by omega) (by omega) (by rw [hz2]; omega)
    generalize hcap : grownCap w n 0 3 = cap2 at happ
    have hcapge : n ≤ cap2 := by rw [← hcap]; exact grownCap_ge w _ 0 3
    have hcaple : cap2 ≤ maxLen := by rw [← hcap]; exact grownCap_le_maxLen w _ 0 3 (by unfold maxLen; omega)
    generalize hZ : (Builtin.zeroCells (Value.int .i64 0).cells n ++ Builtin.zeroCells (Value.int .i64 0).cells (cap2 - n)) = Z at happ
    have hZs : Z.size = cap2 := by rw [← hZ]; simp [size_zeroCells, Value.cells]; omega
    have HZ := Lib.hid hZs
    have HCM := Lib.hid hcaple
    clear hcap hZ hZs hcaple hz0 hz1 hz2
    have hn0 : 0 < n := by omega
    go_enter Tryd.func71, Tryd.ntmps71
    go_wp2_with (at_builtin; refine Lib.wpList_append_run _ rfl _ _ _ _ rfl _ _ rfl rfl _ _ happ ?_)
    go_ret
    refine ⟨⟨_, rfl, ?_⟩, ?_⟩
    · refine ⟨rfl, .inr ⟨w.heap.size, cap2, Z, rfl, Nat.le_refl _, heap_alloc_new w.drew _, Nat.zero_le _, HCM.out, ?_, ?_⟩⟩
      · rw [HZ.out, Nat.mul_one]
      · simp
    · exact (Below.refl _ w).drew.alloc (Nat.le_refl _) _

set_option maxRecDepth 100000 in
set_option maxHeartbeats 4000000 in
theorem concat_any (g : Nat) (va vb : Value) (a b : List Int) (e0 : TypeId) (w : World) (hg : w.heap[g]? = some (.cells #[va, vb] e0 (0, 0))) (ha : Iz w va a) (hb : Iz w vb b) (hal : a.length ≤ 10000) (hbl : b.length ≤ 10000) :
    Calls Tryd.prog 65 #[.slice (some ⟨g, 0, none⟩) 2 2] w fun e w' => (∃ v, e = .returned v ∧ Iz w' v (a ++ b)) ∧ Below w.heap.size w w' := by
  obtain ⟨i0, hi, hz0, hz1, hz2⟩ := info_parts infoIntW
  have HI := Lib.hid (And.intro hi (And.intro hz0 (And.intro hz1 hz2)))
  clear hi hz0 hz1 hz2
  have HA := Lib.hid ha
  have HB := Lib.hid hb
  obtain ⟨_, ao, ac, rfl, hac, _⟩ := ha.cases
  obtain ⟨_, bo, bc, rfl, hbc, _⟩ := hb.cases
  obtain ⟨i, hin⟩ : ∃ i, i = a.length := ⟨_, rfl⟩
  obtain ⟨j, hjn⟩ : ∃ j, j = b.length := ⟨_, rfl⟩
  rw [← hin] at hg hal hac HA
  rw [← hjn] at hg hbl hbc HB
  have HIN := Lib.hid hin
  have HJN := Lib.hid hjn
  have HG := Lib.hid hg
  clear ha hb hin hjn
  have c0 := cell_heap hg 0
  have c1 := cell_heap hg 1
  simp at c0 c1
  clear hg
  have hgl : g < w.heap.size := (Array.getElem?_eq_some_iff.1 HG.out).1
  have HGL := Lib.hid hgl
  clear hgl
  go_enter Tryd.func65, Tryd.ntmps65
  go_wp2_with fail
  refine wp_loop_rounds 3 ?_
  rw [rounds_succ]
  go_wp2_with fail
  rw [rounds_succ]
  go_wp2_with fail
  rw [rounds_succ]
  go_wp2_with fail
  rw [show ((i : Nat) : Int) + ((j : Nat) : Int) = ((i + j : Nat) : Int) by omega]
  refine (grow_any (i + j) w (by omega)).mono ?_
  rintro e w1 ⟨⟨v, rfl, hown⟩, hb1⟩
  have HO1 := Lib.hid hown
  have HB1 := Lib.hid hb1
  have HG1 := Lib.hid ((hb1.block _ HGL.out).trans HG.out)
  obtain ⟨vo, vc, rfl⟩ := own_dslice hown
  clear hown hb1 c0 c1
  have c0 := cell_heap HG1.out 0
  have c1 := cell_heap HG1.out 1
  simp at c0 c1
  go_wp2_with fail
  refine wp_loop_rounds 3 ?_
  rw [rounds_succ]
  obtain ⟨hi, hz0, hz1, hz2⟩ := HI.out
  have HRA : Hid (RowV w1 (.slice ao i ac) i 1 (ic a)) := Lib.hid (by have := HA.out.below HB1.out; unfold Iz at this; rw [← HIN.out] at this; exact this)
  go_wp2_with (at_builtin; go_loud (refine wpList_append_row _ rfl _ _ 33 rfl w.heap.size 3 i0 (.int .i64 0) 1 8 Tryd.underlying33 hi hz0 hz1 hz2 rfl (by decide) _ 0 [] rfl HO1.out _ i (ic a) rfl HRA.out (ic_one a) (by unfold maxLen; omega) (by omega) HB1.out.size ?_); go_loud (intro v2 w2 hown2 hgrow2 hmv2; rw [Nat.zero_add, List.nil_append] at hown2; obtain ⟨vo2, vc2, rfl⟩ := own_dslice hown2; have HO2 := Lib.hid hown2; have HB2 : Hid (Below w.heap.size w w2) := Lib.hid (HB1.out.grown hgrow2 HB1.out.size (fun q hq => (HO1.out.lt q hq).1)); clear hown2 hgrow2 hmv2))
  have HG2 := Lib.hid ((HB2.out.block _ HGL.out).trans HG.out)
  clear c0 c1
  have c0 := cell_heap HG2.out 0
  have c1 := cell_heap HG2.out 1
  simp at c0 c1
  have HRB : Hid (RowV w2 (.slice bo j bc) j 1 (ic b)) := Lib.hid (by have := HB.out.below HB2.out; unfold Iz at this; rw [← HJN.out] at this; exact this)
  rw [rounds_succ]
  go_wp2_with (at_builtin; go_loud (refine wpList_append_row _ rfl _ _ 33 rfl w.heap.size 3 i0 (.int .i64 0) 1 8 Tryd.underlying33 hi hz0 hz1 hz2 rfl (by decide) _ i (ic a) rfl HO2.out _ j (ic b) rfl HRB.out (ic_one b) (by unfold maxLen; omega) (by omega) HB2.out.size ?_); go_loud (intro v3 w3 hown3 hgrow3 hmv3; rw [← ic_app] at hown3; obtain ⟨vo3, vc3, rfl⟩ := own_dslice hown3; have HO3 := Lib.hid hown3; have HB3 : Hid (Below w.heap.size w w3) := Lib.hid (HB2.out.grown hgrow3 HB2.out.size (fun q hq => (HO2.out.lt q hq).1)); clear hown3 hgrow3 hmv3))
  clear c0 c1
  rw [rounds_succ]
  go_wp2_with fail
  go_ret
  exact ⟨⟨_, rfl, Iz.of_own HO3.out⟩, HB3.out⟩
end Go.Proofs.YtegengnffdlplaaDoor
