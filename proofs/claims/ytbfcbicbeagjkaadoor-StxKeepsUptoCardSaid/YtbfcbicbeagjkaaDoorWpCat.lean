/- How wraps meet: does the outer one end with a mark; the wraps without what is taken away. | slices.Grow of nil, slices.Concat of two. -/
import Derived.Test.YtbfcbicbeagjkaaDoorWpSame
import Derived.StillTailTactics
import Derived.Lib.AppendZeros
namespace Go.Proofs.YtbfcbicbeagjkaaDoor
open Go.RowKit

set_option maxRecDepth 100000 in
set_option maxHeartbeats 2000000 in
theorem wends_any (x : Value) (m s : List Int) (w : World) (hx : Wr w x m s) (hl : m.length ≤ s.length) :
    Calls Tryd.prog 34 #[x] w fun e w' => e = .returned (.bool (endB m s)) ∧ Below w.heap.size w w' := by
  obtain ⟨mv, sv, rfl, hm, hs⟩ := hx.cells
  obtain ⟨hml, ao, ac, rfl, hac, hmr⟩ := hm.cases
  obtain ⟨hsl, bo, bc, rfl, hbc, hsr⟩ := hs.cases
  unfold maxLen at hml hsl
  obtain ⟨i, hi⟩ : ∃ i, i = m.length := ⟨_, rfl⟩
  obtain ⟨j, hj⟩ : ∃ j, j = s.length := ⟨_, rfl⟩
  rw [← hi, ← hj] at hl
  rw [← hi] at hml hac
  rw [← hj] at hsl hbc
  rw [← hi, ← hj]
  clear hm hs hx
  by_cases hi0 : i = 0
  · have HV : Hid (endB m s = false) := Lib.hid (by unfold endB; rw [← hi, hi0]; rfl)
    clear hi hj hsr hmr
    subst hi0
    go_enter Tryd.func34, Tryd.ntmps34
    go_wp2_with fail
    go_quiet (fail)
    go_wp2_with fail
    go_ret
    refine ⟨ret_bl HV.out.symm, ?_⟩
    exact below_drewN (below1 _ _) _
  · rcases hmr with ⟨h0, _⟩ | ⟨b, off, rfl, hb, hcell⟩
    · rw [h0] at hi; exact absurd hi hi0
    rcases hsr with ⟨h0, _⟩ | ⟨c, coff, rfl, hc, hcell2⟩
    · rw [h0] at hj; simp at hj; omega
    have HV : Hid (endB m s = (decide (gz m (i - 1) ≠ -1) && decide (gz s (j - 1) = 0))) := Lib.hid (by unfold endB; rw [← hi, ← hj, decide_eq_true (by omega), Bool.true_and])
    have c0 : (w.alloc (.cells #[.slice (some ⟨b, off, none⟩) i ac, .slice (some ⟨c, coff, none⟩) j bc] 30)).cell? ⟨b, off + (i - 1), none⟩ = some (.int .i64 (gz m (i - 1))) := by
      rw [(below1 w _).cell (p := ⟨b, off + (i - 1), none⟩) hb]; exact hcell (i - 1) (by omega)
    have c1 : (w.alloc (.cells #[.slice (some ⟨b, off, none⟩) i ac, .slice (some ⟨c, coff, none⟩) j bc] 30)).cell? ⟨c, coff + (j - 1), none⟩ = some (.int .i64 (gz s (j - 1))) := by
      rw [(below1 w _).cell (p := ⟨c, coff + (j - 1), none⟩) hc]; exact hcell2 (j - 1) (by omega)
    have hip : 0 < i := by omega
    have hjp : 0 < j := by omega
    obtain ⟨i', rfl⟩ : ∃ i', i = i' + 1 := ⟨i - 1, by omega⟩
    obtain ⟨j', rfl⟩ : ∃ j', j = j' + 1 := ⟨j - 1, by omega⟩
    simp only [Nat.add_sub_cancel] at c0 c1 HV
    clear hi hj hcell hcell2 hi0 hb hc
    generalize gz m i' = g0 at *
    generalize gz s j' = g1 at *
    go_enter Tryd.func34, Tryd.ntmps34
    go_wp2_with fail
    go_quiet (fail)
    go_wp2_with fail
    all_goals
      go_ret
      refine ⟨ret_bl ?_, below_drewN (below1 _ _) _⟩
      rw [HV.out, Bool.eq_iff_iff]; simp; try omega

set_option maxRecDepth 100000 in
set_option maxHeartbeats 2000000 in
theorem withoutlast_any (x : Value) (m s : List Int) (w : World) (hx : Wr w x m s) (hm0 : 0 < m.length) (hl : m.length ≤ s.length) :
    Calls Tryd.prog 36 #[x] w fun e w' => (∃ y, e = .returned y ∧ Wr w' y m.dropLast s.dropLast) ∧ Below w.heap.size w w' := by
  obtain ⟨mv, sv, rfl, hm, hs⟩ := hx.cells
  obtain ⟨hml, ao, ac, rfl, hac, hmr⟩ := hm.cases
  obtain ⟨hsl, bo, bc, rfl, hbc, hsr⟩ := hs.cases
  rcases hmr with ⟨h0, _⟩ | ⟨b, off, rfl, hb, hcell⟩
  · rw [h0] at hm0; simp at hm0
  rcases hsr with ⟨h0, _⟩ | ⟨c, coff, rfl, hc, hcell2⟩
  · rw [h0] at hl; simp at hl; rw [hl] at hm0; simp at hm0
  have HM := Lib.hid hm.init
  have HS := Lib.hid hs.init
  unfold maxLen at hml hsl
  obtain ⟨i, hi⟩ : ∃ i, i = m.length := ⟨_, rfl⟩
  obtain ⟨j, hj⟩ : ∃ j, j = s.length := ⟨_, rfl⟩
  rw [← hi] at hml hac HM hm0 hl
  rw [← hj] at hsl hbc HS hl
  rw [← hi, ← hj]
  clear hi hj hm hs hx hcell hcell2 hb hc
  obtain ⟨i', rfl⟩ : ∃ i', i = i' + 1 := ⟨i - 1, by omega⟩
  obtain ⟨j', rfl⟩ : ∃ j', j = j' + 1 := ⟨j - 1, by omega⟩
  simp only [Nat.add_sub_cancel] at HM HS
  have hw1 : ((i' + 1 : Nat) : Int) - 1 = (i' : Nat) := by omega
  have hw2 : ((j' + 1 : Nat) : Int) - 1 = (j' : Nat) := by omega
  go_enter Tryd.func36, Tryd.ntmps36
  go_wp2_with fail
  go_region
  go_wp2_with fail
  refine bodyPost_ret (v := .agg #[.slice (some ⟨b, off, none⟩) i' ac, .slice (some ⟨c, coff, none⟩) j' bc]) (by simp [results, Tryd.results36, go_sem]) rfl ?_
  have hb := below2 w (.cells #[.slice (some ⟨b, off, none⟩) (i' + 1) ac, .slice (some ⟨c, coff, none⟩) (j' + 1) bc] 30) (.cells #[.slice (some ⟨b, off, none⟩) i' ac, .slice (some ⟨c, coff, none⟩) j' bc] 30)
  exact ⟨⟨_, rfl, ⟨_, _, rfl, HM.out.below hb.drew, HS.out.below hb.drew⟩⟩, hb.drew⟩

/-- A slice without its first one, wherever it may lie then. -/
theorem Iz.rest' {w : World} {b off n cap : Nat} {zs : List Int} (h : Iz w (.slice (some ⟨b, off, none⟩) (n + 1) cap) zs) : (cap = 1 ∧ n = 0 ∧ Iz w (.slice (some ⟨b, off, none⟩) n 0) zs.tail) ∨ (1 < cap ∧ Iz w (.slice (some ⟨b, off + 1, none⟩) n (cap - 1)) zs.tail) := by
  have hr := h.rest (by omega)
  obtain ⟨_, ao, cap2, hv, hc, _⟩ := h.cases
  injection hv with e1 e2 e3
  subst e1 e3
  rw [Nat.add_sub_cancel] at hr
  by_cases h1 : cap = 1
  · subst h1
    have : n = 0 := by omega
    subst this
    refine .inl ⟨rfl, rfl, ?_⟩
    obtain ⟨_, _, _, hv, _, hh⟩ := hr.cases
    injection hv with _ e2 _
    have h0 : zs.tail = [] := List.eq_nil_of_length_eq_zero (by omega)
    rw [h0]
    exact Iz.empty _ _ _
  · exact .inr ⟨by omega, hr⟩

set_option maxRecDepth 100000 in
set_option maxHeartbeats 2000000 in
theorem withoutfirst_any (x : Value) (m s : List Int) (w : World) (hx : Wr w x m s) (hm0 : 0 < m.length) (hl : m.length ≤ s.length) :
    Calls Tryd.prog 37 #[x] w fun e w' => (∃ y, e = .returned y ∧ Wr w' y m.tail s.tail) ∧ Below w.heap.size w w' := by
  obtain ⟨mv, sv, rfl, hm, hs⟩ := hx.cells
  obtain ⟨hml, ao, ac, rfl, hac, hmr⟩ := hm.cases
  obtain ⟨hsl, bo, bc, rfl, hbc, hsr⟩ := hs.cases
  rcases hmr with ⟨h0, _⟩ | ⟨b, off, rfl, hb, hcell⟩
  · rw [h0] at hm0; simp at hm0
  rcases hsr with ⟨h0, _⟩ | ⟨c, coff, rfl, hc, hcell2⟩
  · rw [h0] at hl; simp at hl; rw [hl] at hm0; simp at hm0
  obtain ⟨i, hi⟩ : ∃ i, i + 1 = m.length := ⟨m.length - 1, by omega⟩
  obtain ⟨j, hj⟩ : ∃ j, j + 1 = s.length := ⟨s.length - 1, by omega⟩
  rw [← hi] at hm hml hac
  rw [← hj] at hs hsl hbc
  rw [← hi, ← hj]
  have HM := hm.rest'
  have HS := hs.rest'
  unfold maxLen at hml hsl
  have hbb := fun a b => below2 w a b
  have HBB := Lib.hid hbb
  clear hi hj hm hs hx hcell hcell2 hb hc hm0 hl hbb
  rcases HM with ⟨rfl, rfl, hM⟩ | ⟨h1, hM⟩ <;> rcases HS with ⟨rfl, rfl, hS⟩ | ⟨h2, hS⟩
  all_goals
    have HM := Lib.hid hM
    have HS := Lib.hid hS
    clear hM hS
    go_enter Tryd.func37, Tryd.ntmps37
    go_wp2_with fail
    go_region
    go_wp2_with fail
    refine bodyPost_ret (v := .agg #[_, _]) (by simp [results, Tryd.results37, go_sem]; exact ⟨rfl, rfl⟩) rfl ?_
    exact ⟨⟨_, rfl, ⟨_, _, rfl, HM.out.below (HBB.out _ _).drew, HS.out.below (HBB.out _ _).drew⟩⟩, (HBB.out _ _).drew⟩
end Go.Proofs.YtbfcbicbeagjkaaDoor
namespace Go.Proofs.YtbfcbicbeagjkaaDoor
open Go.RowKit

theorem infoIntW : (Tryd.prog.info? 3).map (fun i => (i.zero, i.size, i.bytes)) = some (some (.int .i64 0), 1, 8) := by kernel_rfl

set_option maxRecDepth 100000 in
set_option maxHeartbeats 2000000 in
theorem grow_any (n : Nat) (w : World) (hn : n ≤ 1000000) :
    Calls Tryd.prog 58 #[.slice none 0 0, .int .i64 (n : Nat)] w fun e w' => (∃ v, e = .returned v ∧ w'.ownsRow w.heap.size 3 1 v 0 []) ∧ Below w.heap.size w w' := by
  obtain ⟨i0, hi, hz0, hz1, hz2⟩ := info_parts infoIntW
  by_cases h0 : n = 0
  · subst h0
    go_enter Tryd.func58, Tryd.ntmps58
    go_wp2_with fail
    go_ret
    exact ⟨⟨_, rfl, World.ownsRow_nil _ _ _ _⟩, Below.refl _ _⟩
  · have happ := Lib.run_append_nil_zeros (P := Tryd.prog) w 26 3 26 3 i0 (.int .i64 0) .i64 .i64 Tryd.underlying26 Tryd.underlying3 hi hz0 n (by omega) (by omega) (by omega) (by rw [hz2]; omega)
    generalize hcap : grownCap w n 0 3 = cap2 at happ
    have hcapge : n ≤ cap2 := by rw [← hcap]; exact grownCap_ge w _ 0 3
    have hcaple : cap2 ≤ maxLen := by rw [← hcap]; exact grownCap_le_maxLen w _ 0 3 (by unfold maxLen; omega)
    generalize hZ : (Builtin.zeroCells (Value.int .i64 0).cells n ++ Builtin.zeroCells (Value.int .i64 0).cells (cap2 - n)) = Z at happ
    have hZs : Z.size = cap2 := by rw [← hZ]; simp [size_zeroCells, Value.cells]; omega
    have HZ := Lib.hid hZs
    have HCM := Lib.hid hcaple
    clear hcap hZ hZs hcaple hz0 hz1 hz2
    have hn0 : 0 < n := by omega
    go_enter Tryd.func58, Tryd.ntmps58
    go_wp2_with (at_builtin; refine Lib.wpList_append_run _ rfl _ _ _ _ rfl _ _ rfl rfl _ _ happ ?_)
    go_ret
    refine ⟨⟨_, rfl, ?_⟩, ?_⟩
    · refine ⟨rfl, .inr ⟨w.heap.size, cap2, Z, rfl, Nat.le_refl _, heap_alloc_new w.drew _, Nat.zero_le _, HCM.out, ?_, ?_⟩⟩
      · rw [HZ.out, Nat.mul_one]
      · simp
    · exact (Below.refl _ w).drew.alloc (Nat.le_refl _) _

set_option maxRecDepth 100000 in
set_option maxHeartbeats 4000000 in
theorem concatO_any (g : Nat) (va vb : Value) (a b : List Int) (e0 : TypeId) (w : World) (hg : w.heap[g]? = some (.cells #[va, vb] e0 (0, 0))) (ha : Iz w va a) (hb : Iz w vb b) (hal : a.length ≤ 10000) (hbl : b.length ≤ 10000) :
    Calls Tryd.prog 51 #[.slice (some ⟨g, 0, none⟩) 2 2] w fun e w' => (∃ v, e = .returned v ∧ w'.ownsRow w.heap.size 3 1 v (a ++ b).length (ic (a ++ b))) ∧ Below w.heap.size w w' := by
  obtain ⟨i0, hi, hz0, hz1, hz2⟩ := info_parts infoIntW
  have HI := Lib.hid (And.intro hi (And.intro hz0 (And.intro hz1 hz2)))
  clear hi hz0 hz1 hz2
  have HA := Lib.hid ha
  have HB := Lib.hid hb
  obtain ⟨_, ao, ac, rfl, hac, _⟩ := ha.cases
  obtain ⟨_, bo, bc, rfl, hbc, _⟩ := hb.cases
  obtain ⟨i, hin⟩ : ∃ i, i = a.length := ⟨_, rfl⟩
  obtain ⟨j, hjn⟩ : ∃ j, j = b.length := ⟨_, rfl⟩
  rw [← hin] at hg hal hac HA
  rw [← hjn] at hg hbl hbc HB
  have HIN := Lib.hid hin
  have HJN := Lib.hid hjn
  have HG := Lib.hid hg
  clear ha hb hin hjn
  have c0 := cell_heap hg 0
  have c1 := cell_heap hg 1
  simp at c0 c1
  clear hg
  have hgl : g < w.heap.size := (Array.getElem?_eq_some_iff.1 HG.out).1
  have HGL := Lib.hid hgl
  clear hgl
  go_enter Tryd.func51, Tryd.ntmps51
  go_wp2_with fail
  refine wp_loop_rounds 3 ?_
  rw [rounds_succ]
  go_wp2_with fail
  rw [rounds_succ]
  go_wp2_with fail
  rw [rounds_succ]
  go_wp2_with fail
  rw [show ((i : Nat) : Int) + ((j : Nat) : Int) = ((i + j : Nat) : Int) by omega]
  refine (grow_any (i + j) w (by omega)).mono ?_
  rintro e w1 ⟨⟨v, rfl, hown⟩, hb1⟩
  have HO1 := Lib.hid hown
  have HB1 := Lib.hid hb1
  have HG1 := Lib.hid ((hb1.block _ HGL.out).trans HG.out)
  obtain ⟨vo, vc, rfl⟩ := own_dslice hown
  clear hown hb1 c0 c1
  have c0 := cell_heap HG1.out 0
  have c1 := cell_heap HG1.out 1
  simp at c0 c1
  go_wp2_with fail
  refine wp_loop_rounds 3 ?_
  rw [rounds_succ]
  obtain ⟨hi, hz0, hz1, hz2⟩ := HI.out
  have HRA : Hid (RowV w1 (.slice ao i ac) i 1 (ic a)) := Lib.hid (by have := HA.out.below HB1.out; unfold Iz at this; rw [← HIN.out] at this; exact this)
  go_wp2_with (at_builtin; go_loud (refine wpList_append_row _ rfl _ _ 26 rfl w.heap.size 3 i0 (.int .i64 0) 1 8 Tryd.underlying26 hi hz0 hz1 hz2 rfl (by decide) _ 0 [] rfl HO1.out _ i (ic a) rfl HRA.out (ic_one a) (by unfold maxLen; omega) (by omega) HB1.out.size ?_); go_loud (intro v2 w2 hown2 hgrow2 hmv2; rw [Nat.zero_add, List.nil_append] at hown2; obtain ⟨vo2, vc2, rfl⟩ := own_dslice hown2; have HO2 := Lib.hid hown2; have HB2 : Hid (Below w.heap.size w w2) := Lib.hid (HB1.out.grown hgrow2 HB1.out.size (fun q hq => (HO1.out.lt q hq).1)); clear hown2 hgrow2 hmv2))
  have HG2 := Lib.hid ((HB2.out.block _ HGL.out).trans HG.out)
  clear c0 c1
  have c0 := cell_heap HG2.out 0
  have c1 := cell_heap HG2.out 1
  simp at c0 c1
  have HRB : Hid (RowV w2 (.slice bo j bc) j 1 (ic b)) := Lib.hid (by have := HB.out.below HB2.out; unfold Iz at this; rw [← HJN.out] at this; exact this)
  rw [rounds_succ]
  go_wp2_with (at_builtin; go_loud (refine wpList_append_row _ rfl _ _ 26 rfl w.heap.size 3 i0 (.int .i64 0) 1 8 Tryd.underlying26 hi hz0 hz1 hz2 rfl (by decide) _ i (ic a) rfl HO2.out _ j (ic b) rfl HRB.out (ic_one b) (by unfold maxLen; omega) (by omega) HB2.out.size ?_); go_loud (intro v3 w3 hown3 hgrow3 hmv3; rw [← ic_app] at hown3; obtain ⟨vo3, vc3, rfl⟩ := own_dslice hown3; have HO3 := Lib.hid hown3; have HB3 : Hid (Below w.heap.size w w3) := Lib.hid (HB2.out.grown hgrow3 HB2.out.size (fun q hq => (HO2.out.lt q hq).1)); clear hown3 hgrow3 hmv3))
  clear c0 c1
  rw [rounds_succ]
  go_wp2_with fail
  go_ret
  have hl : (a ++ b).length = i + j := by rw [HIN.out, HJN.out, List.length_append]
  exact ⟨⟨_, rfl, by rw [hl]; exact HO3.out⟩, HB3.out⟩
end Go.Proofs.YtbfcbicbeagjkaaDoor
