/- How wraps meet: does the outer one end with a mark; the wraps without what is taken away. -/
import Derived.Test.YtegengnffdlplaaDoorWpSame
import Derived.StillTailTactics
namespace Go.Proofs.YtegengnffdlplaaDoor
open Go.RowKit

set_option maxRecDepth 100000 in
set_option maxHeartbeats 2000000 in
theorem wends_any (x : Value) (m s : List Int) (w : World) (hx : Wr w x m s) (hl : m.length ≤ s.length) :
    Calls Tryd.prog 54 #[x] w fun e w' => e = .returned (.bool (endB m s)) ∧ Below w.heap.size w w' := by
  obtain ⟨mv, sv, rfl, hm, hs⟩ := hx.cells
  obtain ⟨hml, ao, ac, rfl, hac, hmr⟩ := hm.cases
  obtain ⟨hsl, bo, bc, rfl, hbc, hsr⟩ := hs.cases
  unfold maxLen at hml hsl
  obtain ⟨i, hi⟩ : ∃ i, i = m.length := ⟨_, rfl⟩
  obtain ⟨j, hj⟩ : ∃ j, j = s.length := ⟨_, rfl⟩
  rw [← hi, ← hj] at hl
  rw [← hi] at hml hac
  rw [← hj] at hsl hbc
  rw [← hi, ← hj]
  clear hm hs hx
  by_cases hi0 : i = 0
  · have HV : Hid (endB m s = false) := Lib.hid (by unfold endB; rw [← hi, hi0]; rfl)
    clear hi hj hsr hmr
    subst hi0
    go_enter Tryd.func54, Tryd.ntmps54
    go_wp2_with fail
    go_quiet (fail)
    go_wp2_with fail
    go_ret
    refine ⟨ret_bl HV.out.symm, ?_⟩
    exact below_drewN (below1 _ _) _
  · rcases hmr with ⟨h0, _⟩ | ⟨b, off, rfl, hb, hcell⟩
    · rw [h0] at hi; exact absurd hi hi0
    rcases hsr with ⟨h0, _⟩ | ⟨c, coff, rfl, hc, hcell2⟩
    · rw [h0] at hj; simp at hj; omega
    have HV : Hid (endB m s = (decide (gz m (i - 1) ≠ -1) && decide (gz s (j - 1) = 0))) := Lib.hid (by unfold endB; rw [← hi, ← hj, decide_eq_true (by omega), Bool.true_and])
    have c0 : (w.alloc (.cells #[.slice (some ⟨b, off, none⟩) i ac, .slice (some ⟨c, coff, none⟩) j bc] 71)).cell? ⟨b, off + (i - 1), none⟩ = some (.int .i64 (gz m (i - 1))) := by
      rw [(below1 w _).cell (p := ⟨b, off + (i - 1), none⟩) hb]; exact hcell (i - 1) (by omega)
    have c1 : (w.alloc (.cells #[.slice (some ⟨b, off, none⟩) i ac, .slice (some ⟨c, coff, none⟩) j bc] 71)).cell? ⟨c, coff + (j - 1), none⟩ = some (.int .i64 (gz s (j - 1))) := by
      rw [(below1 w _).cell (p := ⟨c, coff + (j - 1), none⟩) hc]; exact hcell2 (j - 1) (by omega)
    have hip : 0 < i := by omega
    have hjp : 0 < j := by omega
    obtain ⟨i', rfl⟩ : ∃ i', i = i' + 1 := ⟨i - 1, by omega⟩
    obtain ⟨j', rfl⟩ : ∃ j', j = j' + 1 := ⟨j - 1, by omega⟩
    simp only [Nat.add_sub_cancel] at c0 c1 HV
    clear hi hj hcell hcell2 hi0 hb hc
    generalize gz m i' = g0 at *
    generalize gz s j' = g1 at *
    go_enter Tryd.func54, Tryd.ntmps54
    go_wp2_with fail
    go_quiet (fail)
    go_wp2_with fail
    all_goals
      go_ret
      refine ⟨ret_bl ?_, below_drewN (below1 _ _) _⟩
      rw [HV.out, Bool.eq_iff_iff]; simp; try omega

set_option maxRecDepth 100000 in
set_option maxHeartbeats 2000000 in
theorem withoutlast_any (x : Value) (m s : List Int) (w : World) (hx : Wr w x m s) (hm0 : 0 < m.length) (hl : m.length ≤ s.length) :
    Calls Tryd.prog 56 #[x] w fun e w' => (∃ y, e = .returned y ∧ Wr w' y m.dropLast s.dropLast) ∧ Below w.heap.size w w' := by
  obtain ⟨mv, sv, rfl, hm, hs⟩ := hx.cells
  obtain ⟨hml, ao, ac, rfl, hac, hmr⟩ := hm.cases
  obtain ⟨hsl, bo, bc, rfl, hbc, hsr⟩ := hs.cases
  rcases hmr with ⟨h0, _⟩ | ⟨b, off, rfl, hb, hcell⟩
  · rw [h0] at hm0; simp at hm0
  rcases hsr with ⟨h0, _⟩ | ⟨c, coff, rfl, hc, hcell2⟩
  · rw [h0] at hl; simp at hl; rw [hl] at hm0; simp at hm0
  have HM := Lib.hid hm.init
  have HS := Lib.hid hs.init
  unfold maxLen at hml hsl
  obtain ⟨i, hi⟩ : ∃ i, i = m.length := ⟨_, rfl⟩
  obtain ⟨j, hj⟩ : ∃ j, j = s.length := ⟨_, rfl⟩
  rw [← hi] at hml hac HM hm0 hl
  rw [← hj] at hsl hbc HS hl
  rw [← hi, ← hj]
  clear hi hj hm hs hx hcell hcell2 hb hc
  obtain ⟨i', rfl⟩ : ∃ i', i = i' + 1 := ⟨i - 1, by omega⟩
  obtain ⟨j', rfl⟩ : ∃ j', j = j' + 1 := ⟨j - 1, by omega⟩
  simp only [Nat.add_sub_cancel] at HM HS
  have hw1 : ((i' + 1 : Nat) : Int) - 1 = (i' : Nat) := by omega
  have hw2 : ((j' + 1 : Nat) : Int) - 1 = (j' : Nat) := by omega
  go_enter Tryd.func56, Tryd.ntmps56
  go_wp2_with fail
  go_region
  go_wp2_with fail
  refine bodyPost_ret (v := .agg #[.slice (some ⟨b, off, none⟩) i' ac, .slice (some ⟨c, coff, none⟩) j' bc]) (by simp [results, Tryd.results56, go_sem]) rfl ?_
  have hb := below2 w (.cells #[.slice (some ⟨b, off, none⟩) (i' + 1) ac, .slice (some ⟨c, coff, none⟩) (j' + 1) bc] 71) (.cells #[.slice (some ⟨b, off, none⟩) i' ac, .slice (some ⟨c, coff, none⟩) j' bc] 71)
  exact ⟨⟨_, rfl, ⟨_, _, rfl, HM.out.below hb.drew, HS.out.below hb.drew⟩⟩, hb.drew⟩

/-- A slice without its first one, wherever it may lie then. -/
theorem Iz.rest' {w : World} {b off n cap : Nat} {zs : List Int} (h : Iz w (.slice (some ⟨b, off, none⟩) (n + 1) cap) zs) : (cap = 1 ∧ n = 0 ∧ Iz w (.slice (some ⟨b, off, none⟩) n 0) zs.tail) ∨ (1 < cap ∧ Iz w (.slice (some ⟨b, off + 1, none⟩) n (cap - 1)) zs.tail) := by
  have hr := h.rest (by omega)
  obtain ⟨_, ao, cap2, hv, hc, _⟩ := h.cases
  injection hv with e1 e2 e3
  subst e1 e3
  rw [Nat.add_sub_cancel] at hr
  by_cases h1 : cap = 1
  · subst h1
    have : n = 0 := by omega
    subst this
    refine .inl ⟨rfl, rfl, ?_⟩
    obtain ⟨_, _, _, hv, _, hh⟩ := hr.cases
    injection hv with _ e2 _
    have h0 : zs.tail = [] := List.eq_nil_of_length_eq_zero (by omega)
    rw [h0]
    exact Iz.empty _ _ _
  · exact .inr ⟨by omega, hr⟩

set_option maxRecDepth 100000 in
set_option maxHeartbeats 2000000 in
theorem withoutfirst_any (x : Value) (m s : List Int) (w : World) (hx : Wr w x m s) (hm0 : 0 < m.length) (hl : m.length ≤ s.length) :
    Calls Tryd.prog 57 #[x] w fun e w' => (∃ y, e = .returned y ∧ Wr w' y m.tail s.tail) ∧ Below w.heap.size w w' := by
  obtain ⟨mv, sv, rfl, hm, hs⟩ := hx.cells
  obtain ⟨hml, ao, ac, rfl, hac, hmr⟩ := hm.cases
  obtain ⟨hsl, bo, bc, rfl, hbc, hsr⟩ := hs.cases
  rcases hmr with ⟨h0, _⟩ | ⟨b, off, rfl, hb, hcell⟩
  · rw [h0] at hm0; simp at hm0
  rcases hsr with ⟨h0, _⟩ | ⟨c, coff, rfl, hc, hcell2⟩
  · rw [h0] at hl; simp at hl; rw [hl] at hm0; simp at hm0
  obtain ⟨i, hi⟩ : ∃ i, i + 1 = m.length := ⟨m.length - 1, by omega⟩
  obtain ⟨j, hj⟩ : ∃ j, j + 1 = s.length := ⟨s.length - 1, by omega⟩
  rw [← hi] at hm hml hac
  rw [← hj] at hs hsl hbc
  rw [← hi, ← hj]
  have HM := hm.rest'
  have HS := hs.rest'
  unfold maxLen at hml hsl
  have hbb := fun a b => below2 w a b
  have HBB := Lib.hid hbb
  clear hi hj hm hs hx hcell hcell2 hb hc hm0 hl hbb
  rcases HM with ⟨rfl, rfl, hM⟩ | ⟨h1, hM⟩ <;> rcases HS with ⟨rfl, rfl, hS⟩ | ⟨h2, hS⟩
  all_goals
    have HM := Lib.hid hM
    have HS := Lib.hid hS
    clear hM hS
    go_enter Tryd.func57, Tryd.ntmps57
    go_wp2_with fail
    go_region
    go_wp2_with fail
    refine bodyPost_ret (v := .agg #[_, _]) (by simp [results, Tryd.results57, go_sem]; exact ⟨rfl, rfl⟩) rfl ?_
    exact ⟨⟨_, rfl, ⟨_, _, rfl, HM.out.below (HBB.out _ _).drew, HS.out.below (HBB.out _ _).drew⟩⟩, (HBB.out _ _).drew⟩
end Go.Proofs.YtegengnffdlplaaDoor
