/- A mark's wrap, a rib's; how wraps meet. -/
import Derived.Test.YtoefkhpgabmieaaWpSnd
namespace Go.Proofs.Ytoefkhpgabmieaa
open Go.RowKit

theorem iz_one (w : World) (n : Int) : Iz (w.alloc (.cells #[.int .i64 n] 3)) (.slice (some ⟨w.heap.size, 0, none⟩) 1 1) [n] :=
  Iz.mk rfl (by unfold maxLen; simp) (Nat.le_refl _) (by simp) fun j hj => by
    have : j = 0 := by omega
    subst this
    rw [cell_of_row _ w.heap.size (0 + 0) _ _ (0, 0) (heap_alloc_new w _)]
    simp [gz]
theorem iz_one0 (w : World) (o : Obj) (n : Int) : Iz ((w.alloc o).alloc (.cells #[.int .i64 n] 3)) (.slice (some ⟨w.heap.size + 1, 0, none⟩) 1 1) [n] := by
  have := iz_one (w.alloc o) n
  simpa using this
theorem iz_one1 (w : World) (o c : Obj) (n : Int) : Iz (((w.alloc o).alloc (.cells #[.int .i64 n] 3)).alloc c) (.slice (some ⟨w.heap.size + 1, 0, none⟩) 1 1) [n] := (iz_one0 w o n).below (below1 _ c)
theorem iz_one2 (w : World) (o c : Obj) (n : Int) : Iz (((w.alloc o).alloc c).alloc (.cells #[.int .i64 n] 3)) (.slice (some ⟨w.heap.size + 1 + 1, 0, none⟩) 1 1) [n] := by
  have := iz_one0 (w.alloc o) c n
  simpa using this
/-- What a mark alone, and a rib alone, are. -/
def mrkA (n : Int) : List Int × List Int := if markB n 0 then ([n], [0]) else ([], [])
def ribA (n : Int) : List Int × List Int := if 0 < n then ([], [n]) else ([], [])

set_option maxRecDepth 100000 in
theorem mark_any (n : Int) (w : World) : Calls Try.prog 18 #[.int .i64 n] w fun e w' => (∃ x, e = .returned x ∧ Wr w' x (mrkA n).1 (mrkA n).2) ∧ Below w.heap.size w w' := by
  have HV1 := Lib.hid iz_one
  have HB0 := Lib.hid (below1 w (.cells #[.slice none 0 0, .slice none 0 0] 24))
  cases hmk : markB n 0 with
  | false =>
    have HM : Hid (mrkA n = ([], [])) := Lib.hid (by unfold mrkA; rw [hmk]; rfl)
    go_enter Try.func18, Try.ntmps18
    go_wp2_with fail
    refine (markmay_any n 0 _).mono ?_
    rintro e w2 ⟨rfl, rfl⟩
    rw [hmk]
    clear hmk
    go_wp2_with fail
    refine bodyPost_ret (v := .agg #[.slice none 0 0, .slice none 0 0]) (by simp [results, Try.results18, go_sem]) rfl ?_
    rw [HM.out]
    exact ⟨⟨_, rfl, ⟨_, _, rfl, Iz.nil _, Iz.nil _⟩⟩, HB0.out⟩
  | true =>
    have HM : Hid (mrkA n = ([n], [0])) := Lib.hid (by unfold mrkA; rw [hmk]; rfl)
    go_enter Try.func18, Try.ntmps18
    go_wp2_with fail
    refine (markmay_any n 0 _).mono ?_
    rintro e w2 ⟨rfl, rfl⟩
    rw [hmk]
    clear hmk
    go_wp2_with fail
    refine bodyPost_ret (v := .agg #[.slice (some ⟨w.heap.size + 1, 0, none⟩) 1 1, .slice (some ⟨w.heap.size + 1 + 1, 0, none⟩) 1 1]) (by simp [results, Try.results18, go_sem]) rfl ?_
    rw [HM.out]
    exact ⟨⟨_, rfl, ⟨_, _, rfl, iz_one1 _ _ _ _, iz_one2 _ _ _ _⟩⟩, below3 _ _ _ _⟩

set_option maxRecDepth 100000 in
theorem rib_any (n : Int) (w : World) : Calls Try.prog 19 #[.int .i64 n] w fun e w' => (∃ x, e = .returned x ∧ Wr w' x (ribA n).1 (ribA n).2) ∧ Below w.heap.size w w' := by
  by_cases hn : 0 < n
  · have HM : Hid (ribA n = ([], [n])) := Lib.hid (by unfold ribA; rw [if_pos hn])
    go_enter Try.func19, Try.ntmps19
    go_wp2_with fail
    refine bodyPost_ret (v := .agg #[.slice none 0 0, .slice (some ⟨w.heap.size + 1, 0, none⟩) 1 1]) (by simp [results, Try.results19, go_sem]) rfl ?_
    rw [HM.out]
    exact ⟨⟨_, rfl, ⟨_, _, rfl, Iz.nil _, iz_one0 _ _ _⟩⟩, below2 _ _ _⟩
  · have HM : Hid (ribA n = ([], [])) := Lib.hid (by unfold ribA; rw [if_neg hn])
    go_enter Try.func19, Try.ntmps19
    go_wp2_with fail
    refine bodyPost_ret (v := .agg #[.slice none 0 0, .slice none 0 0]) (by simp [results, Try.results19, go_sem]) rfl ?_
    rw [HM.out]
    exact ⟨⟨_, rfl, ⟨_, _, rfl, Iz.nil _, Iz.nil _⟩⟩, below1 _ _⟩

set_option maxRecDepth 100000 in
theorem begins_any (x : Value) (n t : List Int) (w : World) (hx : Wr w x n t) (hl : n.length ≤ t.length) :
    Calls Try.prog 22 #[x] w fun e w' => e = .returned (.bool (begB n t)) ∧ Below w.heap.size w w' := by
  obtain ⟨mv, sv, rfl, hm, hs⟩ := hx.cells
  obtain ⟨hml, ao, ac, rfl, hac, hmr⟩ := hm.cases
  obtain ⟨hsl, bo, bc, rfl, hbc, hsr⟩ := hs.cases
  unfold maxLen at hml hsl
  obtain ⟨i, hi⟩ : ∃ i, i = n.length := ⟨_, rfl⟩
  obtain ⟨j, hj⟩ : ∃ j, j = t.length := ⟨_, rfl⟩
  rw [← hi, ← hj] at hl
  rw [← hi] at hml hac
  rw [← hj] at hsl hbc
  rw [← hi, ← hj]
  have HI := Lib.hid hi
  clear hm hs hx
  rcases hmr with ⟨h0, _⟩ | ⟨b, off, rfl, hb, hcell⟩
  · have hi0 : i = 0 := by rw [hi, h0]; rfl
    have HV : Hid (begB n t = false) := Lib.hid (by unfold begB; rw [h0]; rfl)
    clear hi hj hsr h0
    subst hi0
    go_enter Try.func22, Try.ntmps22
    go_wp2_with fail
    go_ret
    exact ⟨ret_bl HV.out.symm, below1 _ _⟩
  · by_cases hi0 : i = 0
    · have HV : Hid (begB n t = false) := Lib.hid (by unfold begB; rw [← hi, hi0]; rfl)
      clear hi hj hsr hcell
      subst hi0
      go_enter Try.func22, Try.ntmps22
      go_wp2_with fail
      go_ret
      exact ⟨ret_bl HV.out.symm, below1 _ _⟩
    · rcases hsr with ⟨h0, _⟩ | ⟨c, coff, rfl, hc, hcell2⟩
      · rw [h0] at hj; simp at hj; omega
      · have HV : Hid (begB n t = (decide (gz n 0 = -1) && decide (gz t 0 = 0))) := Lib.hid (by unfold begB; rw [← hi, decide_eq_true (by omega), Bool.true_and])
        have c0 : (w.alloc (.cells #[.slice (some ⟨b, off, none⟩) i ac, .slice (some ⟨c, coff, none⟩) j bc] 24)).cell? ⟨b, off, none⟩ = some (.int .i64 (gz n 0)) := by
          rw [(below1 w _).cell (p := ⟨b, off, none⟩) hb]; exact hcell 0 (by omega)
        have c1 : (w.alloc (.cells #[.slice (some ⟨b, off, none⟩) i ac, .slice (some ⟨c, coff, none⟩) j bc] 24)).cell? ⟨c, coff, none⟩ = some (.int .i64 (gz t 0)) := by
          rw [(below1 w _).cell (p := ⟨c, coff, none⟩) hc]; exact hcell2 0 (by omega)
        have hip : 0 < i := by omega
        have hjp : 0 < j := by omega
        have HB := Lib.hid hb
        have HC := Lib.hid hc
        clear hi hj hcell hcell2 hi0 hb hc
        generalize gz n 0 = g0 at *
        generalize gz t 0 = g1 at *
        go_enter Try.func22, Try.ntmps22
        go_wp2
        all_goals
          go_ret
          refine ⟨ret_bl ?_, below1 _ _⟩
          rw [HV.out, Bool.eq_iff_iff]; simp; try omega
end Go.Proofs.Ytoefkhpgabmieaa
