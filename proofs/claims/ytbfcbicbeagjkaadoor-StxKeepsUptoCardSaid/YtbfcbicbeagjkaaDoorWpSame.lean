/- A mark's wrap, a rib's; how wraps meet. | Are two rows of ints the same: the document's SameInts, slices.Equal; wrap.Same, law09's same. -/
import Derived.Test.YtbfcbicbeagjkaaDoorWpSnd
namespace Go.Proofs.YtbfcbicbeagjkaaDoor
open Go.RowKit

theorem iz_one (w : World) (n : Int) : Iz (w.alloc (.cells #[.int .i64 n] 3)) (.slice (some ⟨w.heap.size, 0, none⟩) 1 1) [n] :=
  Iz.mk rfl (by unfold maxLen; simp) (Nat.le_refl _) (by simp) fun j hj => by
    have : j = 0 := by omega
    subst this
    rw [cell_of_row _ w.heap.size (0 + 0) _ _ (0, 0) (heap_alloc_new w _)]
    simp [gz]
theorem iz_one0 (w : World) (o : Obj) (n : Int) : Iz ((w.alloc o).alloc (.cells #[.int .i64 n] 3)) (.slice (some ⟨w.heap.size + 1, 0, none⟩) 1 1) [n] := by
  have := iz_one (w.alloc o) n
  simpa using this
theorem iz_one1 (w : World) (o c : Obj) (n : Int) : Iz (((w.alloc o).alloc (.cells #[.int .i64 n] 3)).alloc c) (.slice (some ⟨w.heap.size + 1, 0, none⟩) 1 1) [n] := (iz_one0 w o n).below (below1 _ c)
theorem iz_one2 (w : World) (o c : Obj) (n : Int) : Iz (((w.alloc o).alloc c).alloc (.cells #[.int .i64 n] 3)) (.slice (some ⟨w.heap.size + 1 + 1, 0, none⟩) 1 1) [n] := by
  have := iz_one0 (w.alloc o) c n
  simpa using this
/-- What a mark alone, and a rib alone, are. -/
def mrkA (n : Int) : List Int × List Int := if markB n 0 then ([n], [0]) else ([], [])
set_option maxRecDepth 100000 in
theorem mark_any (n : Int) (w : World) : Calls Tryd.prog 14 #[.int .i64 n] w fun e w' => (∃ x, e = .returned x ∧ Wr w' x (mrkA n).1 (mrkA n).2) ∧ Below w.heap.size w w' := by
  have HV1 := Lib.hid iz_one
  have HB0 := Lib.hid (below1 w (.cells #[.slice none 0 0, .slice none 0 0] 30))
  cases hmk : markB n 0 with
  | false =>
    have HM : Hid (mrkA n = ([], [])) := Lib.hid (by unfold mrkA; rw [hmk]; rfl)
    go_enter Tryd.func14, Tryd.ntmps14
    go_wp2_with fail
    refine (markmay_any n 0 _).mono ?_
    rintro e w2 ⟨rfl, rfl⟩
    rw [hmk]
    clear hmk
    go_wp2_with fail
    refine bodyPost_ret (v := .agg #[.slice none 0 0, .slice none 0 0]) (by simp [results, Tryd.results14, go_sem]) rfl ?_
    rw [HM.out]
    exact ⟨⟨_, rfl, ⟨_, _, rfl, Iz.nil _, Iz.nil _⟩⟩, HB0.out⟩
  | true =>
    have HM : Hid (mrkA n = ([n], [0])) := Lib.hid (by unfold mrkA; rw [hmk]; rfl)
    go_enter Tryd.func14, Tryd.ntmps14
    go_wp2_with fail
    refine (markmay_any n 0 _).mono ?_
    rintro e w2 ⟨rfl, rfl⟩
    rw [hmk]
    clear hmk
    go_wp2_with fail
    refine bodyPost_ret (v := .agg #[.slice (some ⟨w.heap.size + 1, 0, none⟩) 1 1, .slice (some ⟨w.heap.size + 1 + 1, 0, none⟩) 1 1]) (by simp [results, Tryd.results14, go_sem]) rfl ?_
    rw [HM.out]
    exact ⟨⟨_, rfl, ⟨_, _, rfl, iz_one1 _ _ _ _, iz_one2 _ _ _ _⟩⟩, below3 _ _ _ _⟩

set_option maxRecDepth 100000 in
theorem begins_any (x : Value) (n t : List Int) (w : World) (hx : Wr w x n t) (hl : n.length ≤ t.length) :
    Calls Tryd.prog 35 #[x] w fun e w' => e = .returned (.bool (begB n t)) ∧ Below w.heap.size w w' := by
  obtain ⟨mv, sv, rfl, hm, hs⟩ := hx.cells
  obtain ⟨hml, ao, ac, rfl, hac, hmr⟩ := hm.cases
  obtain ⟨hsl, bo, bc, rfl, hbc, hsr⟩ := hs.cases
  unfold maxLen at hml hsl
  obtain ⟨i, hi⟩ : ∃ i, i = n.length := ⟨_, rfl⟩
  obtain ⟨j, hj⟩ : ∃ j, j = t.length := ⟨_, rfl⟩
  rw [← hi, ← hj] at hl
  rw [← hi] at hml hac
  rw [← hj] at hsl hbc
  rw [← hi, ← hj]
  have HI := Lib.hid hi
  clear hm hs hx
  rcases hmr with ⟨h0, _⟩ | ⟨b, off, rfl, hb, hcell⟩
  · have hi0 : i = 0 := by rw [hi, h0]; rfl
    have HV : Hid (begB n t = false) := Lib.hid (by unfold begB; rw [h0]; rfl)
    clear hi hj hsr h0
    subst hi0
    go_enter Tryd.func35, Tryd.ntmps35
    go_wp2_with fail
    go_ret
    exact ⟨ret_bl HV.out.symm, below1 _ _⟩
  · by_cases hi0 : i = 0
    · have HV : Hid (begB n t = false) := Lib.hid (by unfold begB; rw [← hi, hi0]; rfl)
      clear hi hj hsr hcell
      subst hi0
      go_enter Tryd.func35, Tryd.ntmps35
      go_wp2_with fail
      go_ret
      exact ⟨ret_bl HV.out.symm, below1 _ _⟩
    · rcases hsr with ⟨h0, _⟩ | ⟨c, coff, rfl, hc, hcell2⟩
      · rw [h0] at hj; simp at hj; omega
      · have HV : Hid (begB n t = (decide (gz n 0 = -1) && decide (gz t 0 = 0))) := Lib.hid (by unfold begB; rw [← hi, decide_eq_true (by omega), Bool.true_and])
        have c0 : (w.alloc (.cells #[.slice (some ⟨b, off, none⟩) i ac, .slice (some ⟨c, coff, none⟩) j bc] 30)).cell? ⟨b, off, none⟩ = some (.int .i64 (gz n 0)) := by
          rw [(below1 w _).cell (p := ⟨b, off, none⟩) hb]; exact hcell 0 (by omega)
        have c1 : (w.alloc (.cells #[.slice (some ⟨b, off, none⟩) i ac, .slice (some ⟨c, coff, none⟩) j bc] 30)).cell? ⟨c, coff, none⟩ = some (.int .i64 (gz t 0)) := by
          rw [(below1 w _).cell (p := ⟨c, coff, none⟩) hc]; exact hcell2 0 (by omega)
        have hip : 0 < i := by omega
        have hjp : 0 < j := by omega
        have HB := Lib.hid hb
        have HC := Lib.hid hc
        clear hi hj hcell hcell2 hi0 hb hc
        generalize gz n 0 = g0 at *
        generalize gz t 0 = g1 at *
        go_enter Tryd.func35, Tryd.ntmps35
        go_wp2
        all_goals
          go_ret
          refine ⟨ret_bl ?_, below1 _ _⟩
          rw [HV.out, Bool.eq_iff_iff]; simp; try omega
end Go.Proofs.YtbfcbicbeagjkaaDoor
namespace Go.Proofs.YtbfcbicbeagjkaaDoor
open Go.RowKit

def sameZ (xs ys : List Int) : Bool := decide (xs = ys)
theorem sameZ_true {xs ys : List Int} (h : xs = ys) : sameZ xs ys = true := by unfold sameZ; simp [h]
theorem sameZ_false {xs ys : List Int} (h : xs ≠ ys) : sameZ xs ys = false := by unfold sameZ; exact decide_eq_false h
theorem below_drewZ {B : Nat} {w w1 : World} (h : Below B w w1) (n : Nat) : Below B w (w1.drewN n) := by
  induction n with
  | zero => exact h
  | succ n ih => exact ih.drew
theorem newsw2 {w : World} {a b : Obj} : ((w.alloc a).alloc b).heap[w.heap.size]? = some a ∧ ((w.alloc a).alloc b).heap[w.heap.size + 1]? = some b := by
  refine ⟨?_, ?_⟩
  · rw [Below.heap_alloc _ _ _ (by simp)]; exact heap_alloc_new w _
  · have := heap_alloc_new (w.alloc a) b
    simpa using this

set_option maxRecDepth 100000 in
set_option maxHeartbeats 1000000 in
theorem sameintz_any (s1 s2 : Value) (xs ys : List Int) (w : World) (hs1 : Iz w s1 xs) (hs2 : Iz w s2 ys) :
    Calls Tryd.prog 27 #[s1, s2] w fun e w' => e = .returned (.bool (sameZ xs ys)) ∧ Below w.heap.size w w' := by
  obtain ⟨hm1, ao1, cap1, rfl, hcap1, h1⟩ := hs1.cases
  obtain ⟨hm2, ao2, cap2, rfl, hcap2, h2⟩ := hs2.cases
  clear hs1 hs2
  unfold maxLen at hm1 hm2
  by_cases hl : xs.length = ys.length
  · have hlb : ((xs.length : Int) != (ys.length : Int)) = false := by rw [hl]; simp
    have hle1 : xs.length ≤ ys.length := by omega
    have hle2 : ys.length ≤ xs.length := by omega
    have HE := Lib.hid hl; clear hl
    rcases Nat.eq_zero_or_pos xs.length with h0 | hp
    · have h0' : xs.length ≤ 0 := by omega
      clear h0
      have HV := Lib.hid (sameZ_true (gz_eq HE.out fun i hi => by omega))
      clear h1 h2
      go_enter Tryd.func27, Tryd.ntmps27
      go_wp2
      refine wp_loop_rounds 1 ?_
      rw [rounds_succ]
      go_wp2
      go_ret
      exact ⟨ret_bl HV.out.symm, Below.refl _ _⟩
    · rcases h1 with ⟨h, _⟩ | ⟨b1, o1, rfl, hlt1, hc1⟩
      · rw [h] at hp; exact absurd hp (by simp)
      rcases h2 with ⟨h, _⟩ | ⟨b2, o2, rfl, hlt2, hc2⟩
      · rw [h] at hle1; exact absurd hle1 (by rw [List.length_nil]; omega)
      have HC1 := Lib.hid hc1
      have HC2 := Lib.hid hc2
      clear hc1 hc2
      go_enter Tryd.func27, Tryd.ntmps27
      go_wp2
      go_loopw [5] (fun i wr => ∃ k q : Nat, k ≤ xs.length ∧ i = .int .i64 k ∧ wr = w.drewN q ∧ ∀ j, j < k → gz xs j = gz ys j) (fun i _ => xs.length - (intOf i).toNat)
      case atStart => exact ⟨0, 0, by omega, rfl, rfl, fun j hj => by omega⟩
      case round =>
        obtain ⟨k, q, hk, rfl, rfl, hall⟩ := hrel
        have HL := Lib.hid hall; clear hall
        by_cases hkl : k < xs.length
        · have c1 := HC1.out k hkl
          have c2 := HC2.out k (by omega)
          by_cases he : gz xs k = gz ys k
          · have hd : (gz xs k != gz ys k) = false := by rw [he]; simp
            have HQ := Lib.hid he; clear he
            go_wp2
            go_quiet (fail)
            go_wp2
            go_roundw
            case rel => exact ⟨k + 1, _, by omega, by go_num, rfl, fun j hj => by
              by_cases e : j = k
              · subst e; exact HQ.out
              · exact HL.out j (by omega)⟩
            case measure => simp only [intOf]; omega
          · have hd : (gz xs k != gz ys k) = true := by rw [bne_iff_ne]; first | exact he | omega
            have HV := Lib.hid (sameZ_false (xs := xs) (ys := ys) fun h => he (by rw [h]))
            clear he
            go_wp2
            go_quiet (fail)
            go_wp2
            go_ret
            exact ⟨ret_bl HV.out.symm, below_drewZ (below_drewZ (Below.refl _ _) _) _⟩
        · have HV := Lib.hid (sameZ_true (gz_eq HE.out fun i hi => HL.out i (by omega)))
          go_wp2
          go_ret
          exact ⟨ret_bl HV.out.symm, below_drewZ (Below.refl _ _) _⟩
  · have hlb : ((xs.length : Int) != (ys.length : Int)) = true := by rw [bne_iff_ne]; first | exact he | omega
    have HV := Lib.hid (sameZ_false (xs := xs) (ys := ys) fun h => hl (by rw [h]))
    clear h1 h2 hl
    go_enter Tryd.func27, Tryd.ntmps27
    go_wp2
    go_ret
    exact ⟨ret_bl HV.out.symm, Below.refl _ _⟩

set_option maxRecDepth 100000 in
set_option maxHeartbeats 1000000 in
theorem equalz_any (s1 s2 : Value) (xs ys : List Int) (w : World) (hs1 : Iz w s1 xs) (hs2 : Iz w s2 ys) :
    Calls Tryd.prog 59 #[s1, s2] w fun e w' => e = .returned (.bool (sameZ xs ys)) ∧ Below w.heap.size w w' := by
  obtain ⟨hm1, ao1, cap1, rfl, hcap1, h1⟩ := hs1.cases
  obtain ⟨hm2, ao2, cap2, rfl, hcap2, h2⟩ := hs2.cases
  clear hs1 hs2
  unfold maxLen at hm1 hm2
  by_cases hl : xs.length = ys.length
  · have hlb : ((xs.length : Int) != (ys.length : Int)) = false := by rw [hl]; simp
    have hle1 : xs.length ≤ ys.length := by omega
    have hle2 : ys.length ≤ xs.length := by omega
    have HE := Lib.hid hl; clear hl
    rcases Nat.eq_zero_or_pos xs.length with h0 | hp
    · have h0' : xs.length ≤ 0 := by omega
      clear h0
      have HV := Lib.hid (sameZ_true (gz_eq HE.out fun i hi => by omega))
      clear h1 h2
      go_enter Tryd.func59, Tryd.ntmps59
      go_wp2
      refine wp_loop_rounds 1 ?_
      rw [rounds_succ]
      go_wp2
      go_ret
      exact ⟨ret_bl HV.out.symm, Below.refl _ _⟩
    · rcases h1 with ⟨h, _⟩ | ⟨b1, o1, rfl, hlt1, hc1⟩
      · rw [h] at hp; exact absurd hp (by simp)
      rcases h2 with ⟨h, _⟩ | ⟨b2, o2, rfl, hlt2, hc2⟩
      · rw [h] at hle1; exact absurd hle1 (by rw [List.length_nil]; omega)
      have HC1 := Lib.hid hc1
      have HC2 := Lib.hid hc2
      clear hc1 hc2
      go_enter Tryd.func59, Tryd.ntmps59
      go_wp2
      go_loopw [13] (fun i wr => ∃ k q : Nat, k ≤ xs.length ∧ i = .int .i64 k ∧ wr = w.drewN q ∧ ∀ j, j < k → gz xs j = gz ys j) (fun i _ => xs.length - (intOf i).toNat)
      case atStart => exact ⟨0, 0, by omega, rfl, rfl, fun j hj => by omega⟩
      case round =>
        obtain ⟨k, q, hk, rfl, rfl, hall⟩ := hrel
        have HL := Lib.hid hall; clear hall
        by_cases hkl : k < xs.length
        · have c1 := HC1.out k hkl
          have c2 := HC2.out k (by omega)
          by_cases he : gz xs k = gz ys k
          · have hd : (gz xs k != gz ys k) = false := by rw [he]; simp
            have HQ := Lib.hid he; clear he
            go_wp2
            go_quiet (fail)
            go_wp2
            go_roundw
            case rel => exact ⟨k + 1, _, by omega, by go_num, rfl, fun j hj => by
              by_cases e : j = k
              · subst e; exact HQ.out
              · exact HL.out j (by omega)⟩
            case measure => simp only [intOf]; omega
          · have hd : (gz xs k != gz ys k) = true := by rw [bne_iff_ne]; first | exact he | omega
            have HV := Lib.hid (sameZ_false (xs := xs) (ys := ys) fun h => he (by rw [h]))
            clear he
            go_wp2
            go_quiet (fail)
            go_wp2
            go_ret
            exact ⟨ret_bl HV.out.symm, below_drewZ (below_drewZ (Below.refl _ _) _) _⟩
        · have HV := Lib.hid (sameZ_true (gz_eq HE.out fun i hi => HL.out i (by omega)))
          go_wp2
          go_ret
          exact ⟨ret_bl HV.out.symm, below_drewZ (Below.refl _ _) _⟩
  · have hlb : ((xs.length : Int) != (ys.length : Int)) = true := by rw [bne_iff_ne]; first | exact he | omega
    have HV := Lib.hid (sameZ_false (xs := xs) (ys := ys) fun h => hl (by rw [h]))
    clear h1 h2 hl
    go_enter Tryd.func59, Tryd.ntmps59
    go_wp2
    go_ret
    exact ⟨ret_bl HV.out.symm, Below.refl _ _⟩

set_option maxRecDepth 100000 in
set_option maxHeartbeats 2000000 in
theorem wsame_any (x y : Value) (m s n t : List Int) (w : World) (hx : Wr w x m s) (hy : Wr w y n t) :
    Calls Tryd.prog 54 #[x, y] w fun e w' => e = .returned (.bool (sameZ m n && sameZ s t)) ∧ Below w.heap.size w w' := by
  obtain ⟨mv, sv, rfl, hm, hs⟩ := hx.cells
  obtain ⟨nv, tv, rfl, hn, ht⟩ := hy.cells
  obtain ⟨_, ma, mc, hmv, _, _⟩ := hm.cases
  obtain ⟨_, sa, sc, hsv, _, _⟩ := hs.cases
  obtain ⟨_, na, nc, hnv, _, _⟩ := hn.cases
  obtain ⟨_, ta, tc, htv, _, _⟩ := ht.cases
  generalize m.length = ml at hmv
  generalize s.length = sl at hsv
  generalize n.length = nl at hnv
  generalize t.length = tl at htv
  subst hmv hsv hnv htv
  have HM := Lib.hid hm
  have HS := Lib.hid hs
  have HN := Lib.hid hn
  have HT := Lib.hid ht
  clear hx hy hm hs hn ht
  have HB1 := Lib.hid (below2 w (.cells #[.slice ma ml mc, .slice sa sl sc] 30) (.cells #[.slice na nl nc, .slice ta tl tc] 30))
  have HN1 := Lib.hid (@newsw2 w (.cells #[.slice ma ml mc, .slice sa sl sc] 30) (.cells #[.slice na nl nc, .slice ta tl tc] 30))
  go_enter Tryd.func54, Tryd.ntmps54
  go_upto_region 1 with fail
  generalize (w.alloc (.cells #[.slice ma ml mc, .slice sa sl sc] 30)).alloc (.cells #[.slice na nl nc, .slice ta tl tc] 30) = w1 at *
  have R0 := Lib.hid HN1.out.1
  have R1 := Lib.hid HN1.out.2
  have c0 := cell_heap R0.out 0
  have c1 := cell_heap R0.out 1
  have d0 := cell_heap R1.out 0
  have d1 := cell_heap R1.out 1
  simp at c0 c1 d0 d1
  go_wp2_with fail
  refine (equalz_any _ _ m n w1 (HM.out.below HB1.out) (HN.out.below HB1.out)).mono ?_
  rintro e w2 ⟨rfl, hb2⟩
  have HB2 := Lib.hid (HB1.out.trans (hb2.mono HB1.out.size))
  have S0 := Lib.hid ((hb2.block _ (Array.getElem?_eq_some_iff.1 R0.out).1).trans R0.out)
  have S1 := Lib.hid ((hb2.block _ (Array.getElem?_eq_some_iff.1 R1.out).1).trans R1.out)
  clear hb2 c0 c1 d0 d1
  have c0 := cell_heap S0.out 0
  have c1 := cell_heap S0.out 1
  have d0 := cell_heap S1.out 0
  have d1 := cell_heap S1.out 1
  simp at c0 c1 d0 d1
  cases h1 : sameZ m n with
  | false =>
    go_wp2_with fail
    go_ret
    exact ⟨ret_bl (by rw [h1]; rfl), HB2.out⟩
  | true =>
    go_wp2_with fail
    refine (equalz_any _ _ s t w2 (HS.out.below HB2.out) (HT.out.below HB2.out)).mono ?_
    rintro e w3 ⟨rfl, hb3⟩
    have HB3 := Lib.hid (HB2.out.trans (hb3.mono HB2.out.size))
    clear hb3
    go_wp2_with fail
    go_ret
    exact ⟨ret_bl (by rw [h1]; rfl), HB3.out⟩
end Go.Proofs.YtbfcbicbeagjkaaDoor
