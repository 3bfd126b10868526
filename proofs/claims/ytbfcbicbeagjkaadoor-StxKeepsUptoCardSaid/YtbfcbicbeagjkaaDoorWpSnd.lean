/- Which wraps are sound: the program's answer, and the document's. -/
import Derived.Test.YtbfcbicbeagjkaaDoorTkSc
import Derived.Deep.QuietTactic
import Derived.BigQuiet
import Derived.Deep.Cut
import Derived.Deep.RegionLaw
namespace Go.Proofs.YtbfcbicbeagjkaaDoor
open Go.RowKit

set_option maxRecDepth 100000 in
theorem markmay_any (n : Int) (i : Nat) (w : World) : Calls Tryd.prog 32 #[.int .i64 n, .int .i64 (i : Nat)] w fun e w' => e = .returned (.bool (markB n i)) ∧ w = w' := by
  go_enter Tryd.func32, Tryd.ntmps32
  go_wp2
  all_goals
    go_ret
    exact ⟨ret_bl (by unfold markB; rw [Bool.eq_iff_iff]; simp; try omega), rfl⟩

set_option maxRecDepth 100000 in
theorem large_any (mv sv : Value) (m s : List Int) (w : World) (hm : Iz w mv m) (hs : Iz w sv s) :
    Calls Tryd.prog 39 #[.agg #[mv, sv]] w fun e w' => e = .returned (.bool (lrgB m s)) ∧ Below w.heap.size w w' := by
  obtain ⟨hml, ao, ac, rfl, _, _⟩ := hm.cases
  obtain ⟨hsl, bo, bc, rfl, _, _⟩ := hs.cases
  unfold maxLen at hml hsl
  clear hm hs
  go_enter Tryd.func39, Tryd.ntmps39
  go_wp2
  all_goals
    go_ret
    exact ⟨ret_bl (by unfold lrgB; rw [Bool.eq_iff_iff]; simp; try omega), below1 _ _⟩

set_option maxRecDepth 100000 in
theorem marksmay_any (mv sv : Value) (m : List Int) (w : World) (hm : Iz w mv m) :
    Calls Tryd.prog 48 #[.agg #[mv, sv]] w fun e w' => e = .returned (.bool (mksB m)) ∧ Below w.heap.size w w' := by
  obtain ⟨hml, ao, ac, rfl, hcap, hr⟩ := hm.cases
  unfold maxLen at hml
  obtain ⟨n, hn⟩ : ∃ n, n = m.length := ⟨_, rfl⟩
  rw [← hn] at hml hcap
  rw [← hn]
  rcases hr with ⟨h0, _⟩ | ⟨b, off, rfl, hb, hcell⟩
  · have h0' : n = 0 := by rw [hn, h0]; rfl
    subst h0
    clear hn hm
    subst h0'
    go_enter Tryd.func48, Tryd.ntmps48
    go_wp2
    refine wp_loop_rounds 1 ?_
    rw [rounds_succ]
    go_wp2
    go_ret
    exact ⟨rfl, below1 _ _⟩
  · have HC : Hid (∀ j, j < n → (w.alloc (.cells #[.slice (some ⟨b, off, none⟩) n ac, sv] 30)).cell? ⟨b, off + j, none⟩ = some (.int .i64 (gz m j))) := Lib.hid fun j hj => by
      rw [(below1 w _).cell (p := ⟨b, off + j, none⟩) hb]
      exact hcell j (by omega)
    have HN := Lib.hid hn
    clear hcell hn hm hb
    go_enter Tryd.func48, Tryd.ntmps48
    go_wp2
    have HB1 := Lib.hid (below1 w (.cells #[.slice (some ⟨b, off, none⟩) n ac, sv] 30))
    generalize w.alloc (.cells #[.slice (some ⟨b, off, none⟩) n ac, sv] 30) = w1 at *
    go_loopw [8] (fun i wr => ∃ k : Nat, k ≤ n ∧ i = .int .i64 k ∧ wr = w1 ∧ ∀ j, j < k → markB (gz m j) j = true) (fun i _ => n - (intOf i).toNat)
    case atStart => exact ⟨0, Nat.zero_le _, rfl, rfl, fun j hj => by omega⟩
    case round =>
      obtain ⟨k, hk, rfl, rfl, hall⟩ := hrel
      have HL := Lib.hid hall; clear hall
      by_cases hkl : k < n
      · have c1 := HC.out k hkl
        go_wp2_with fail
        refine (markmay_any (gz m k) k wr).mono ?_
        rintro e w2 ⟨rfl, rfl⟩
        cases hmb : markB (gz m k) k with
        | true =>
          have HMB := Lib.hid hmb; clear hmb
          go_wp2_with fail
          go_roundw
          case rel => exact ⟨k + 1, by omega, by go_num, (by first | rfl | trivial), fun j hj => by
            by_cases e : j = k
            · subst e; exact HMB.out
            · exact HL.out j (by omega)⟩
          case measure => simp only [intOf]; omega
        | false =>
          have HV := Lib.hid (mksB_false (m := m) (j := k) (by have := HN.out; omega) hmb)
          clear hmb
          go_wp2_with fail
          go_ret
          exact ⟨ret_bl HV.out.symm, HB1.out⟩
      · have HV := Lib.hid (mksB_true (m := m) fun j hj => HL.out j (by have := HN.out; omega))
        go_wp2_with fail
        go_ret
        exact ⟨ret_bl HV.out.symm, HB1.out⟩

set_option maxRecDepth 100000 in
theorem subsmay_any (mv sv : Value) (m s : List Int) (w : World) (hm : Iz w mv m) (hs : Iz w sv s) :
    Calls Tryd.prog 49 #[.agg #[mv, sv]] w fun e w' => e = .returned (.bool (sbsB s && decide (zc s = m.length))) ∧ Below w.heap.size w w' := by
  obtain ⟨hml, bo, bc, rfl, _, _⟩ := hm.cases
  obtain ⟨hsl, ao, ac, rfl, hcap, hr⟩ := hs.cases
  unfold maxLen at hml hsl
  obtain ⟨n, hn⟩ : ∃ n, n = s.length := ⟨_, rfl⟩
  rw [← hn] at hsl hcap
  rw [← hn]
  obtain ⟨l, hl⟩ : ∃ l, l = m.length := ⟨_, rfl⟩
  rw [← hl] at hml
  rw [← hl]
  have HLm := Lib.hid hl
  clear hl hm hs
  rcases hr with ⟨h0, _⟩ | ⟨b, off, rfl, hb, hcell⟩
  · have h0' : n = 0 := by rw [hn, h0]; rfl
    subst h0
    clear hn
    subst h0'
    go_enter Tryd.func49, Tryd.ntmps49
    go_wp2
    refine wp_loop_rounds 1 ?_
    rw [rounds_succ]
    go_wp2
    go_ret
    exact ⟨ret_bl (by rw [Bool.eq_iff_iff, Bool.and_eq_true, decide_eq_true_iff, show zc [] = 0 from rfl, show sbsB [] = true from rfl]; simp; omega), below1 _ _⟩
  · have HC : Hid (∀ j, j < n → (w.alloc (.cells #[.slice bo l bc, .slice (some ⟨b, off, none⟩) n ac] 30)).cell? ⟨b, off + j, none⟩ = some (.int .i64 (gz s j))) := Lib.hid fun j hj => by
      rw [(below1 w _).cell (p := ⟨b, off + j, none⟩) hb]
      exact hcell j (by omega)
    have HN := Lib.hid hn
    have hbox : (w.alloc (.cells #[.slice bo l bc, .slice (some ⟨b, off, none⟩) n ac] 30)).cell? ⟨w.heap.size, 0, none⟩ = some (.slice bo l bc) := cell_heap (heap_alloc_new w _) 0
    have hbox1 : (w.alloc (.cells #[.slice bo l bc, .slice (some ⟨b, off, none⟩) n ac] 30)).cell? ⟨w.heap.size, 1, none⟩ = some (.slice (some ⟨b, off, none⟩) n ac) := cell_heap (heap_alloc_new w _) 1
    clear hcell hn hb
    go_enter Tryd.func49, Tryd.ntmps49
    go_wp2
    have HB1 := Lib.hid (below1 w (.cells #[.slice bo l bc, .slice (some ⟨b, off, none⟩) n ac] 30))
    generalize w.alloc (.cells #[.slice bo l bc, .slice (some ⟨b, off, none⟩) n ac] 30) = w1 at *
    go_loopw [9, 3] (fun i c wr => ∃ k q : Nat, k ≤ n ∧ q ≤ k ∧ i = .int .i64 k ∧ c = .int .i64 q ∧ wr = w1 ∧ q = zc (s.take k) ∧ ∀ j, j < k → 0 ≤ gz s j) (fun i _ _ => n - (intOf i).toNat)
    case atStart => exact ⟨0, 0, Nat.zero_le _, Nat.le_refl _, rfl, rfl, rfl, rfl, fun j hj => by omega⟩
    case round =>
      obtain ⟨k, q, hk, hqk, rfl, rfl, rfl, hq, hall⟩ := hrel
      have HL := Lib.hid hall; clear hall
      have HQ := Lib.hid hq; clear hq
      by_cases hkl : k < n
      · have c1 := HC.out k hkl
        have hst := zc_step (ss := s) (k := k) (by have := HN.out; omega)
        by_cases hneg : gz s k < 0
        · have HV := Lib.hid (sbsB_false (ss := s) (j := k) (by have := HN.out; omega) hneg)
          clear hst
          go_wp2_with fail
          go_ret
          exact ⟨ret_bl (by rw [HV.out]; rfl), HB1.out⟩
        · by_cases h0 : gz s k = 0
          · rw [if_pos h0] at hst
            have HS := Lib.hid hst; clear hst
            have h0b : (gz s k == 0) = true := by rw [h0]; rfl
            have HN0 := Lib.hid h0; clear h0
            go_wp2_with fail
            go_roundw
            case rel => exact ⟨k + 1, q + 1, by omega, by omega, by go_num, by go_num, (by first | rfl | trivial), by rw [HS.out, HQ.out], fun j hj => by
              by_cases e : j = k
              · subst e; rw [HN0.out]; omega
              · exact HL.out j (by omega)⟩
            case measure => simp only [intOf]; omega
          · rw [if_neg h0] at hst
            have HS := Lib.hid hst; clear hst
            have h0b : (gz s k == 0) = false := by rw [beq_eq_false_iff_ne]; exact h0
            go_wp2_with fail
            go_roundw
            case rel => exact ⟨k + 1, q, by omega, by omega, by go_num, by go_num, (by first | rfl | trivial), by rw [HS.out, HQ.out]; rfl, fun j hj => by
              by_cases e : j = k
              · subst e; omega
              · exact HL.out j (by omega)⟩
            case measure => simp only [intOf]; omega
      · have HV := Lib.hid (sbsB_true (ss := s) fun j hj => HL.out j (by have := HN.out; omega))
        have hkn : k = s.length := by have := HN.out; omega
        have HZ : Hid (q = zc s) := Lib.hid (by rw [HQ.out, hkn, List.take_length])
        clear hkn
        go_wp2_with fail
        go_ret
        refine ⟨ret_bl ?_, HB1.out⟩
        rw [HV.out, ← HZ.out, Bool.eq_iff_iff]
        simp
        try omega

set_option maxRecDepth 100000 in
theorem wsound_any (x : Value) (m s : List Int) (w : World) (hx : Wr w x m s) :
    Calls Tryd.prog 29 #[x] w fun e w' => e = .returned (.bool (sndW m s)) ∧ Below w.heap.size w w' := by
  obtain ⟨mv, sv, rfl, hm, hs⟩ := hx.cells
  have HM := Lib.hid hm
  have HS := Lib.hid hs
  clear hx hm hs
  have HB1 := Lib.hid (below1 w (.cells #[mv, sv] 30))
  have HBX := Lib.hid (heap_alloc_new w (.cells #[mv, sv] 30))
  go_enter Tryd.func29, Tryd.ntmps29
  go_upto_region 1 with fail
  generalize w.alloc (.cells #[mv, sv] 30) = w1 at *
  have hc0 := cell_heap HBX.out 0
  have hc1 := cell_heap HBX.out 1
  have hsz : w.heap.size < w1.heap.size := (Array.getElem?_eq_some_iff.1 HBX.out).1
  have HSZ := Lib.hid hsz
  clear hsz
  simp at hc0 hc1
  cases hl : lrgB m s with
  | true =>
    have HV : Hid (sndW m s = false) := Lib.hid (by unfold sndW; rw [hl]; rfl)
    go_wp2_with fail
    refine (large_any mv sv m s w1 (HM.out.below HB1.out) (HS.out.below HB1.out)).mono ?_
    rintro e w2 ⟨rfl, hb2⟩
    rw [hl]
    have HB2 := Lib.hid (HB1.out.trans (hb2.mono HB1.out.size))
    clear hb2
    go_wp2_with fail
    go_ret
    exact ⟨ret_bl HV.out.symm, HB2.out⟩
  | false =>
    go_wp2_with fail
    refine (large_any mv sv m s w1 (HM.out.below HB1.out) (HS.out.below HB1.out)).mono ?_
    rintro e w2 ⟨rfl, hb2⟩
    rw [hl]
    have HB2 := Lib.hid (HB1.out.trans (hb2.mono HB1.out.size))
    have HBX2 := Lib.hid ((hb2.block _ HSZ.out).trans HBX.out)
    clear hb2 hc0 hc1
    have hc0 := cell_heap HBX2.out 0
    have hc1 := cell_heap HBX2.out 1
    simp at hc0 hc1
    cases hmk : mksB m with
    | false =>
      have HV : Hid (sndW m s = false) := Lib.hid (by unfold sndW sndS; rw [hl, hmk]; rfl)
      go_wp2_with fail
      refine (marksmay_any mv sv m w2 (HM.out.below HB2.out)).mono ?_
      rintro e w3 ⟨rfl, hb3⟩
      rw [hmk]
      have HB3 := Lib.hid (HB2.out.trans (hb3.mono HB2.out.size))
      clear hb3
      go_wp2_with fail
      go_ret
      exact ⟨ret_bl HV.out.symm, HB3.out⟩
    | true =>
      have HV : Hid (sndW m s = (sbsB s && decide (zc s = m.length))) := Lib.hid (by unfold sndW sndS; rw [hl, hmk]; rfl)
      go_wp2_with fail
      refine (marksmay_any mv sv m w2 (HM.out.below HB2.out)).mono ?_
      rintro e w3 ⟨rfl, hb3⟩
      rw [hmk]
      have HB3 := Lib.hid (HB2.out.trans (hb3.mono HB2.out.size))
      have HBX3 := Lib.hid ((hb3.block _ (Array.getElem?_eq_some_iff.1 HBX2.out).1).trans HBX2.out)
      clear hb3 hc0 hc1
      have hc0 := cell_heap HBX3.out 0
      have hc1 := cell_heap HBX3.out 1
      simp at hc0 hc1
      go_wp2_with fail
      refine (subsmay_any mv sv m s w3 (HM.out.below HB3.out) (HS.out.below HB3.out)).mono ?_
      rintro e w4 ⟨rfl, hb4⟩
      have HB4 := Lib.hid (HB3.out.trans (hb4.mono HB3.out.size))
      clear hb4
      go_wp2_with fail
      go_ret
      exact ⟨ret_bl HV.out.symm, HB4.out⟩
end Go.Proofs.YtbfcbicbeagjkaaDoor
