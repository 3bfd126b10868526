/- Collect: the new numbers. -/
import Derived.Test.YtioidaojnbenbaaStReach
import Derived.OwnWalk
namespace Go.Proofs.Ytioidaojnbenbaa
open Go.RowKit

theorem infoInt : (Try.prog.info? 3).map (fun i => (i.zero, i.size, i.bytes)) = some (some (.int .i64 0), 1, 8) := by kernel_rfl
theorem nums_len (K : Nat → Bool) (n : Nat) : (nums K n).length = n := by simp [nums]
theorem nums_succ (K : Nat → Bool) (n : Nat) : nums K (n + 1) = nums K n ++ [if K n then ((plc K n : Nat) : Int) else -1] := by simp [nums, List.range_succ]
theorem nums_at (K : Nat → Bool) {n i : Nat} (h : i < n) : (nums K n)[i]'(by rw [nums_len]; exact h) = if K i then ((plc K i : Nat) : Int) else -1 := by simp [nums]
/-- The first k ones have their new number. -/
def numsTo (K : Nat → Bool) (N : List Int) (k : Nat) : List Int := nums K k ++ N.drop k
theorem numsTo_len {K : Nat → Bool} {N : List Int} {k : Nat} (hk : k ≤ N.length) : (numsTo K N k).length = N.length := by simp [numsTo, nums_len]; omega
theorem numsTo_at {K : Nat → Bool} {N : List Int} {k : Nat} (hk : k < N.length) : (numsTo K N k)[k]'(by rw [numsTo_len (by omega)]; exact hk) = N[k] := by
  unfold numsTo
  rw [List.getElem_append_right (by rw [nums_len]; exact Nat.le_refl _)]
  simp [nums_len]
theorem numsTo_succ {K : Nat → Bool} {N : List Int} {k : Nat} (hk : k < N.length) : numsTo K N (k + 1) = (numsTo K N k).set k (if K k then ((plc K k : Nat) : Int) else -1) := by
  unfold numsTo
  rw [nums_succ, List.drop_eq_getElem_cons hk, List.set_append_right _ _ (by rw [nums_len]; exact Nat.le_refl _), nums_len, Nat.sub_self, List.set_cons_zero, List.append_assoc]
  rfl

set_option maxRecDepth 100000 in
set_option maxHeartbeats 4000000 in
theorem stnumbers_any (g : Nat) (R : Nat → Nat) (s : St) (lv : Value) (rs : List (Int × Int)) (w : World) (h : StW w g R s) (hr : RowV w lv rs.length 2 (vcs rs)) (hrs : rs.all (sdV s.os.length s.ns.length) = true) (hl : rs.length ≤ 2000000) :
    Calls Try.prog 54 #[.pointer (some ⟨g, 0, none⟩), lv] w fun e w' => ∃ nb, e = .returned (.slice (some ⟨nb, 0, none⟩) s.os.length s.os.length) ∧ IRow w' nb (nums (rchB s rs) s.os.length) ∧ w.heap.size ≤ nb ∧ Below w.heap.size w w' := by
  obtain ⟨i0, hi, hz0, hz1, hz2⟩ := info_parts infoInt
  have HS := Lib.hid h
  have HR := Lib.hid hr
  have HRS := Lib.hid hrs
  have hos := h.ok.len
  obtain ⟨ms, ov, nv, mv, hm⟩ := h
  obtain ⟨_, _, c2, _⟩ := hm.boxf
  obtain ⟨oo, oc, rfl⟩ := own_dslice hm.orow
  rw [← hm.len] at c2
  obtain ⟨lo, lc, rfl⟩ := rowv_slice hr
  have HLT := Lib.hid hm.lt
  clear hm hr hrs
  go_enter Try.func54, Try.ntmps54
  go_wp2_with (at_make; go_loud (refine wpList_make_full _ rfl _ _ 48 rfl w.heap.size 3 i0 (.int .i64 0) 1 Try.underlying48 hi hz0 hz1 _ _ _ _ s.os.length rfl rfl (by omega) (by omega) (by rw [hz2]; omega) (by unfold maxLen; omega) (Nat.le_refl _) ?_); go_loud (intro w1 hown1 hgrow1))
  have HB1 : Hid (Below w.heap.size w w1) := Lib.hid ((Below.refl _ _).grown hgrow1 (Nat.le_refl _) (fun q hq => by cases hq))
  have HN1 : Hid (IRow w1 w.heap.size (List.replicate s.os.length 0)) := Lib.hid (by
    rcases hown1.2 with ⟨h, _⟩ | ⟨g2, cap2, cur, e, _, hc, _, _, hs, ht⟩
    · cases h
    · simp only [Value.slice.injEq, Option.some.injEq, Addr.mk.injEq, true_and] at e
      obtain ⟨⟨rfl, _⟩, rfl⟩ := e
      unfold IRow
      rw [hc]
      have h1 : cur.toList = ics .i64 (List.replicate s.os.length 0) := by
        rw [List.take_of_length_le (by simp; omega)] at ht
        rw [ht]
        have e2 : (Value.int .i64 0).cells = #[Value.int .i64 0] := rfl
        rw [Nat.mul_one, e2, toList_madeCells_one]
        simp [ics]
      rw [← h1])
  clear hown1 hgrow1 c2
  go_loopw [17] (fun v wr => ∃ k : Nat, k ≤ s.os.length ∧ v = .int .i64 (k : Nat) ∧ IRow wr w.heap.size (upd (fun _ => -1) (List.replicate s.os.length 0) k) ∧ Below w.heap.size w wr) (fun v _ => s.os.length - (intOf v).toNat)
  case atStart => exact ⟨0, Nat.zero_le _, rfl, by rw [upd_zero]; exact HN1.out, HB1.out⟩
  case round =>
    obtain ⟨k, hk, rfl, hN, hbel⟩ := hrel
    have HN := Lib.hid hN
    have HBL := Lib.hid hbel
    by_cases hlt : k < s.os.length
    · have hii : ((k : Nat) : Int) < ((s.os.length : Nat) : Int) := by omega
      have hc := hN.cell (j := k) (by rw [upd_len]; simpa using hlt)
      have hf := hN.frozen k
      clear hN hbel
      go_wp2_with fail
      go_roundw
      case measure => simp only [intOf]; omega
      case rel =>
        refine ⟨k + 1, by omega, by go_num, ?_, HBL.out.setCell (Nat.le_refl _) _⟩
        rw [upd_succ (by simpa using hlt)]
        exact HN.out.set k _
    · obtain rfl : k = s.os.length := by omega
      have hN2 : IRow wr w.heap.size (List.replicate s.os.length (-1)) := by
        have h1 := upd_full (f := fun _ => (-1 : Int)) (l := List.replicate s.os.length (0 : Int))
        rw [List.length_replicate] at h1
        rw [h1] at hN
        simpa using hN
      have HN2 := Lib.hid hN2
      clear hN hN2 hbel
      go_wp2_with fail
      refine (streach_any g R s (.slice lo rs.length lc) rs w.heap.size s.os.length _ (HS.out.below HBL.out) (HR.out.below HBL.out) HRS.out hl HN2.out (Classical.byContradiction fun hn => by have := HLT.out _ hn; omega) (fun b h0 hb e => by have := HR.out.lt b h0 hb; omega)).mono ?_
      rintro e w2 ⟨rfl, ⟨N, hN, hrch⟩, hfr⟩
      have HB2 : Hid (Below w.heap.size w w2) := Lib.hid (HBL.out.trans (hfr.below HBL.out.size (fun b hb => by split at hb; omega; exact absurd rfl hb)))
      have HN := Lib.hid hN
      have HRC := Lib.hid hrch
      have hNl := hrch.len
      have HNL := Lib.hid hNl
      clear hN hrch hfr hNl
      go_wp2_with fail
      go_loopw [7, 30] (fun c v wx => ∃ k : Nat, k ≤ s.os.length ∧ v = .int .i64 (k : Nat) ∧ c = .int .i64 ((plc (rchB s rs) k : Nat) : Int) ∧ IRow wx w.heap.size (numsTo (rchB s rs) N k) ∧ Below w.heap.size w wx) (fun _ v _ => s.os.length - (intOf v).toNat)
      case atStart => exact ⟨0, Nat.zero_le _, rfl, rfl, by simpa [numsTo, nums] using HN.out, HB2.out⟩
      case round =>
        obtain ⟨k, hk, rfl, rfl, hN3, hbel3⟩ := hrel
        have HN3 := Lib.hid hN3
        have HBL3 := Lib.hid hbel3
        have hpl := plc_le (rchB s rs) k
        by_cases hlt : k < s.os.length
        · have hkN : k < N.length := by rw [HNL.out]; exact hlt
          have hii : ((k : Nat) : Int) < ((s.os.length : Nat) : Int) := by omega
          have hc := hN3.cell (j := k) (by rw [numsTo_len (by omega)]; exact hkN)
          rw [numsTo_at hkN, HRC.out.val k hkN] at hc
          have hf := hN3.frozen k
          have HNS := Lib.hid (numsTo_succ (K := rchB s rs) hkN)
          have HPS := Lib.hid (plc_succ (rchB s rs) k)
          clear hN3 hbel3
          cases hb : rchB s rs k with
          | true =>
            rw [hb] at hc
            simp only [if_true] at hc
            have hq : (((k : Nat) : Int) != -1) = true := by rw [bne_iff_ne]; omega
            have HB := Lib.hid hb
            clear hb
            generalize hP : plc (rchB s rs) k = P at *
            clear hP
            go_wp2_with fail
            go_roundw
            case measure => simp only [intOf]; omega
            case rel =>
              refine ⟨k + 1, by omega, by go_num, ?_, ?_, HBL3.out.setCell (Nat.le_refl _) _⟩
              · rw [HPS.out, HB.out, if_pos rfl]; go_num
              · rw [HNS.out, HB.out, if_pos rfl]
                exact HN3.out.set k _
          | false =>
            rw [hb] at hc
            simp only [Bool.false_eq_true, if_false] at hc
            have HB := Lib.hid hb
            clear hb
            generalize hP : plc (rchB s rs) k = P at *
            clear hP
            go_wp2_with fail
            go_roundw
            case measure => simp only [intOf]; omega
            case rel =>
              refine ⟨k + 1, by omega, by go_num, ?_, ?_, HBL3.out⟩
              · rw [HPS.out, HB.out]; rfl
              · have h1 := numsTo_at (K := rchB s rs) hkN
                rw [HRC.out.val k hkN, HB.out] at h1
                simp only [Bool.false_eq_true, if_false] at h1
                rw [HNS.out, HB.out]
                simp only [Bool.false_eq_true, if_false]
                rw [← h1, List.set_getElem_self]
                exact HN3.out
        · obtain rfl : k = s.os.length := by omega
          have HN4 : Hid (IRow wr w.heap.size (nums (rchB s rs) s.os.length)) := Lib.hid (by
            have h1 : numsTo (rchB s rs) N s.os.length = nums (rchB s rs) s.os.length := by
              unfold numsTo
              rw [List.drop_of_length_le (by rw [HNL.out]; exact Nat.le_refl _), List.append_nil]
            rw [← h1]; exact hN3)
          clear hN3 hbel3
          go_wp2_with fail
          go_ret
          exact ⟨w.heap.size, rfl, HN4.out, Nat.le_refl _, HBL3.out⟩
end Go.Proofs.Ytioidaojnbenbaa
