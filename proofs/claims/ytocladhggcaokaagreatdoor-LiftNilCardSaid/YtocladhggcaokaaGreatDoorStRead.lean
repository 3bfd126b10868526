/- A store, read: Sound, all, room, find. -/
import Derived.Test.YtocladhggcaokaaGreatDoorStMem
import Derived.BigQuiet
import Derived.Deep.LoopGhost
import Derived.Deep.QuietTactic
namespace Go.Proofs.YtocladhggcaokaaGreatDoor
open Go.RowKit

/-- A place of a row of values. -/
theorem vrow_at {w : World} {lv : Value} {l : List (Int × Int)} (h : RowV w lv l.length 2 (vcs l)) {k : Nat} (hk : k < l.length) : ∃ b off cap, lv = .slice (some ⟨b, off, none⟩) l.length cap ∧ b < w.heap.size ∧ w.cell? ⟨b, off + k * 2, none⟩ = some (.int .i64 (l[k]'hk).1) ∧ w.cell? ⟨b, off + k * 2 + 1, none⟩ = some (.int .i64 (l[k]'hk).2) := by
  obtain ⟨_, _, ao, cap, rfl, _, h⟩ := h
  rcases h with ⟨h0, _⟩ | ⟨b, off, rfl, hb, hc⟩
  · omega
  · obtain ⟨g0, g1⟩ := vcs_get l k hk
    exact ⟨b, off, cap, rfl, hb, hc _ _ g0, by have := hc _ _ g1; rwa [← Nat.add_assoc] at this⟩
theorem row2 {W : World} {g : Nat} {a0 a1 : Value} {e : TypeId} (h : W.heap[g]? = some (.cells #[a0, a1] e (0, 0))) : W.cell? ⟨g, 0, none⟩ = some a0 ∧ W.cell? ⟨g, 1, none⟩ = some a1 ∧ W.frozen? ⟨g, 0, none⟩ = false ∧ W.frozen? ⟨g, 1, none⟩ = false :=
  ⟨cell_heap h 0, cell_heap h 1, frozen_heap h 0, frozen_heap h 1⟩

set_option maxRecDepth 100000 in
theorem stbelow_any (n m : Int) (w : World) : Calls Tryz.prog 92 #[.int .i64 n, .int .i64 m] w fun e w' => e = .returned (.bool (decide (0 ≤ n ∧ n < m))) ∧ w' = w := by
  go_enter Tryz.func92, Tryz.ntmps92
  go_wp2
  all_goals
    go_ret
    exact ⟨ret_bl (by rw [Bool.eq_iff_iff]; simp; try omega), rfl⟩
set_option maxRecDepth 100000 in
theorem stmay_any (k : Int) (n : Nat) (w : World) : Calls Tryz.prog 133 #[.int .i64 k, .int .i64 (n : Nat)] w fun e w' => e = .returned (.bool (mayA k n)) ∧ w' = w := by
  rcases (by omega : k = 1 ∨ k = 3 ∨ (k ≠ 1 ∧ k ≠ 3)) with rfl | rfl | ⟨h1, h3⟩
  · go_enter Tryz.func133, Tryz.ntmps133
    go_wp2
    go_ret
    exact ⟨ret_bl (by unfold mayA; rw [Bool.eq_iff_iff]; simp; try omega), rfl⟩
  · go_enter Tryz.func133, Tryz.ntmps133
    go_wp2
    go_ret
    exact ⟨ret_bl (by unfold mayA; rw [Bool.eq_iff_iff]; simp; try omega), rfl⟩
  · have e1 : (k == 1) = false := by rw [beq_eq_false_iff_ne]; exact h1
    have e3 : (k == 3) = false := by rw [beq_eq_false_iff_ne]; exact h3
    have HM : Hid (mayA k n = decide (1 ≤ k ∧ k ≤ 9)) := Lib.hid (by unfold mayA; rw [if_neg h1, if_neg h3])
    clear h1 h3
    go_enter Tryz.func133, Tryz.ntmps133
    go_wp2
    all_goals
      go_ret
      exact ⟨ret_bl (by rw [HM.out, Bool.eq_iff_iff]; simp; try omega), rfl⟩
set_option maxRecDepth 100000 in
theorem stroom_any (g L U : Nat) (w : World) (hL : L ≤ 1048576) (hU : U ≤ 1048576) (c0 : w.cell? ⟨g, 0, none⟩ = some (.int .i64 (L : Nat))) (c1 : w.cell? ⟨g, 1, none⟩ = some (.int .i64 (U : Nat))) :
    Calls Tryz.prog 135 #[.pointer (some ⟨g, 0, none⟩)] w fun e w' => e = .returned (.int .i64 ((L : Int) - (U : Int))) ∧ ∃ n, w' = w.drewN n := by
  go_enter Tryz.func135, Tryz.ntmps135
  go_wp2_with fail
  go_quiet (fail)
  go_wp2_with fail
  go_ret
  exact ⟨rfl, _, rfl⟩

set_option maxRecDepth 100000 in
set_option maxHeartbeats 2000000 in
theorem stsound_any (g : Nat) (R : Nat → Nat) (s : St) (v : Int × Int) (w : World) (h : StW w g R s) :
    Calls Tryz.prog 50 #[.pointer (some ⟨g, 0, none⟩), vV v] w fun e w' => e = .returned (.bool (sdV s.os.length s.ns.length v)) ∧ Below w.heap.size w w' := by
  obtain ⟨ms, ov, nv, mv, hm⟩ := h
  have hol := hm.len
  obtain ⟨c0, c1, c2, c3, c4, _⟩ := (hm.below (below1 w (.cells #[.int .i64 v.1, .int .i64 v.2] 29))).boxf
  obtain ⟨oo, oc, rfl⟩ := own_dslice hm.orow
  obtain ⟨no, nc, rfl⟩ := own_dslice hm.nrow
  rw [← hol] at c2
  have hgl := hm.glt
  have HB1 := Lib.hid (below1 w (.cells #[.int .i64 v.1, .int .i64 v.2] 29))
  have HBE : Hid (∀ (n m : Int) (w : World), Calls Tryz.prog 92 #[.int .i64 n, .int .i64 m] w fun e w' => e = .returned (.bool (decide (0 ≤ n ∧ n < m))) ∧ w' = w) := Lib.hid stbelow_any
  clear hm
  obtain ⟨t, n⟩ := v
  unfold vV
  simp only at *
  rcases (by omega : t = 0 ∨ t = 1 ∨ t = 2 ∨ t = 3 ∨ t = 9 ∨ t = 4 ∨ t = 5 ∨ t = 6 ∨ t = 7 ∨ t = 8 ∨ (t ≠ 0 ∧ t ≠ 1 ∧ t ≠ 2 ∧ t ≠ 3 ∧ t ≠ 9 ∧ t ≠ 4 ∧ t ≠ 5 ∧ t ≠ 6 ∧ t ≠ 7 ∧ t ≠ 8)) with rfl | rfl | rfl | rfl | rfl | rfl | rfl | rfl | rfl | rfl | ⟨h0, h1, h2, h3, h9, h4, h5, h6, h7, h8⟩
  iterate 5
    · go_enter Tryz.func50, Tryz.ntmps50
      go_wp2_with fail
      go_ret
      exact ⟨ret_bl (by unfold sdV; rw [Bool.eq_iff_iff]; simp), HB1.out⟩
  · go_enter Tryz.func50, Tryz.ntmps50
    go_wp2_with fail
    go_ret
    exact ⟨ret_bl (by unfold sdV; simp), HB1.out⟩
  · go_enter Tryz.func50, Tryz.ntmps50
    go_wp2_with fail
    refine (scalar_any _ _).mono ?_
    rintro e w1 ⟨rfl, rfl⟩
    go_wp2_with fail
    go_ret
    exact ⟨ret_bl (by unfold sdV; simp), HB1.out⟩
  · go_enter Tryz.func50, Tryz.ntmps50
    go_wp2_with fail
    go_quiet ((with_reducible exact Calls.quiet_of_same (HBE.out _ _ _)))
    go_wp2_with fail
    go_ret
    exact ⟨ret_bl (by unfold sdV; simp), below_drewN HB1.out _⟩
  · go_enter Tryz.func50, Tryz.ntmps50
    go_wp2_with fail
    go_quiet ((with_reducible exact Calls.quiet_of_same (HBE.out _ _ _)))
    go_wp2_with fail
    go_ret
    exact ⟨ret_bl (by unfold sdV; simp [hol]), below_drewN HB1.out _⟩
  · go_enter Tryz.func50, Tryz.ntmps50
    go_wp2_with fail
    refine (HBE.out _ _ _).mono ?_
    rintro e w1 ⟨rfl, hw⟩
    subst hw
    go_wp2_with fail
    go_ret
    exact ⟨ret_bl (by unfold sdV; simp), HB1.out⟩
  · have q0 : (t == 0) = false := by rw [beq_eq_false_iff_ne]; exact h0
    have q1 : (t == 1) = false := by rw [beq_eq_false_iff_ne]; exact h1
    have q2 : (t == 2) = false := by rw [beq_eq_false_iff_ne]; exact h2
    have q3 : (t == 3) = false := by rw [beq_eq_false_iff_ne]; exact h3
    have q4 : (t == 4) = false := by rw [beq_eq_false_iff_ne]; exact h4
    have q5 : (t == 5) = false := by rw [beq_eq_false_iff_ne]; exact h5
    have q6 : (t == 6) = false := by rw [beq_eq_false_iff_ne]; exact h6
    have q7 : (t == 7) = false := by rw [beq_eq_false_iff_ne]; exact h7
    have q8 : (t == 8) = false := by rw [beq_eq_false_iff_ne]; exact h8
    have q9 : (t == 9) = false := by rw [beq_eq_false_iff_ne]; exact h9
    have HS : Hid (sdV s.os.length s.ns.length (t, n) = false) := Lib.hid (by unfold sdV; simp [h0, h1, h2, h3, h4, h5, h6, h7, h8, h9])
    clear h0 h1 h2 h3 h4 h5 h6 h7 h8 h9
    go_enter Tryz.func50, Tryz.ntmps50
    go_wp2_with fail
    go_ret
    exact ⟨ret_bl (by rw [HS.out]), HB1.out⟩

set_option maxRecDepth 100000 in
set_option maxHeartbeats 2000000 in
theorem stall_any (g : Nat) (R : Nat → Nat) (s : St) (lv : Value) (l : List (Int × Int)) (w : World) (h : StW w g R s) (hr : RowV w lv l.length 2 (vcs l)) :
    Calls Tryz.prog 134 #[.pointer (some ⟨g, 0, none⟩), lv] w fun e w' => e = .returned (.bool (l.all (sdV s.os.length s.ns.length))) ∧ Below w.heap.size w w' := by
  have HR := Lib.hid hr
  have HS := Lib.hid h
  have hmx : l.length ≤ 9223372036854775807 := by have := hr.2.1; unfold maxLen at this; omega
  obtain ⟨ao, cap, rfl⟩ : ∃ a c, lv = .slice a l.length c := by obtain ⟨_, _, a, c, e, _⟩ := hr; exact ⟨a, c, e⟩
  clear h hr
  go_enter Tryz.func134, Tryz.ntmps134
  go_wp2_with fail
  go_loopw [9] (fun v wr => ∃ k : Nat, k ≤ l.length ∧ v = .int .i64 (k : Nat) ∧ (∀ (j : Nat) (h : j < l.length), j < k → sdV s.os.length s.ns.length (l[j]'h) = true) ∧ Below w.heap.size w wr) (fun v _ => l.length - (intOf v).toNat)
  case atStart => exact ⟨0, Nat.zero_le _, rfl, fun j _ h => by omega, Below.refl _ _⟩
  case round =>
    obtain ⟨k, hk, rfl, hall, hbel⟩ := hrel
    have HALL := Lib.hid hall
    have HBL := Lib.hid hbel
    have HST := Lib.hid (HS.out.below hbel)
    clear hall
    by_cases hin : k < l.length
    · have hii : ((k : Nat) : Int) < ((l.length : Nat) : Int) := by omega
      obtain ⟨b, off, cap', e, hb, p0, p1⟩ := vrow_at (HR.out.below hbel) hin
      simp only [Value.slice.injEq, true_and] at e
      obtain ⟨rfl, rfl⟩ := e
      clear hbel
      generalize hx : l[k] = x at *
      have HX := Lib.hid hx
      clear hx
      go_wp2_with fail
      clear p0 p1
      refine (stsound_any g R s x _ (HST.out.below (by repeat (first | exact Below.refl _ _ | refine Below.setCell ?_ (by simp) _ | refine Below.alloc ?_ (by simp) _)))).mono ?_
      rintro e w3 ⟨rfl, hb3⟩
      have HB3 : Hid (Below w.heap.size w w3) := Lib.hid (HBL.out.trans (Below.trans (by repeat (first | exact Below.refl _ _ | refine Below.setCell ?_ (by simp; have := HBL.out.size; omega) _ | refine Below.alloc ?_ (by have := HBL.out.size; simpa using this) _)) (hb3.mono (by have := HBL.out.size; simp; omega))))
      clear hb3
      cases hs : sdV s.os.length s.ns.length x with
      | false =>
        have HNO : Hid (l.all (sdV s.os.length s.ns.length) = false) := Lib.hid (by rw [List.all_eq_false]; exact ⟨x, by rw [← HX.out]; exact List.getElem_mem hin, by rw [hs]; simp⟩)
        clear hs
        go_wp2_with fail
        go_ret
        exact ⟨by rw [HNO.out]; rfl, HB3.out⟩
      | true =>
        have HY := Lib.hid hs
        clear hs
        go_wp2_with fail
        go_roundw
        case measure => simp only [intOf]; omega
        case rel =>
          refine ⟨k + 1, by omega, by go_num, fun j h hj => ?_, HB3.out⟩
          rcases Nat.lt_or_eq_of_le (Nat.le_of_lt_succ hj) with h2 | h2
          · exact HALL.out j h h2
          · subst h2; rw [HX.out]; exact HY.out
    · obtain rfl : k = l.length := by omega
      have HYES : Hid (l.all (sdV s.os.length s.ns.length) = true) := Lib.hid (by
        rw [List.all_eq_true]
        intro x hx
        obtain ⟨j, hj, rfl⟩ := List.getElem_of_mem hx
        exact HALL.out j hj hj)
      clear hbel
      go_wp2_with fail
      go_ret
      exact ⟨by rw [HYES.out]; rfl, HBL.out⟩

/-- What find answers: where the object is, or nil. -/
def FindPost (s : St) (ov : Value) (v : Int × Int) (w : World) (e : Ending) (w' : World) : Prop :=
  Below w.heap.size w w' ∧ ((s.obj v = none ∧ e = .returned (.pointer none)) ∨ ∃ b cap, (s.obj v).isSome = true ∧ ov = .slice (some ⟨b, 0, none⟩) s.os.length cap ∧ e = .returned (.pointer (some ⟨b, v.2.toNat * 4, none⟩)))

set_option maxRecDepth 100000 in
set_option maxHeartbeats 2000000 in
theorem stfind_any (g : Nat) (R : Nat → Nat) (s : St) (ms : List OM) (ov nv mv : Value) (v : Int × Int) (w : World) (h : StM w g R s ms ov nv mv) :
    Calls Tryz.prog 148 #[.pointer (some ⟨g, 0, none⟩), vV v] w (FindPost s ov v w) := by
  have HM := Lib.hid h
  have hol := h.len
  have HB1 := Lib.hid (below1 w (.cells #[.int .i64 v.1, .int .i64 v.2] 29))
  have HN1 := Lib.hid (box1 w #[.int .i64 v.1, .int .i64 v.2] 29)
  have hgl := h.glt
  obtain ⟨oo, oc, hov⟩ := own_dslice h.orow
  have hmx := h.ok.len
  clear h
  obtain ⟨t, n⟩ := v
  unfold vV
  simp only at *
  by_cases h7 : t = 7
  · subst h7
    go_enter Tryz.func148, Tryz.ntmps148
    go_wp2_with fail
    refine (stsound_any g R s (7, n) _ ⟨ms, ov, nv, mv, HM.out.below HB1.out⟩).mono ?_
    rintro e w1 ⟨rfl, hb1⟩
    have HB2 := Lib.hid (HB1.out.trans (hb1.mono (by simp)))
    have hbx := (hb1.block w.heap.size (by simp)).trans HN1.out
    obtain ⟨p0, p1, _⟩ := row2 hbx
    rw [sdV_obj rfl]
    obtain ⟨c0, c1, c2, c3, c4, _⟩ := (HM.out.below HB2.out).boxf
    clear hb1 hbx
    by_cases hn : 0 ≤ n ∧ n < (s.os.length : Int)
    · have hd : decide (0 ≤ ((7 : Int), n).2 ∧ ((7 : Int), n).2 < (s.os.length : Int)) = true := by simpa using hn
      rw [hd]
      have HO : Hid ((s.obj (7, n)).isSome = true) := Lib.hid (by rw [St.obj_sound 0, sdV_obj rfl]; simpa using hn)
      obtain ⟨b, cap, e, _, _, hbl, _⟩ := HM.out.objAt (i := n.toNat) (by omega)
      rw [e] at hov c2
      obtain ⟨hn0, hn1⟩ := hn
      have hn2 : n < ((ms.length : Nat) : Int) := by omega
      have HE := Lib.hid e
      clear hd hov e
      go_wp2_with fail
      go_quiet (fail)
      go_wp2_with fail
      go_ret
      exact ⟨below_drewN HB2.out _, .inr ⟨b, cap, HO.out, by rw [hol]; exact HE.out, by simp⟩⟩
    · have hd : decide (0 ≤ ((7 : Int), n).2 ∧ ((7 : Int), n).2 < (s.os.length : Int)) = false := by simpa using hn
      rw [hd]
      have HO : Hid (s.obj (7, n) = none) := Lib.hid (by
        have := St.obj_sound (s := s) (v := (7, n)) 0
        rw [sdV_obj rfl, hd] at this
        simpa using this)
      clear hd hn
      go_wp2_with fail
      go_ret
      exact ⟨HB2.out, .inl ⟨HO.out, rfl⟩⟩
  · have e7 : (t != 7) = true := by rw [bne_iff_ne]; exact h7
    have HO : Hid (s.obj (t, n) = none) := Lib.hid (by unfold St.obj; rw [if_neg (fun h => h7 h.1)])
    clear h7
    go_enter Tryz.func148, Tryz.ntmps148
    go_wp2_with fail
    go_ret
    exact ⟨HB1.out, .inl ⟨HO.out, rfl⟩⟩
end Go.Proofs.YtocladhggcaokaaGreatDoor
