/- The document's answer's list, read: Sound, cells, Slots, Kind, Get. -/
import Derived.Test.YtioidaojnbenbaaRsMem
import Derived.Laws.StructEq
import Derived.Test.YtioidaojnbenbaaOrdG
namespace Go.Proofs.Ytioidaojnbenbaa
open Go.RowKit

set_option maxRecDepth 100000 in
set_option maxHeartbeats 2000000 in
theorem rsound_any (g : Nat) (Q : Nat → Nat) (s : St) (v : Int × Int) (w : World) (h : RsW w g Q s) :
    Calls Try.prog 12 #[.pointer (some ⟨g, 0, none⟩), .agg #[.int .i64 v.1, .int .i64 v.2]] w fun e w' => e = .returned (.bool (sdV s.os.length s.ns.length v)) ∧ Below w.heap.size w w' := by
  obtain ⟨ms, ov, nv, hm⟩ := h
  have hol := hm.len
  obtain ⟨⟨c0, c1, c2, c3⟩, _⟩ := (hm.below (below1 w (.cells #[.int .i64 v.1, .int .i64 v.2] 35))).boxf
  obtain ⟨oo, oc, rfl⟩ := own_dslice hm.orow
  obtain ⟨no, nc, rfl⟩ := own_dslice hm.nrow
  rw [← hol] at c2
  have hgl := hm.glt
  have HB1 := Lib.hid (below1 w (.cells #[.int .i64 v.1, .int .i64 v.2] 35))
  have hg1 := (hm.below HB1.out).glt
  have HG1 := Lib.hid hg1
  clear hm hg1
  obtain ⟨t, n⟩ := v
  simp only at *
  have HN0 := Lib.hid (box1 w #[.int .i64 t, .int .i64 n] 35)
  obtain ⟨w1, hw1⟩ : ∃ w1, w.alloc (.cells #[.int .i64 t, .int .i64 n] 35) = w1 := ⟨_, rfl⟩
  rw [hw1] at c0 c1 c2 c3 HB1 HG1 HN0
  have HW1 := Lib.hid hw1
  obtain ⟨p0, p1, q0, _⟩ := row2 HN0.out
  rcases (by omega : t = 0 ∨ t = 1 ∨ t = 2 ∨ t = 3 ∨ t = 9 ∨ t = 4 ∨ t = 5 ∨ t = 6 ∨ t = 7 ∨ t = 8 ∨ (t ≠ 0 ∧ t ≠ 1 ∧ t ≠ 2 ∧ t ≠ 3 ∧ t ≠ 9 ∧ t ≠ 4 ∧ t ≠ 5 ∧ t ≠ 6 ∧ t ≠ 7 ∧ t ≠ 8)) with rfl | rfl | rfl | rfl | rfl | rfl | rfl | rfl | rfl | rfl | ⟨h0, h1, h2, h3, h9, h4, h5, h6, h7, h8⟩
  iterate 5
    · go_enter Try.func12, Try.ntmps12
      go_upto_region 1 with fail
      go_wp2_with fail
      go_ret
      exact ⟨ret_bl (by unfold sdV; rw [Bool.eq_iff_iff]; simp), HB1.out⟩
  · go_enter Try.func12, Try.ntmps12
    go_upto_region 1 with fail
    go_wp2_with fail
    go_ret
    exact ⟨ret_bl (by unfold sdV; simp), HB1.out⟩
  · go_enter Try.func12, Try.ntmps12
    go_upto_region 1 with fail
    go_wp2_with fail
    refine (rscalar_any _ _).mono ?_
    rintro e w1 ⟨rfl, rfl⟩
    go_wp2_with fail
    go_ret
    exact ⟨ret_bl (by unfold sdV; simp), HB1.out⟩
  · have HXS : Hid (∀ W, Below w1.heap.size w1 W → W.cell? ⟨g, 2, none⟩ = some (.slice oo s.os.length oc) ∧ W.cell? ⟨g, 3, none⟩ = some (.slice no s.ns.length nc) ∧ W.cell? ⟨w.heap.size, 1, none⟩ = some (.int .i64 n)) := Lib.hid fun W hW => ⟨(hW.cell (p := ⟨g, 2, none⟩) HG1.out).trans c2, (hW.cell (p := ⟨g, 3, none⟩) HG1.out).trans c3, (hW.cell (p := ⟨w.heap.size, 1, none⟩) (Array.getElem?_eq_some_iff.1 HN0.out).1).trans p1⟩
    by_cases hn : 0 ≤ n
    · have hd : decide (0 ≤ n) = true := by simpa using hn
      have hd2 : decide (n ≥ 0) = true := by simpa using hn
      go_enter Try.func12, Try.ntmps12
      go_upto_region 1 with fail
      go_upto_region 13 with fail
      clear c2 c3 p0 p1 q0
      refine wp_region_slotsG (psi [isV (.pointer (some ⟨w.heap.size, 1, none⟩)), isV (.int .i64 n), isV (.bool true), isV (.bool true), isV (.pointer (some ⟨w.heap.size, 1, none⟩)), isV (.int .i64 n), isV (.pointer (some ⟨g, 0, none⟩)), isV (.pointer (some ⟨g, 0, none⟩)), isV (.pointer (some ⟨g, 3, none⟩)), isV (.slice no s.ns.length nc), isV (.int .i64 ((s.ns.length : Nat) : Int)), isV (.bool (decide (n < ((s.ns.length : Nat) : Int)))), isV (.bool (decide (n < ((s.ns.length : Nat) : Int)))), isV (.bool (decide (n < ((s.ns.length : Nat) : Int))))]) (fun W => Below w1.heap.size w1 W) (by kernel_rfl) (Below.refl _ _).drew (psi_mono ?_) (by kernel_rfl) (by kernel_rfl) ?_ ?_
      · intro p hp
        simp only [List.mem_cons, List.not_mem_nil, or_false] at hp
        (repeat' rcases hp with rfl | hp) <;> first | exact isV_stays _ | (subst hp; exact isV_stays _)
      · refine AllOps.cons ?_ ?_
        · intro aa W hC hB hdep
          refine .inl ⟨rfl, ?_⟩
          have b0 : aa.tmps.getD 3 undef = .pointer (some ⟨w.heap.size, 0, none⟩) := hB.off 3 (by kernel_rfl)
          clear hB hdep
          refine goes_value (v := .pointer (some ⟨w.heap.size, 1, none⟩)) ?_ hC rfl
          simp only [execOp, Act.eval, b0]
          go_simp
        refine AllOps.cons ?_ ?_
        · intro aa W hC hB hdep
          refine .inl ⟨rfl, ?_⟩
          obtain ⟨x0, (q0 : x0 = .pointer (some ⟨w.heap.size, 1, none⟩)), e0⟩ := hdep 0 25 (by kernel_rfl)
          subst q0
          obtain ⟨k2, k3, k1⟩ := HXS.out W hC
          clear hB hdep
          refine goes_value (v := .int .i64 n) ?_ hC rfl
          simp only [execOp, Act.eval, e0]
          go_simp
        refine AllOps.cons ?_ ?_
        · intro aa W hC hB hdep
          refine .inl ⟨rfl, ?_⟩
          obtain ⟨x0, (q0 : x0 = .int .i64 n), e0⟩ := hdep 1 26 (by kernel_rfl)
          subst q0
          clear hB hdep
          refine goes_value (v := .bool true) ?_ hC rfl
          simp only [execOp, Act.eval, e0]
          go_simp
        refine AllOps.cons ?_ ?_
        · intro aa W hC hB hdep
          refine .inl ⟨rfl, ?_⟩
          obtain ⟨x0, (q0 : x0 = .bool true), e0⟩ := hdep 2 27 (by kernel_rfl)
          subst q0
          clear hB hdep
          refine goes_value (v := .bool true) ?_ hC rfl
          simp only [execOp, Act.eval, e0]
          go_simp
        refine AllOps.cons ?_ ?_
        · intro aa W hC hB hdep
          obtain ⟨xg, (qg : xg = .bool true), eg⟩ := hdep 3 28 (by kernel_rfl)
          subst qg
          refine .inl ⟨(wanted_is (g := 3) (t := 28) (b := true) (c := true) rfl rfl (by rw [hB.size]; exact Nat.le_of_ble_eq_true rfl) eg).trans rfl, ?_⟩
          have b0 : aa.tmps.getD 3 undef = .pointer (some ⟨w.heap.size, 0, none⟩) := hB.off 3 (by kernel_rfl)
          clear hB hdep
          refine goes_value (v := .pointer (some ⟨w.heap.size, 1, none⟩)) ?_ hC rfl
          simp only [execOp, Act.eval, b0]
          go_simp
        refine AllOps.cons ?_ ?_
        · intro aa W hC hB hdep
          obtain ⟨xg, (qg : xg = .bool true), eg⟩ := hdep 3 28 (by kernel_rfl)
          subst qg
          refine .inl ⟨(wanted_is (g := 3) (t := 28) (b := true) (c := true) rfl rfl (by rw [hB.size]; exact Nat.le_of_ble_eq_true rfl) eg).trans rfl, ?_⟩
          obtain ⟨x0, (q0 : x0 = .pointer (some ⟨w.heap.size, 1, none⟩)), e0⟩ := hdep 4 29 (by kernel_rfl)
          subst q0
          obtain ⟨k2, k3, k1⟩ := HXS.out W hC
          clear hB hdep
          refine goes_value (v := .int .i64 n) ?_ hC rfl
          simp only [execOp, Act.eval, e0]
          go_simp
        refine AllOps.cons ?_ ?_
        · intro aa W hC hB hdep
          obtain ⟨xg, (qg : xg = .bool true), eg⟩ := hdep 3 28 (by kernel_rfl)
          subst qg
          refine .inl ⟨(wanted_is (g := 3) (t := 28) (b := true) (c := true) rfl rfl (by rw [hB.size]; exact Nat.le_of_ble_eq_true rfl) eg).trans rfl, ?_⟩
          have b0 : aa.tmps.getD 0 undef = .pointer (some ⟨g, 0, none⟩) := hB.off 0 (by kernel_rfl)
          clear hB hdep
          refine goes_value (v := .pointer (some ⟨g, 0, none⟩)) ?_ hC rfl
          simp only [execOp, Act.eval, b0]
          go_simp
        refine AllOps.cons ?_ ?_
        · intro aa W hC hB hdep
          obtain ⟨xg, (qg : xg = .bool true), eg⟩ := hdep 3 28 (by kernel_rfl)
          subst qg
          refine .inl ⟨(wanted_is (g := 3) (t := 28) (b := true) (c := true) rfl rfl (by rw [hB.size]; exact Nat.le_of_ble_eq_true rfl) eg).trans rfl, ?_⟩
          obtain ⟨x0, (q0 : x0 = .pointer (some ⟨g, 0, none⟩)), e0⟩ := hdep 6 31 (by kernel_rfl)
          subst q0
          clear hB hdep
          refine goes_value (v := .pointer (some ⟨g, 0, none⟩)) ?_ hC rfl
          simp only [execOp, Act.eval, e0]
          go_simp
        refine AllOps.cons ?_ ?_
        · intro aa W hC hB hdep
          obtain ⟨xg, (qg : xg = .bool true), eg⟩ := hdep 3 28 (by kernel_rfl)
          subst qg
          refine .inl ⟨(wanted_is (g := 3) (t := 28) (b := true) (c := true) rfl rfl (by rw [hB.size]; exact Nat.le_of_ble_eq_true rfl) eg).trans rfl, ?_⟩
          obtain ⟨x0, (q0 : x0 = .pointer (some ⟨g, 0, none⟩)), e0⟩ := hdep 7 32 (by kernel_rfl)
          subst q0
          clear hB hdep
          refine goes_value (v := .pointer (some ⟨g, 3, none⟩)) ?_ hC rfl
          simp only [execOp, Act.eval, e0]
          go_simp
        refine AllOps.cons ?_ ?_
        · intro aa W hC hB hdep
          obtain ⟨xg, (qg : xg = .bool true), eg⟩ := hdep 3 28 (by kernel_rfl)
          subst qg
          refine .inl ⟨(wanted_is (g := 3) (t := 28) (b := true) (c := true) rfl rfl (by rw [hB.size]; exact Nat.le_of_ble_eq_true rfl) eg).trans rfl, ?_⟩
          obtain ⟨x0, (q0 : x0 = .pointer (some ⟨g, 3, none⟩)), e0⟩ := hdep 8 33 (by kernel_rfl)
          subst q0
          obtain ⟨k2, k3, k1⟩ := HXS.out W hC
          clear hB hdep
          refine goes_value (v := .slice no s.ns.length nc) ?_ hC rfl
          simp only [execOp, Act.eval, e0]
          go_simp
        refine AllOps.cons ?_ ?_
        · intro aa W hC hB hdep
          obtain ⟨xg, (qg : xg = .bool true), eg⟩ := hdep 3 28 (by kernel_rfl)
          subst qg
          refine .inl ⟨(wanted_is (g := 3) (t := 28) (b := true) (c := true) rfl rfl (by rw [hB.size]; exact Nat.le_of_ble_eq_true rfl) eg).trans rfl, ?_⟩
          obtain ⟨x0, (q0 : x0 = .slice no s.ns.length nc), e0⟩ := hdep 9 34 (by kernel_rfl)
          subst q0
          clear hB hdep
          refine goes_value (v := .int .i64 ((s.ns.length : Nat) : Int)) ?_ hC rfl
          simp only [execOp]
          go_simp
        refine AllOps.cons ?_ ?_
        · intro aa W hC hB hdep
          obtain ⟨xg, (qg : xg = .bool true), eg⟩ := hdep 3 28 (by kernel_rfl)
          subst qg
          refine .inl ⟨(wanted_is (g := 3) (t := 28) (b := true) (c := true) rfl rfl (by rw [hB.size]; exact Nat.le_of_ble_eq_true rfl) eg).trans rfl, ?_⟩
          obtain ⟨x0, (q0 : x0 = .int .i64 n), e0⟩ := hdep 5 30 (by kernel_rfl)
          subst q0
          obtain ⟨x1, (q1 : x1 = .int .i64 ((s.ns.length : Nat) : Int)), e1⟩ := hdep 10 35 (by kernel_rfl)
          subst q1
          clear hB hdep
          refine goes_value (v := .bool (decide (n < ((s.ns.length : Nat) : Int)))) ?_ hC rfl
          simp only [execOp, Act.eval, e0, e1]
          go_simp
        refine AllOps.cons ?_ ?_
        · intro aa W hC hB hdep
          refine .inl ⟨rfl, ?_⟩
          obtain ⟨x0, (q0 : x0 = .bool true), e0⟩ := hdep 3 28 (by kernel_rfl)
          subst q0
          obtain ⟨x1, (q1 : x1 = .bool (decide (n < ((s.ns.length : Nat) : Int)))), e1⟩ := hdep 11 36 (by kernel_rfl)
          subst q1
          clear hB hdep
          refine goes_value (v := .bool (decide (n < ((s.ns.length : Nat) : Int)))) ?_ hC rfl
          simp only [execOp, Act.eval, e0, e1]
          go_simp
        refine AllOps.cons ?_ ?_
        · intro aa W hC hB hdep
          refine .inl ⟨rfl, ?_⟩
          obtain ⟨x0, (q0 : x0 = .bool (decide (n < ((s.ns.length : Nat) : Int)))), e0⟩ := hdep 12 37 (by kernel_rfl)
          subst q0
          clear hB hdep
          refine goes_value (v := .bool (decide (n < ((s.ns.length : Nat) : Int)))) ?_ hC rfl
          simp only [execOp, Act.eval, e0]
          go_simp
        exact trivial
      · intro aa w8 hC hB hall
        have hv : ∀ p ∈ [((25 : Nat), (.pointer (some ⟨w.heap.size, 1, none⟩) : Value)), ((26 : Nat), (.int .i64 n : Value)), ((27 : Nat), (.bool true : Value)), ((28 : Nat), (.bool true : Value)), ((29 : Nat), (.pointer (some ⟨w.heap.size, 1, none⟩) : Value)), ((30 : Nat), (.int .i64 n : Value)), ((31 : Nat), (.pointer (some ⟨g, 0, none⟩) : Value)), ((32 : Nat), (.pointer (some ⟨g, 0, none⟩) : Value)), ((33 : Nat), (.pointer (some ⟨g, 3, none⟩) : Value)), ((34 : Nat), (.slice no s.ns.length nc : Value)), ((35 : Nat), (.int .i64 ((s.ns.length : Nat) : Int) : Value)), ((36 : Nat), (.bool (decide (n < ((s.ns.length : Nat) : Int))) : Value)), ((37 : Nat), (.bool (decide (n < ((s.ns.length : Nat) : Int))) : Value)), ((4 : Nat), (.bool (decide (n < ((s.ns.length : Nat) : Int))) : Value))], aa.tmps.getD p.1 undef = p.2 := by
          obtain ⟨_, (k0 : _ = _), e0⟩ := hall 0 _ rfl
          obtain ⟨_, (k1 : _ = _), e1⟩ := hall 1 _ rfl
          obtain ⟨_, (k2 : _ = _), e2⟩ := hall 2 _ rfl
          obtain ⟨_, (k3 : _ = _), e3⟩ := hall 3 _ rfl
          obtain ⟨_, (k4 : _ = _), e4⟩ := hall 4 _ rfl
          obtain ⟨_, (k5 : _ = _), e5⟩ := hall 5 _ rfl
          obtain ⟨_, (k6 : _ = _), e6⟩ := hall 6 _ rfl
          obtain ⟨_, (k7 : _ = _), e7⟩ := hall 7 _ rfl
          obtain ⟨_, (k8 : _ = _), e8⟩ := hall 8 _ rfl
          obtain ⟨_, (k9 : _ = _), e9⟩ := hall 9 _ rfl
          obtain ⟨_, (k10 : _ = _), e10⟩ := hall 10 _ rfl
          obtain ⟨_, (k11 : _ = _), e11⟩ := hall 11 _ rfl
          obtain ⟨_, (k12 : _ = _), e12⟩ := hall 12 _ rfl
          obtain ⟨_, (k13 : _ = _), e13⟩ := hall 13 _ rfl
          subst k0 k1 k2 k3 k4 k5 k6 k7 k8 k9 k10 k11 k12 k13
          intro p hp
          simp only [List.mem_cons, List.not_mem_nil, or_false] at hp
          rcases hp with rfl | rfl | rfl | rfl | rfl | rfl | rfl | rfl | rfl | rfl | rfl | rfl | rfl | rfl
          · exact e0 _ rfl
          · exact e1 _ rfl
          · exact e2 _ rfl
          · exact e3 _ rfl
          · exact e4 _ rfl
          · exact e5 _ rfl
          · exact e6 _ rfl
          · exact e7 _ rfl
          · exact e8 _ rfl
          · exact e9 _ rfl
          · exact e10 _ rfl
          · exact e11 _ rfl
          · exact e12 _ rfl
          · exact e13 _ rfl
        have hact := act_fold _ hB hv (by kernel_rfl)
        subst hact
        clear hv hall hB
        refine (‹∀ (a : Act) (w : World), Code.wp Try.prog _ _ a w → _›) _ w8 ?_
        simp only [List.foldl, List.setIfInBounds_toArray, List.set_cons_succ, List.set_cons_zero]
        go_wp2_with fail
        go_ret
        exact ⟨ret_bl (by unfold sdV; rw [Bool.eq_iff_iff]; simp; omega), HB1.out.trans (hC.mono HB1.out.size)⟩
    · have hd : decide (0 ≤ n) = false := by simpa using hn
      have hd2 : decide (n ≥ 0) = false := by simpa using hn
      go_enter Try.func12, Try.ntmps12
      go_upto_region 1 with fail
      go_upto_region 13 with fail
      clear c2 c3 p0 p1 q0
      refine wp_region_slotsG (psi [isV (.pointer (some ⟨w.heap.size, 1, none⟩)), isV (.int .i64 n), isV (.bool false), isV (.bool false), isV (undef), isV (undef), isV (undef), isV (undef), isV (undef), isV (undef), isV (undef), isV (undef), isV (.bool false), isV (.bool false)]) (fun W => Below w1.heap.size w1 W) (by kernel_rfl) (Below.refl _ _).drew (psi_mono ?_) (by kernel_rfl) (by kernel_rfl) ?_ ?_
      · intro p hp
        simp only [List.mem_cons, List.not_mem_nil, or_false] at hp
        (repeat' rcases hp with rfl | hp) <;> first | exact isV_stays _ | (subst hp; exact isV_stays _)
      · refine AllOps.cons ?_ ?_
        · intro aa W hC hB hdep
          refine .inl ⟨rfl, ?_⟩
          have b0 : aa.tmps.getD 3 undef = .pointer (some ⟨w.heap.size, 0, none⟩) := hB.off 3 (by kernel_rfl)
          clear hB hdep
          refine goes_value (v := .pointer (some ⟨w.heap.size, 1, none⟩)) ?_ hC rfl
          simp only [execOp, Act.eval, b0]
          go_simp
        refine AllOps.cons ?_ ?_
        · intro aa W hC hB hdep
          refine .inl ⟨rfl, ?_⟩
          obtain ⟨x0, (q0 : x0 = .pointer (some ⟨w.heap.size, 1, none⟩)), e0⟩ := hdep 0 25 (by kernel_rfl)
          subst q0
          obtain ⟨k2, k3, k1⟩ := HXS.out W hC
          clear hB hdep
          refine goes_value (v := .int .i64 n) ?_ hC rfl
          simp only [execOp, Act.eval, e0]
          go_simp
        refine AllOps.cons ?_ ?_
        · intro aa W hC hB hdep
          refine .inl ⟨rfl, ?_⟩
          obtain ⟨x0, (q0 : x0 = .int .i64 n), e0⟩ := hdep 1 26 (by kernel_rfl)
          subst q0
          clear hB hdep
          refine goes_value (v := .bool false) ?_ hC rfl
          simp only [execOp, Act.eval, e0]
          go_simp
        refine AllOps.cons ?_ ?_
        · intro aa W hC hB hdep
          refine .inl ⟨rfl, ?_⟩
          obtain ⟨x0, (q0 : x0 = .bool false), e0⟩ := hdep 2 27 (by kernel_rfl)
          subst q0
          clear hB hdep
          refine goes_value (v := .bool false) ?_ hC rfl
          simp only [execOp, Act.eval, e0]
          go_simp
        refine AllOps.cons ?_ ?_
        · intro aa W hC hB hdep
          obtain ⟨xg, (qg : xg = .bool false), eg⟩ := hdep 3 28 (by kernel_rfl)
          subst qg
          exact .inr ⟨(wanted_is (g := 3) (t := 28) (b := true) (c := false) rfl rfl (by rw [hB.size]; exact Nat.le_of_ble_eq_true rfl) eg).trans rfl, rfl⟩
        refine AllOps.cons ?_ ?_
        · intro aa W hC hB hdep
          obtain ⟨xg, (qg : xg = .bool false), eg⟩ := hdep 3 28 (by kernel_rfl)
          subst qg
          exact .inr ⟨(wanted_is (g := 3) (t := 28) (b := true) (c := false) rfl rfl (by rw [hB.size]; exact Nat.le_of_ble_eq_true rfl) eg).trans rfl, rfl⟩
        refine AllOps.cons ?_ ?_
        · intro aa W hC hB hdep
          obtain ⟨xg, (qg : xg = .bool false), eg⟩ := hdep 3 28 (by kernel_rfl)
          subst qg
          exact .inr ⟨(wanted_is (g := 3) (t := 28) (b := true) (c := false) rfl rfl (by rw [hB.size]; exact Nat.le_of_ble_eq_true rfl) eg).trans rfl, rfl⟩
        refine AllOps.cons ?_ ?_
        · intro aa W hC hB hdep
          obtain ⟨xg, (qg : xg = .bool false), eg⟩ := hdep 3 28 (by kernel_rfl)
          subst qg
          exact .inr ⟨(wanted_is (g := 3) (t := 28) (b := true) (c := false) rfl rfl (by rw [hB.size]; exact Nat.le_of_ble_eq_true rfl) eg).trans rfl, rfl⟩
        refine AllOps.cons ?_ ?_
        · intro aa W hC hB hdep
          obtain ⟨xg, (qg : xg = .bool false), eg⟩ := hdep 3 28 (by kernel_rfl)
          subst qg
          exact .inr ⟨(wanted_is (g := 3) (t := 28) (b := true) (c := false) rfl rfl (by rw [hB.size]; exact Nat.le_of_ble_eq_true rfl) eg).trans rfl, rfl⟩
        refine AllOps.cons ?_ ?_
        · intro aa W hC hB hdep
          obtain ⟨xg, (qg : xg = .bool false), eg⟩ := hdep 3 28 (by kernel_rfl)
          subst qg
          exact .inr ⟨(wanted_is (g := 3) (t := 28) (b := true) (c := false) rfl rfl (by rw [hB.size]; exact Nat.le_of_ble_eq_true rfl) eg).trans rfl, rfl⟩
        refine AllOps.cons ?_ ?_
        · intro aa W hC hB hdep
          obtain ⟨xg, (qg : xg = .bool false), eg⟩ := hdep 3 28 (by kernel_rfl)
          subst qg
          exact .inr ⟨(wanted_is (g := 3) (t := 28) (b := true) (c := false) rfl rfl (by rw [hB.size]; exact Nat.le_of_ble_eq_true rfl) eg).trans rfl, rfl⟩
        refine AllOps.cons ?_ ?_
        · intro aa W hC hB hdep
          obtain ⟨xg, (qg : xg = .bool false), eg⟩ := hdep 3 28 (by kernel_rfl)
          subst qg
          exact .inr ⟨(wanted_is (g := 3) (t := 28) (b := true) (c := false) rfl rfl (by rw [hB.size]; exact Nat.le_of_ble_eq_true rfl) eg).trans rfl, rfl⟩
        refine AllOps.cons ?_ ?_
        · intro aa W hC hB hdep
          refine .inl ⟨rfl, ?_⟩
          obtain ⟨x0, (q0 : x0 = .bool false), e0⟩ := hdep 3 28 (by kernel_rfl)
          subst q0
          obtain ⟨x1, (q1 : x1 = undef), e1⟩ := hdep 11 36 (by kernel_rfl)
          subst q1
          clear hB hdep
          refine goes_value (v := .bool false) ?_ hC rfl
          simp only [execOp, Act.eval, e0, e1]
          go_simp
        refine AllOps.cons ?_ ?_
        · intro aa W hC hB hdep
          refine .inl ⟨rfl, ?_⟩
          obtain ⟨x0, (q0 : x0 = .bool false), e0⟩ := hdep 12 37 (by kernel_rfl)
          subst q0
          clear hB hdep
          refine goes_value (v := .bool false) ?_ hC rfl
          simp only [execOp, Act.eval, e0]
          go_simp
        exact trivial
      · intro aa w8 hC hB hall
        have hv : ∀ p ∈ [((25 : Nat), (.pointer (some ⟨w.heap.size, 1, none⟩) : Value)), ((26 : Nat), (.int .i64 n : Value)), ((27 : Nat), (.bool false : Value)), ((28 : Nat), (.bool false : Value)), ((29 : Nat), (undef : Value)), ((30 : Nat), (undef : Value)), ((31 : Nat), (undef : Value)), ((32 : Nat), (undef : Value)), ((33 : Nat), (undef : Value)), ((34 : Nat), (undef : Value)), ((35 : Nat), (undef : Value)), ((36 : Nat), (undef : Value)), ((37 : Nat), (.bool false : Value)), ((4 : Nat), (.bool false : Value))], aa.tmps.getD p.1 undef = p.2 := by
          obtain ⟨_, (k0 : _ = _), e0⟩ := hall 0 _ rfl
          obtain ⟨_, (k1 : _ = _), e1⟩ := hall 1 _ rfl
          obtain ⟨_, (k2 : _ = _), e2⟩ := hall 2 _ rfl
          obtain ⟨_, (k3 : _ = _), e3⟩ := hall 3 _ rfl
          obtain ⟨_, (k4 : _ = _), e4⟩ := hall 4 _ rfl
          obtain ⟨_, (k5 : _ = _), e5⟩ := hall 5 _ rfl
          obtain ⟨_, (k6 : _ = _), e6⟩ := hall 6 _ rfl
          obtain ⟨_, (k7 : _ = _), e7⟩ := hall 7 _ rfl
          obtain ⟨_, (k8 : _ = _), e8⟩ := hall 8 _ rfl
          obtain ⟨_, (k9 : _ = _), e9⟩ := hall 9 _ rfl
          obtain ⟨_, (k10 : _ = _), e10⟩ := hall 10 _ rfl
          obtain ⟨_, (k11 : _ = _), e11⟩ := hall 11 _ rfl
          obtain ⟨_, (k12 : _ = _), e12⟩ := hall 12 _ rfl
          obtain ⟨_, (k13 : _ = _), e13⟩ := hall 13 _ rfl
          subst k0 k1 k2 k3 k4 k5 k6 k7 k8 k9 k10 k11 k12 k13
          intro p hp
          simp only [List.mem_cons, List.not_mem_nil, or_false] at hp
          rcases hp with rfl | rfl | rfl | rfl | rfl | rfl | rfl | rfl | rfl | rfl | rfl | rfl | rfl | rfl
          · exact e0 _ rfl
          · exact e1 _ rfl
          · exact e2 _ rfl
          · exact e3 _ rfl
          · exact e4 _ rfl
          · exact e5 _ rfl
          · exact e6 _ rfl
          · exact e7 _ rfl
          · exact e8 _ rfl
          · exact e9 _ rfl
          · exact e10 _ rfl
          · exact e11 _ rfl
          · exact e12 _ rfl
          · exact e13 _ rfl
        have hact := act_fold _ hB hv (by kernel_rfl)
        subst hact
        clear hv hall hB
        refine (‹∀ (a : Act) (w : World), Code.wp Try.prog _ _ a w → _›) _ w8 ?_
        simp only [List.foldl, List.setIfInBounds_toArray, List.set_cons_succ, List.set_cons_zero]
        go_wp2_with fail
        go_ret
        exact ⟨ret_bl (by unfold sdV; rw [Bool.eq_iff_iff]; simp; omega), HB1.out.trans (hC.mono HB1.out.size)⟩
  · have HXS : Hid (∀ W, Below w1.heap.size w1 W → W.cell? ⟨g, 2, none⟩ = some (.slice oo s.os.length oc) ∧ W.cell? ⟨g, 3, none⟩ = some (.slice no s.ns.length nc) ∧ W.cell? ⟨w.heap.size, 1, none⟩ = some (.int .i64 n)) := Lib.hid fun W hW => ⟨(hW.cell (p := ⟨g, 2, none⟩) HG1.out).trans c2, (hW.cell (p := ⟨g, 3, none⟩) HG1.out).trans c3, (hW.cell (p := ⟨w.heap.size, 1, none⟩) (Array.getElem?_eq_some_iff.1 HN0.out).1).trans p1⟩
    by_cases hn : 0 ≤ n
    · have hd : decide (0 ≤ n) = true := by simpa using hn
      have hd2 : decide (n ≥ 0) = true := by simpa using hn
      go_enter Try.func12, Try.ntmps12
      go_upto_region 1 with fail
      go_upto_region 15 with fail
      clear c2 c3 p0 p1 q0
      refine wp_region_slotsG (psi [isV (.pointer (some ⟨w.heap.size, 1, none⟩)), isV (.int .i64 n), isV (.bool true), isV (.bool true), isV (.pointer (some ⟨w.heap.size, 1, none⟩)), isV (.int .i64 n), isV (.pointer (some ⟨g, 0, none⟩)), isV (.pointer (some ⟨g, 0, none⟩)), isV (.pointer (some ⟨g, 2, none⟩)), isV (.slice oo s.os.length oc), isV (.int .i64 ((s.os.length : Nat) : Int)), isV (.bool (decide (n < ((s.os.length : Nat) : Int)))), isV (.bool (decide (n < ((s.os.length : Nat) : Int)))), isV (.bool (decide (n < ((s.os.length : Nat) : Int))))]) (fun W => Below w1.heap.size w1 W) (by kernel_rfl) (Below.refl _ _).drew (psi_mono ?_) (by kernel_rfl) (by kernel_rfl) ?_ ?_
      · intro p hp
        simp only [List.mem_cons, List.not_mem_nil, or_false] at hp
        (repeat' rcases hp with rfl | hp) <;> first | exact isV_stays _ | (subst hp; exact isV_stays _)
      · refine AllOps.cons ?_ ?_
        · intro aa W hC hB hdep
          refine .inl ⟨rfl, ?_⟩
          have b0 : aa.tmps.getD 3 undef = .pointer (some ⟨w.heap.size, 0, none⟩) := hB.off 3 (by kernel_rfl)
          clear hB hdep
          refine goes_value (v := .pointer (some ⟨w.heap.size, 1, none⟩)) ?_ hC rfl
          simp only [execOp, Act.eval, b0]
          go_simp
        refine AllOps.cons ?_ ?_
        · intro aa W hC hB hdep
          refine .inl ⟨rfl, ?_⟩
          obtain ⟨x0, (q0 : x0 = .pointer (some ⟨w.heap.size, 1, none⟩)), e0⟩ := hdep 0 40 (by kernel_rfl)
          subst q0
          obtain ⟨k2, k3, k1⟩ := HXS.out W hC
          clear hB hdep
          refine goes_value (v := .int .i64 n) ?_ hC rfl
          simp only [execOp, Act.eval, e0]
          go_simp
        refine AllOps.cons ?_ ?_
        · intro aa W hC hB hdep
          refine .inl ⟨rfl, ?_⟩
          obtain ⟨x0, (q0 : x0 = .int .i64 n), e0⟩ := hdep 1 41 (by kernel_rfl)
          subst q0
          clear hB hdep
          refine goes_value (v := .bool true) ?_ hC rfl
          simp only [execOp, Act.eval, e0]
          go_simp
        refine AllOps.cons ?_ ?_
        · intro aa W hC hB hdep
          refine .inl ⟨rfl, ?_⟩
          obtain ⟨x0, (q0 : x0 = .bool true), e0⟩ := hdep 2 42 (by kernel_rfl)
          subst q0
          clear hB hdep
          refine goes_value (v := .bool true) ?_ hC rfl
          simp only [execOp, Act.eval, e0]
          go_simp
        refine AllOps.cons ?_ ?_
        · intro aa W hC hB hdep
          obtain ⟨xg, (qg : xg = .bool true), eg⟩ := hdep 3 43 (by kernel_rfl)
          subst qg
          refine .inl ⟨(wanted_is (g := 3) (t := 43) (b := true) (c := true) rfl rfl (by rw [hB.size]; exact Nat.le_of_ble_eq_true rfl) eg).trans rfl, ?_⟩
          have b0 : aa.tmps.getD 3 undef = .pointer (some ⟨w.heap.size, 0, none⟩) := hB.off 3 (by kernel_rfl)
          clear hB hdep
          refine goes_value (v := .pointer (some ⟨w.heap.size, 1, none⟩)) ?_ hC rfl
          simp only [execOp, Act.eval, b0]
          go_simp
        refine AllOps.cons ?_ ?_
        · intro aa W hC hB hdep
          obtain ⟨xg, (qg : xg = .bool true), eg⟩ := hdep 3 43 (by kernel_rfl)
          subst qg
          refine .inl ⟨(wanted_is (g := 3) (t := 43) (b := true) (c := true) rfl rfl (by rw [hB.size]; exact Nat.le_of_ble_eq_true rfl) eg).trans rfl, ?_⟩
          obtain ⟨x0, (q0 : x0 = .pointer (some ⟨w.heap.size, 1, none⟩)), e0⟩ := hdep 4 44 (by kernel_rfl)
          subst q0
          obtain ⟨k2, k3, k1⟩ := HXS.out W hC
          clear hB hdep
          refine goes_value (v := .int .i64 n) ?_ hC rfl
          simp only [execOp, Act.eval, e0]
          go_simp
        refine AllOps.cons ?_ ?_
        · intro aa W hC hB hdep
          obtain ⟨xg, (qg : xg = .bool true), eg⟩ := hdep 3 43 (by kernel_rfl)
          subst qg
          refine .inl ⟨(wanted_is (g := 3) (t := 43) (b := true) (c := true) rfl rfl (by rw [hB.size]; exact Nat.le_of_ble_eq_true rfl) eg).trans rfl, ?_⟩
          have b0 : aa.tmps.getD 0 undef = .pointer (some ⟨g, 0, none⟩) := hB.off 0 (by kernel_rfl)
          clear hB hdep
          refine goes_value (v := .pointer (some ⟨g, 0, none⟩)) ?_ hC rfl
          simp only [execOp, Act.eval, b0]
          go_simp
        refine AllOps.cons ?_ ?_
        · intro aa W hC hB hdep
          obtain ⟨xg, (qg : xg = .bool true), eg⟩ := hdep 3 43 (by kernel_rfl)
          subst qg
          refine .inl ⟨(wanted_is (g := 3) (t := 43) (b := true) (c := true) rfl rfl (by rw [hB.size]; exact Nat.le_of_ble_eq_true rfl) eg).trans rfl, ?_⟩
          obtain ⟨x0, (q0 : x0 = .pointer (some ⟨g, 0, none⟩)), e0⟩ := hdep 6 46 (by kernel_rfl)
          subst q0
          clear hB hdep
          refine goes_value (v := .pointer (some ⟨g, 0, none⟩)) ?_ hC rfl
          simp only [execOp, Act.eval, e0]
          go_simp
        refine AllOps.cons ?_ ?_
        · intro aa W hC hB hdep
          obtain ⟨xg, (qg : xg = .bool true), eg⟩ := hdep 3 43 (by kernel_rfl)
          subst qg
          refine .inl ⟨(wanted_is (g := 3) (t := 43) (b := true) (c := true) rfl rfl (by rw [hB.size]; exact Nat.le_of_ble_eq_true rfl) eg).trans rfl, ?_⟩
          obtain ⟨x0, (q0 : x0 = .pointer (some ⟨g, 0, none⟩)), e0⟩ := hdep 7 47 (by kernel_rfl)
          subst q0
          clear hB hdep
          refine goes_value (v := .pointer (some ⟨g, 2, none⟩)) ?_ hC rfl
          simp only [execOp, Act.eval, e0]
          go_simp
        refine AllOps.cons ?_ ?_
        · intro aa W hC hB hdep
          obtain ⟨xg, (qg : xg = .bool true), eg⟩ := hdep 3 43 (by kernel_rfl)
          subst qg
          refine .inl ⟨(wanted_is (g := 3) (t := 43) (b := true) (c := true) rfl rfl (by rw [hB.size]; exact Nat.le_of_ble_eq_true rfl) eg).trans rfl, ?_⟩
          obtain ⟨x0, (q0 : x0 = .pointer (some ⟨g, 2, none⟩)), e0⟩ := hdep 8 48 (by kernel_rfl)
          subst q0
          obtain ⟨k2, k3, k1⟩ := HXS.out W hC
          clear hB hdep
          refine goes_value (v := .slice oo s.os.length oc) ?_ hC rfl
          simp only [execOp, Act.eval, e0]
          go_simp
        refine AllOps.cons ?_ ?_
        · intro aa W hC hB hdep
          obtain ⟨xg, (qg : xg = .bool true), eg⟩ := hdep 3 43 (by kernel_rfl)
          subst qg
          refine .inl ⟨(wanted_is (g := 3) (t := 43) (b := true) (c := true) rfl rfl (by rw [hB.size]; exact Nat.le_of_ble_eq_true rfl) eg).trans rfl, ?_⟩
          obtain ⟨x0, (q0 : x0 = .slice oo s.os.length oc), e0⟩ := hdep 9 49 (by kernel_rfl)
          subst q0
          clear hB hdep
          refine goes_value (v := .int .i64 ((s.os.length : Nat) : Int)) ?_ hC rfl
          simp only [execOp]
          go_simp
        refine AllOps.cons ?_ ?_
        · intro aa W hC hB hdep
          obtain ⟨xg, (qg : xg = .bool true), eg⟩ := hdep 3 43 (by kernel_rfl)
          subst qg
          refine .inl ⟨(wanted_is (g := 3) (t := 43) (b := true) (c := true) rfl rfl (by rw [hB.size]; exact Nat.le_of_ble_eq_true rfl) eg).trans rfl, ?_⟩
          obtain ⟨x0, (q0 : x0 = .int .i64 n), e0⟩ := hdep 5 45 (by kernel_rfl)
          subst q0
          obtain ⟨x1, (q1 : x1 = .int .i64 ((s.os.length : Nat) : Int)), e1⟩ := hdep 10 50 (by kernel_rfl)
          subst q1
          clear hB hdep
          refine goes_value (v := .bool (decide (n < ((s.os.length : Nat) : Int)))) ?_ hC rfl
          simp only [execOp, Act.eval, e0, e1]
          go_simp
        refine AllOps.cons ?_ ?_
        · intro aa W hC hB hdep
          refine .inl ⟨rfl, ?_⟩
          obtain ⟨x0, (q0 : x0 = .bool true), e0⟩ := hdep 3 43 (by kernel_rfl)
          subst q0
          obtain ⟨x1, (q1 : x1 = .bool (decide (n < ((s.os.length : Nat) : Int)))), e1⟩ := hdep 11 51 (by kernel_rfl)
          subst q1
          clear hB hdep
          refine goes_value (v := .bool (decide (n < ((s.os.length : Nat) : Int)))) ?_ hC rfl
          simp only [execOp, Act.eval, e0, e1]
          go_simp
        refine AllOps.cons ?_ ?_
        · intro aa W hC hB hdep
          refine .inl ⟨rfl, ?_⟩
          obtain ⟨x0, (q0 : x0 = .bool (decide (n < ((s.os.length : Nat) : Int)))), e0⟩ := hdep 12 52 (by kernel_rfl)
          subst q0
          clear hB hdep
          refine goes_value (v := .bool (decide (n < ((s.os.length : Nat) : Int)))) ?_ hC rfl
          simp only [execOp, Act.eval, e0]
          go_simp
        exact trivial
      · intro aa w8 hC hB hall
        have hv : ∀ p ∈ [((40 : Nat), (.pointer (some ⟨w.heap.size, 1, none⟩) : Value)), ((41 : Nat), (.int .i64 n : Value)), ((42 : Nat), (.bool true : Value)), ((43 : Nat), (.bool true : Value)), ((44 : Nat), (.pointer (some ⟨w.heap.size, 1, none⟩) : Value)), ((45 : Nat), (.int .i64 n : Value)), ((46 : Nat), (.pointer (some ⟨g, 0, none⟩) : Value)), ((47 : Nat), (.pointer (some ⟨g, 0, none⟩) : Value)), ((48 : Nat), (.pointer (some ⟨g, 2, none⟩) : Value)), ((49 : Nat), (.slice oo s.os.length oc : Value)), ((50 : Nat), (.int .i64 ((s.os.length : Nat) : Int) : Value)), ((51 : Nat), (.bool (decide (n < ((s.os.length : Nat) : Int))) : Value)), ((52 : Nat), (.bool (decide (n < ((s.os.length : Nat) : Int))) : Value)), ((4 : Nat), (.bool (decide (n < ((s.os.length : Nat) : Int))) : Value))], aa.tmps.getD p.1 undef = p.2 := by
          obtain ⟨_, (k0 : _ = _), e0⟩ := hall 0 _ rfl
          obtain ⟨_, (k1 : _ = _), e1⟩ := hall 1 _ rfl
          obtain ⟨_, (k2 : _ = _), e2⟩ := hall 2 _ rfl
          obtain ⟨_, (k3 : _ = _), e3⟩ := hall 3 _ rfl
          obtain ⟨_, (k4 : _ = _), e4⟩ := hall 4 _ rfl
          obtain ⟨_, (k5 : _ = _), e5⟩ := hall 5 _ rfl
          obtain ⟨_, (k6 : _ = _), e6⟩ := hall 6 _ rfl
          obtain ⟨_, (k7 : _ = _), e7⟩ := hall 7 _ rfl
          obtain ⟨_, (k8 : _ = _), e8⟩ := hall 8 _ rfl
          obtain ⟨_, (k9 : _ = _), e9⟩ := hall 9 _ rfl
          obtain ⟨_, (k10 : _ = _), e10⟩ := hall 10 _ rfl
          obtain ⟨_, (k11 : _ = _), e11⟩ := hall 11 _ rfl
          obtain ⟨_, (k12 : _ = _), e12⟩ := hall 12 _ rfl
          obtain ⟨_, (k13 : _ = _), e13⟩ := hall 13 _ rfl
          subst k0 k1 k2 k3 k4 k5 k6 k7 k8 k9 k10 k11 k12 k13
          intro p hp
          simp only [List.mem_cons, List.not_mem_nil, or_false] at hp
          rcases hp with rfl | rfl | rfl | rfl | rfl | rfl | rfl | rfl | rfl | rfl | rfl | rfl | rfl | rfl
          · exact e0 _ rfl
          · exact e1 _ rfl
          · exact e2 _ rfl
          · exact e3 _ rfl
          · exact e4 _ rfl
          · exact e5 _ rfl
          · exact e6 _ rfl
          · exact e7 _ rfl
          · exact e8 _ rfl
          · exact e9 _ rfl
          · exact e10 _ rfl
          · exact e11 _ rfl
          · exact e12 _ rfl
          · exact e13 _ rfl
        have hact := act_fold _ hB hv (by kernel_rfl)
        subst hact
        clear hv hall hB
        refine (‹∀ (a : Act) (w : World), Code.wp Try.prog _ _ a w → _›) _ w8 ?_
        simp only [List.foldl, List.setIfInBounds_toArray, List.set_cons_succ, List.set_cons_zero]
        go_wp2_with fail
        go_ret
        exact ⟨ret_bl (by unfold sdV; rw [Bool.eq_iff_iff]; simp; omega), HB1.out.trans (hC.mono HB1.out.size)⟩
    · have hd : decide (0 ≤ n) = false := by simpa using hn
      have hd2 : decide (n ≥ 0) = false := by simpa using hn
      go_enter Try.func12, Try.ntmps12
      go_upto_region 1 with fail
      go_upto_region 15 with fail
      clear c2 c3 p0 p1 q0
      refine wp_region_slotsG (psi [isV (.pointer (some ⟨w.heap.size, 1, none⟩)), isV (.int .i64 n), isV (.bool false), isV (.bool false), isV (undef), isV (undef), isV (undef), isV (undef), isV (undef), isV (undef), isV (undef), isV (undef), isV (.bool false), isV (.bool false)]) (fun W => Below w1.heap.size w1 W) (by kernel_rfl) (Below.refl _ _).drew (psi_mono ?_) (by kernel_rfl) (by kernel_rfl) ?_ ?_
      · intro p hp
        simp only [List.mem_cons, List.not_mem_nil, or_false] at hp
        (repeat' rcases hp with rfl | hp) <;> first | exact isV_stays _ | (subst hp; exact isV_stays _)
      · refine AllOps.cons ?_ ?_
        · intro aa W hC hB hdep
          refine .inl ⟨rfl, ?_⟩
          have b0 : aa.tmps.getD 3 undef = .pointer (some ⟨w.heap.size, 0, none⟩) := hB.off 3 (by kernel_rfl)
          clear hB hdep
          refine goes_value (v := .pointer (some ⟨w.heap.size, 1, none⟩)) ?_ hC rfl
          simp only [execOp, Act.eval, b0]
          go_simp
        refine AllOps.cons ?_ ?_
        · intro aa W hC hB hdep
          refine .inl ⟨rfl, ?_⟩
          obtain ⟨x0, (q0 : x0 = .pointer (some ⟨w.heap.size, 1, none⟩)), e0⟩ := hdep 0 40 (by kernel_rfl)
          subst q0
          obtain ⟨k2, k3, k1⟩ := HXS.out W hC
          clear hB hdep
          refine goes_value (v := .int .i64 n) ?_ hC rfl
          simp only [execOp, Act.eval, e0]
          go_simp
        refine AllOps.cons ?_ ?_
        · intro aa W hC hB hdep
          refine .inl ⟨rfl, ?_⟩
          obtain ⟨x0, (q0 : x0 = .int .i64 n), e0⟩ := hdep 1 41 (by kernel_rfl)
          subst q0
          clear hB hdep
          refine goes_value (v := .bool false) ?_ hC rfl
          simp only [execOp, Act.eval, e0]
          go_simp
        refine AllOps.cons ?_ ?_
        · intro aa W hC hB hdep
          refine .inl ⟨rfl, ?_⟩
          obtain ⟨x0, (q0 : x0 = .bool false), e0⟩ := hdep 2 42 (by kernel_rfl)
          subst q0
          clear hB hdep
          refine goes_value (v := .bool false) ?_ hC rfl
          simp only [execOp, Act.eval, e0]
          go_simp
        refine AllOps.cons ?_ ?_
        · intro aa W hC hB hdep
          obtain ⟨xg, (qg : xg = .bool false), eg⟩ := hdep 3 43 (by kernel_rfl)
          subst qg
          exact .inr ⟨(wanted_is (g := 3) (t := 43) (b := true) (c := false) rfl rfl (by rw [hB.size]; exact Nat.le_of_ble_eq_true rfl) eg).trans rfl, rfl⟩
        refine AllOps.cons ?_ ?_
        · intro aa W hC hB hdep
          obtain ⟨xg, (qg : xg = .bool false), eg⟩ := hdep 3 43 (by kernel_rfl)
          subst qg
          exact .inr ⟨(wanted_is (g := 3) (t := 43) (b := true) (c := false) rfl rfl (by rw [hB.size]; exact Nat.le_of_ble_eq_true rfl) eg).trans rfl, rfl⟩
        refine AllOps.cons ?_ ?_
        · intro aa W hC hB hdep
          obtain ⟨xg, (qg : xg = .bool false), eg⟩ := hdep 3 43 (by kernel_rfl)
          subst qg
          exact .inr ⟨(wanted_is (g := 3) (t := 43) (b := true) (c := false) rfl rfl (by rw [hB.size]; exact Nat.le_of_ble_eq_true rfl) eg).trans rfl, rfl⟩
        refine AllOps.cons ?_ ?_
        · intro aa W hC hB hdep
          obtain ⟨xg, (qg : xg = .bool false), eg⟩ := hdep 3 43 (by kernel_rfl)
          subst qg
          exact .inr ⟨(wanted_is (g := 3) (t := 43) (b := true) (c := false) rfl rfl (by rw [hB.size]; exact Nat.le_of_ble_eq_true rfl) eg).trans rfl, rfl⟩
        refine AllOps.cons ?_ ?_
        · intro aa W hC hB hdep
          obtain ⟨xg, (qg : xg = .bool false), eg⟩ := hdep 3 43 (by kernel_rfl)
          subst qg
          exact .inr ⟨(wanted_is (g := 3) (t := 43) (b := true) (c := false) rfl rfl (by rw [hB.size]; exact Nat.le_of_ble_eq_true rfl) eg).trans rfl, rfl⟩
        refine AllOps.cons ?_ ?_
        · intro aa W hC hB hdep
          obtain ⟨xg, (qg : xg = .bool false), eg⟩ := hdep 3 43 (by kernel_rfl)
          subst qg
          exact .inr ⟨(wanted_is (g := 3) (t := 43) (b := true) (c := false) rfl rfl (by rw [hB.size]; exact Nat.le_of_ble_eq_true rfl) eg).trans rfl, rfl⟩
        refine AllOps.cons ?_ ?_
        · intro aa W hC hB hdep
          obtain ⟨xg, (qg : xg = .bool false), eg⟩ := hdep 3 43 (by kernel_rfl)
          subst qg
          exact .inr ⟨(wanted_is (g := 3) (t := 43) (b := true) (c := false) rfl rfl (by rw [hB.size]; exact Nat.le_of_ble_eq_true rfl) eg).trans rfl, rfl⟩
        refine AllOps.cons ?_ ?_
        · intro aa W hC hB hdep
          obtain ⟨xg, (qg : xg = .bool false), eg⟩ := hdep 3 43 (by kernel_rfl)
          subst qg
          exact .inr ⟨(wanted_is (g := 3) (t := 43) (b := true) (c := false) rfl rfl (by rw [hB.size]; exact Nat.le_of_ble_eq_true rfl) eg).trans rfl, rfl⟩
        refine AllOps.cons ?_ ?_
        · intro aa W hC hB hdep
          refine .inl ⟨rfl, ?_⟩
          obtain ⟨x0, (q0 : x0 = .bool false), e0⟩ := hdep 3 43 (by kernel_rfl)
          subst q0
          obtain ⟨x1, (q1 : x1 = undef), e1⟩ := hdep 11 51 (by kernel_rfl)
          subst q1
          clear hB hdep
          refine goes_value (v := .bool false) ?_ hC rfl
          simp only [execOp, Act.eval, e0, e1]
          go_simp
        refine AllOps.cons ?_ ?_
        · intro aa W hC hB hdep
          refine .inl ⟨rfl, ?_⟩
          obtain ⟨x0, (q0 : x0 = .bool false), e0⟩ := hdep 12 52 (by kernel_rfl)
          subst q0
          clear hB hdep
          refine goes_value (v := .bool false) ?_ hC rfl
          simp only [execOp, Act.eval, e0]
          go_simp
        exact trivial
      · intro aa w8 hC hB hall
        have hv : ∀ p ∈ [((40 : Nat), (.pointer (some ⟨w.heap.size, 1, none⟩) : Value)), ((41 : Nat), (.int .i64 n : Value)), ((42 : Nat), (.bool false : Value)), ((43 : Nat), (.bool false : Value)), ((44 : Nat), (undef : Value)), ((45 : Nat), (undef : Value)), ((46 : Nat), (undef : Value)), ((47 : Nat), (undef : Value)), ((48 : Nat), (undef : Value)), ((49 : Nat), (undef : Value)), ((50 : Nat), (undef : Value)), ((51 : Nat), (undef : Value)), ((52 : Nat), (.bool false : Value)), ((4 : Nat), (.bool false : Value))], aa.tmps.getD p.1 undef = p.2 := by
          obtain ⟨_, (k0 : _ = _), e0⟩ := hall 0 _ rfl
          obtain ⟨_, (k1 : _ = _), e1⟩ := hall 1 _ rfl
          obtain ⟨_, (k2 : _ = _), e2⟩ := hall 2 _ rfl
          obtain ⟨_, (k3 : _ = _), e3⟩ := hall 3 _ rfl
          obtain ⟨_, (k4 : _ = _), e4⟩ := hall 4 _ rfl
          obtain ⟨_, (k5 : _ = _), e5⟩ := hall 5 _ rfl
          obtain ⟨_, (k6 : _ = _), e6⟩ := hall 6 _ rfl
          obtain ⟨_, (k7 : _ = _), e7⟩ := hall 7 _ rfl
          obtain ⟨_, (k8 : _ = _), e8⟩ := hall 8 _ rfl
          obtain ⟨_, (k9 : _ = _), e9⟩ := hall 9 _ rfl
          obtain ⟨_, (k10 : _ = _), e10⟩ := hall 10 _ rfl
          obtain ⟨_, (k11 : _ = _), e11⟩ := hall 11 _ rfl
          obtain ⟨_, (k12 : _ = _), e12⟩ := hall 12 _ rfl
          obtain ⟨_, (k13 : _ = _), e13⟩ := hall 13 _ rfl
          subst k0 k1 k2 k3 k4 k5 k6 k7 k8 k9 k10 k11 k12 k13
          intro p hp
          simp only [List.mem_cons, List.not_mem_nil, or_false] at hp
          rcases hp with rfl | rfl | rfl | rfl | rfl | rfl | rfl | rfl | rfl | rfl | rfl | rfl | rfl | rfl
          · exact e0 _ rfl
          · exact e1 _ rfl
          · exact e2 _ rfl
          · exact e3 _ rfl
          · exact e4 _ rfl
          · exact e5 _ rfl
          · exact e6 _ rfl
          · exact e7 _ rfl
          · exact e8 _ rfl
          · exact e9 _ rfl
          · exact e10 _ rfl
          · exact e11 _ rfl
          · exact e12 _ rfl
          · exact e13 _ rfl
        have hact := act_fold _ hB hv (by kernel_rfl)
        subst hact
        clear hv hall hB
        refine (‹∀ (a : Act) (w : World), Code.wp Try.prog _ _ a w → _›) _ w8 ?_
        simp only [List.foldl, List.setIfInBounds_toArray, List.set_cons_succ, List.set_cons_zero]
        go_wp2_with fail
        go_ret
        exact ⟨ret_bl (by unfold sdV; rw [Bool.eq_iff_iff]; simp; omega), HB1.out.trans (hC.mono HB1.out.size)⟩
  · by_cases hn : n ≥ 0
    · go_enter Try.func12, Try.ntmps12
      go_upto_region 1 with fail
      go_wp2_with fail
      go_ret
      exact ⟨ret_bl (by unfold sdV; rw [Bool.eq_iff_iff]; simp; omega), HB1.out⟩
    · go_enter Try.func12, Try.ntmps12
      go_upto_region 1 with fail
      go_wp2_with fail
      go_ret
      exact ⟨ret_bl (by unfold sdV; rw [Bool.eq_iff_iff]; simp; omega), HB1.out⟩
  · have q0 : (t == 0) = false := by rw [beq_eq_false_iff_ne]; exact h0
    have q1 : (t == 1) = false := by rw [beq_eq_false_iff_ne]; exact h1
    have q2 : (t == 2) = false := by rw [beq_eq_false_iff_ne]; exact h2
    have q3 : (t == 3) = false := by rw [beq_eq_false_iff_ne]; exact h3
    have q4 : (t == 4) = false := by rw [beq_eq_false_iff_ne]; exact h4
    have q5 : (t == 5) = false := by rw [beq_eq_false_iff_ne]; exact h5
    have q6 : (t == 6) = false := by rw [beq_eq_false_iff_ne]; exact h6
    have q7 : (t == 7) = false := by rw [beq_eq_false_iff_ne]; exact h7
    have q8 : (t == 8) = false := by rw [beq_eq_false_iff_ne]; exact h8
    have q9 : (t == 9) = false := by rw [beq_eq_false_iff_ne]; exact h9
    have HS : Hid (sdV s.os.length s.ns.length (t, n) = false) := Lib.hid (by unfold sdV; simp [h0, h1, h2, h3, h4, h5, h6, h7, h8, h9])
    clear h0 h1 h2 h3 h4 h5 h6 h7 h8 h9
    go_enter Try.func12, Try.ntmps12
    go_upto_region 1 with fail
    go_wp2_with fail
    go_ret
    exact ⟨ret_bl (by rw [HS.out]), HB1.out⟩

/-- The cells of an object that has no piece. -/
theorem rcells_any (k : Int) (so : Option Addr) (n sc : Nat) (px : List Value) (w : World) (hk : k ≠ 10) (hp : ∃ a0 a1 a2 a3 a4 a5 a6 a7, px = [a0, a1, a2, a3, a4, a5, a6, a7]) (hn : n ≤ 2000000) :
    Calls Try.prog 66 #[.agg (Value.int .i64 k :: .slice so n sc :: px).toArray] w fun e w' => e = .returned (.int .i64 ((1 + n : Nat) : Int)) ∧ Below w.heap.size w w' := by
  obtain ⟨a0, a1, a2, a3, a4, a5, a6, a7, rfl⟩ := hp
  have HB1 := Lib.hid (below1 w (.cells #[.int .i64 k, .slice so n sc, a0, a1, a2, a3, a4, a5, a6, a7] 83))
  have hne : (k == 10) = false := by rw [beq_eq_false_iff_ne]; exact hk
  have hbx := box1 w #[.int .i64 k, .slice so n sc, a0, a1, a2, a3, a4, a5, a6, a7] 83
  have c0 : (w.alloc (.cells #[.int .i64 k, .slice so n sc, a0, a1, a2, a3, a4, a5, a6, a7] 83)).cell? ⟨w.heap.size, 0, none⟩ = some (.int .i64 k) := cell_heap hbx 0
  have c1 : (w.alloc (.cells #[.int .i64 k, .slice so n sc, a0, a1, a2, a3, a4, a5, a6, a7] 83)).cell? ⟨w.heap.size, 1, none⟩ = some (.slice so n sc) := cell_heap hbx 1
  clear hbx hk
  show Calls Try.prog 66 #[.agg #[.int .i64 k, .slice so n sc, a0, a1, a2, a3, a4, a5, a6, a7]] w _
  go_enter Try.func66, Try.ntmps66
  go_wp2_with fail
  go_ret
  exact ⟨by congr 3, HB1.out⟩
theorem RsM.objIs {w : World} {g : Nat} {Q : Nat → Nat} {s : St} {ms : List RO} {ov nv : Value} (h : RsM w g Q s ms ov nv) {v : Int × Int} (hv : v.1 = 7) (hs : sdV s.os.length s.ns.length v = true) : ∃ (k : Nat) (hk : k < ms.length), v = (7, (k : Int)) ∧ s.obj v = some (ms[k]'hk).o := by
  obtain ⟨t, n⟩ := v
  simp only at hv
  subst hv
  rw [sdV_obj rfl, decide_eq_true_iff, h.len] at hs
  simp only at hs
  obtain ⟨k, rfl⟩ : ∃ k : Nat, n = (k : Int) := ⟨n.toNat, by omega⟩
  refine ⟨k, by omega, rfl, ?_⟩
  unfold St.obj
  rw [if_pos ⟨rfl, by simp⟩, h.eqs]
  simp [show k < ms.length by omega]
theorem obj_not7 {s : St} {v : Int × Int} (h : v.1 ≠ 7) : s.obj v = none := by unfold St.obj; rw [if_neg (fun h2 => h h2.1)]
theorem obj_unsound {s : St} {v : Int × Int} (h : sdV s.os.length s.ns.length v = false) : s.obj v = none := by
  by_cases h7 : v.1 = 7
  · have := St.obj_sound (s := s) (v := v) s.ns.length
    rw [h] at this
    simp at this
    exact this
  · exact obj_not7 h7

set_option maxRecDepth 100000 in
set_option maxHeartbeats 2000000 in
theorem rkind_any (g : Nat) (Q : Nat → Nat) (s : St) (v : Int × Int) (w : World) (h : RsW w g Q s) :
    Calls Try.prog 39 #[.pointer (some ⟨g, 0, none⟩), .agg #[.int .i64 v.1, .int .i64 v.2]] w fun e w' => e = .returned (.int .i64 (s.kind v)) ∧ Below w.heap.size w w' := by
  obtain ⟨t, n⟩ := v
  simp only
  have HS := Lib.hid h
  have HB1 := Lib.hid (below1 w (.cells #[.int .i64 t, .int .i64 n] 35))
  have HN0 := Lib.hid (box1 w #[.int .i64 t, .int .i64 n] 35)
  clear h
  by_cases h7 : t = 7
  · subst h7
    go_enter Try.func39, Try.ntmps39
    go_upto_region 1 with fail
    generalize w.alloc (.cells #[.int .i64 7, .int .i64 n] 35) = w1 at *
    obtain ⟨p0, p1, _⟩ := row2 HN0.out
    go_wp2_with fail
    refine (rsound_any g Q s (7, n) _ (HS.out.below HB1.out)).mono ?_
    rintro e w2 ⟨rfl, hb2⟩
    have HB2 := Lib.hid (HB1.out.trans (hb2.mono HB1.out.size))
    have HN2 := Lib.hid ((hb2.block _ (Array.getElem?_eq_some_iff.1 HN0.out).1).trans HN0.out)
    clear hb2 p0 p1
    obtain ⟨E, hE⟩ : ∃ E, E = sdV s.os.length s.ns.length (7, n) := ⟨_, rfl⟩
    rw [← hE]
    have HE := Lib.hid hE
    clear hE
    cases E with
    | false =>
      go_wp2_with fail
      go_ret
      exact ⟨by unfold St.kind; rw [obj_unsound HE.out.symm]; rfl, HB2.out⟩
    | true =>
      obtain ⟨ms, ov, nv, hm⟩ := HS.out
      obtain ⟨k, hk, hvk, ho⟩ := hm.objIs rfl HE.out.symm
      have hm2 := hm.below HB2.out
      obtain ⟨⟨c0, c1, c2, c3⟩, _⟩ := hm2.boxf
      obtain ⟨b, cap, rfl, hcap, _, _, q0, q1⟩ := hm2.objAt hk
      have HO := Lib.hid ho
      have hv2 : n = (k : Int) := by have := (Prod.mk.inj hvk).2; exact this
      obtain ⟨p0, p1, _⟩ := row2 HN2.out
      rw [hv2] at p1
      have hix : ((k : Nat) : Int) < ((ms.length : Nat) : Int) := by omega
      clear hm hm2 ho hvk hv2
      go_wp2_with fail
      go_quiet (fail)
      go_wp2_with fail
      go_ret
      exact ⟨by unfold St.kind; rw [HO.out]; rfl, below_drewN HB2.out _⟩
  · have hne : (t != 7) = true := by rw [bne_iff_ne]; exact h7
    have HO := Lib.hid (obj_not7 (s := s) (v := (t, n)) h7)
    clear h7
    go_enter Try.func39, Try.ntmps39
    go_upto_region 1 with fail
    generalize w.alloc (.cells #[.int .i64 t, .int .i64 n] 35) = w1 at *
    obtain ⟨p0, p1, _⟩ := row2 HN0.out
    go_wp2_with fail
    go_ret
    exact ⟨by unfold St.kind; rw [HO.out]; rfl, HB1.out⟩
def St.slots (s : St) (v : Int × Int) : List (Int × Int) := match s.obj v with
  | some o => o.s
  | none => []
set_option maxRecDepth 100000 in
set_option maxHeartbeats 2000000 in
theorem rslots_any (g : Nat) (Q : Nat → Nat) (s : St) (v : Int × Int) (w : World) (h : RsW w g Q s) :
    Calls Try.prog 38 #[.pointer (some ⟨g, 0, none⟩), .agg #[.int .i64 v.1, .int .i64 v.2]] w fun e w' => ∃ lv, e = .returned lv ∧ Below w.heap.size w w' ∧ RowV w' lv (s.slots v).length 2 (vcs (s.slots v)) ∧ InP (fun b => Q b ≠ 0) (s.slots v).length lv := by
  obtain ⟨t, n⟩ := v
  simp only
  have HS := Lib.hid h
  have HB1 := Lib.hid (below1 w (.cells #[.int .i64 t, .int .i64 n] 35))
  have HN0 := Lib.hid (box1 w #[.int .i64 t, .int .i64 n] 35)
  clear h
  by_cases h7 : t = 7
  · subst h7
    go_enter Try.func38, Try.ntmps38
    go_upto_region 1 with fail
    generalize w.alloc (.cells #[.int .i64 7, .int .i64 n] 35) = w1 at *
    obtain ⟨p0, p1, _⟩ := row2 HN0.out
    go_wp2_with fail
    refine (rsound_any g Q s (7, n) _ (HS.out.below HB1.out)).mono ?_
    rintro e w2 ⟨rfl, hb2⟩
    have HB2 := Lib.hid (HB1.out.trans (hb2.mono HB1.out.size))
    have HN2 := Lib.hid ((hb2.block _ (Array.getElem?_eq_some_iff.1 HN0.out).1).trans HN0.out)
    clear hb2 p0 p1
    obtain ⟨E, hE⟩ : ∃ E, E = sdV s.os.length s.ns.length (7, n) := ⟨_, rfl⟩
    rw [← hE]
    have HE := Lib.hid hE
    clear hE
    cases E with
    | false =>
      go_wp2_with fail
      go_ret
      refine ⟨_, rfl, HB2.out, ?_⟩
      rw [show s.slots (7, n) = [] by unfold St.slots; rw [obj_unsound HE.out.symm]]
      exact ⟨vrow0 _, fun b h _ => absurd rfl h⟩
    | true =>
      obtain ⟨ms, ov, nv, hm⟩ := HS.out
      obtain ⟨k, hk, hvk, ho⟩ := hm.objIs rfl HE.out.symm
      have hm2 := hm.below HB2.out
      obtain ⟨⟨c0, c1, c2, c3⟩, _⟩ := hm2.boxf
      obtain ⟨b, cap, rfl, hcap, _, _, q0, q1⟩ := hm2.objAt hk
      have HRV := Lib.hid (RowV.of_own (hm2.srow k hk))
      have HSQ := Lib.hid (hm2.sQ k hk)
      obtain ⟨so, sc, hsv⟩ := own_dslice (hm2.srow k hk)
      rw [hsv] at q1 HRV HSQ
      have HO := Lib.hid ho
      have hv2 : n = (k : Int) := by have := (Prod.mk.inj hvk).2; exact this
      obtain ⟨p0, p1, _⟩ := row2 HN2.out
      rw [hv2] at p1
      have hix : ((k : Nat) : Int) < ((ms.length : Nat) : Int) := by omega
      clear hm hm2 ho hvk hv2 hsv
      go_wp2_with fail
      go_quiet (fail)
      go_wp2_with fail
      go_ret
      refine ⟨_, rfl, below_drewN HB2.out _, ?_⟩
      rw [show s.slots (7, n) = (ms[k]'hk).o.s by unfold St.slots; rw [HO.out]]
      exact ⟨HRV.out.below (below_drewN (Below.refl _ _) _), fun b h1 h2 => by have := HSQ.out b h2; omega⟩
  · have hne : (t != 7) = true := by rw [bne_iff_ne]; exact h7
    have HO := Lib.hid (obj_not7 (s := s) (v := (t, n)) h7)
    clear h7
    go_enter Try.func38, Try.ntmps38
    go_upto_region 1 with fail
    generalize w.alloc (.cells #[.int .i64 t, .int .i64 n] 35) = w1 at *
    obtain ⟨p0, p1, _⟩ := row2 HN0.out
    go_wp2_with fail
    go_ret
    refine ⟨_, rfl, HB1.out, ?_⟩
    rw [show s.slots (t, n) = [] by unfold St.slots; rw [HO.out]]
    exact ⟨vrow0 _, fun b h _ => absurd rfl h⟩
end Go.Proofs.Ytioidaojnbenbaa
