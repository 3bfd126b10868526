/- SameBoth -/
import Derived.Test.YtimnhbndokfgnaaSmPure
import Derived.Test.YtimnhbndokfgnaaSmBuild
import Derived.Test.YtimnhbndokfgnaaSmLaw
import Derived.Test.YtimnhbndokfgnaaOrdG
namespace Go.Proofs.Ytimnhbndokfgnaa
open Go.RowKit

theorem eqR_three (x : Option (Bool × Nat)) : ∃ (r : Bool) (k c : Int), eqR x = .tuple #[.bool r, .int .i64 k, .int .i64 c] ∧ ((c = 15 ∧ x = none) ∨ (c = 0 ∧ ∃ n : Nat, k = n ∧ x = some (r, n))) := by
  cases x with
  | none => exact ⟨_, _, _, rfl, .inl ⟨rfl, rfl⟩⟩
  | some p => obtain ⟨r, k⟩ := p; exact ⟨_, _, _, rfl, .inr ⟨rfl, k, rfl, rfl⟩⟩

set_option maxRecDepth 100000 in
set_option maxHeartbeats 16000000 in
theorem sameboth_any (mv : Value) (a b : Int × Int) (z : Int) (es : List MkE) (w : World) (he : MksAt w mv es) (h0 : 0 ≤ z) (h1 : z < 65536) :
    Calls Try.prog 7 #[mv, .agg #[.int .i64 a.1, .int .i64 a.2], .agg #[.int .i64 b.1, .int .i64 b.2], .int .u16 z] w fun e w' => e = .returned (.bool true) ∧ Below w.heap.size w w' := by
  obtain ⟨m, rfl⟩ : ∃ m : Nat, z = (m : Int) := ⟨z.toNat, by omega⟩
  obtain ⟨u0, u1⟩ := a
  obtain ⟨v0, v1⟩ := b
  simp only
  have HE := Lib.hid he
  have HB1 := Lib.hid (below2 w (.cells #[.int .i64 u0, .int .i64 u1] 35) (.cells #[.int .i64 v0, .int .i64 v1] 35))
  obtain ⟨n0, n1⟩ := @news2 w (.cells #[.int .i64 u0, .int .i64 u1] 35) (.cells #[.int .i64 v0, .int .i64 v1] 35)
  have HN0 := Lib.hid n0
  have HN1 := Lib.hid n1
  clear he n0 n1
  go_enter Try.func7, Try.ntmps7
  go_upto_region 1 with fail
  generalize (w.alloc (.cells #[.int .i64 u0, .int .i64 u1] 35)).alloc (.cells #[.int .i64 v0, .int .i64 v1] 35) = w1 at *
  have HX : Hid (∀ W, Below w1.heap.size w1 W → W.cell? ⟨w.heap.size, 0, none⟩ = some (.int .i64 u0) ∧ W.cell? ⟨w.heap.size, 1, none⟩ = some (.int .i64 u1) ∧ W.cell? ⟨w.heap.size + 1, 0, none⟩ = some (.int .i64 v0) ∧ W.cell? ⟨w.heap.size + 1, 1, none⟩ = some (.int .i64 v1)) := Lib.hid fun W hW => by
    obtain ⟨x0, x1, _⟩ := row2 ((hW.block _ (Array.getElem?_eq_some_iff.1 HN0.out).1).trans HN0.out)
    obtain ⟨y0, y1, _⟩ := row2 ((hW.block _ (Array.getElem?_eq_some_iff.1 HN1.out).1).trans HN1.out)
    exact ⟨x0, x1, y0, y1⟩
  go_wp2_with fail
  refine (built_any mv es w1 (HE.out.below HB1.out)).mono ?_
  rintro e w2 ⟨gs, gm, R, Q, s, rfl, ht, _⟩
  have HQ2 := Lib.hid ht.st
  clear ht
  go_upto_region 2 with fail
  go_wp2_with fail
  refine (answers7_any w2).mono ?_
  rintro e w3 ⟨rfl, hb⟩
  have HQ3 := Lib.hid (HQ2.out.below hb)
  clear hb HQ2
  obtain ⟨r, k, c, hr, hc⟩ := eqR_three (s.rEq 400 [((u0, u1), (v0, v1))])
  have HC := Lib.hid hc
  have HC1 := Lib.hid (show ∀ W, StQ w1 W gs R s → Calls Try.prog 30 #[.pointer (some ⟨gs, 0, none⟩), .agg #[.int .i64 u0, .int .i64 u1], .agg #[.int .i64 v0, .int .i64 v1], .int .i64 400] W fun e w' => e = .returned (.tuple #[.bool r, .int .i64 k, .int .i64 c]) ∧ Below W.heap.size W w' from fun W hq => (qequal (a := (u0, u1)) (b := (v0, v1)) (f := 400) hq (by omega) rfl).mono fun e w' ⟨h, hb⟩ => ⟨h.trans (congrArg _ hr), hb⟩)
  have HC2 := Lib.hid (show ∀ W, StQ w1 W gs R s → Calls Try.prog 30 #[.pointer (some ⟨gs, 0, none⟩), .agg #[.int .i64 v0, .int .i64 v1], .agg #[.int .i64 u0, .int .i64 u1], .int .i64 400] W fun e w' => e = .returned (.tuple #[.bool r, .int .i64 k, .int .i64 c]) ∧ Below W.heap.size W w' from fun W hq => (qequal (a := (v0, v1)) (b := (u0, u1)) (f := 400) hq (by omega) (rEq_swap1 s _ (u0, u1) (v0, v1))).mono fun e w' ⟨h, hb⟩ => ⟨h.trans (congrArg _ hr), hb⟩)
  have HC3 := Lib.hid (show ∀ W, StQ w1 W gs R s → Calls Try.prog 30 #[.pointer (some ⟨gs, 0, none⟩), .agg #[.int .i64 u0, .int .i64 u1], .agg #[.int .i64 u0, .int .i64 u1], .int .i64 1] W fun e w' => e = .returned (.tuple #[.bool true, .int .i64 0, .int .i64 0]) ∧ Below W.heap.size W w' from fun W hq => qequal (a := (u0, u1)) (b := (u0, u1)) (f := 1) hq (by omega) (rEq_self s (u0, u1)))
  obtain ⟨E, hE⟩ : ∃ E, s.eqvA (u0, u1) (v0, v1) = E := ⟨_, rfl⟩
  have HE0 := Lib.hid hE
  have HE1 := Lib.hid (show ∀ W, StQ w1 W gs R s → Calls Try.prog 32 #[.pointer (some ⟨gs, 0, none⟩), .agg #[.int .i64 u0, .int .i64 u1], .agg #[.int .i64 v0, .int .i64 v1]] W fun e w' => e = .returned (.bool E) ∧ Below W.heap.size W w' from fun W hq => qeqv (a := (u0, u1)) (b := (v0, v1)) hq hE)
  have HE2 := Lib.hid (show ∀ W, StQ w1 W gs R s → Calls Try.prog 32 #[.pointer (some ⟨gs, 0, none⟩), .agg #[.int .i64 v0, .int .i64 v1], .agg #[.int .i64 u0, .int .i64 u1]] W fun e w' => e = .returned (.bool E) ∧ Below W.heap.size W w' from fun W hq => qeqv (a := (v0, v1)) (b := (u0, u1)) hq ((eqvA_comm s _ _).trans hE))
  have HE3 := Lib.hid (show ∀ W, StQ w1 W gs R s → Calls Try.prog 32 #[.pointer (some ⟨gs, 0, none⟩), .agg #[.int .i64 u0, .int .i64 u1], .agg #[.int .i64 u0, .int .i64 u1]] W fun e w' => e = .returned (.bool true) ∧ Below W.heap.size W w' from fun W hq => qeqv (a := (u0, u1)) (b := (u0, u1)) hq (eqvA_same rfl))
  clear hr hc hE
  obtain ⟨p0, p1, p2, p3⟩ := HX.out w3 HQ3.out.bel
  go_upto_region 4 with fail
  go_wp2_with fail
  refine (HC1.out w3 HQ3.out).mono ?_
  rintro e w4 ⟨rfl, hb⟩
  have HQ4 := Lib.hid (HQ3.out.below hb)
  clear hb p0 p1 p2 p3
  obtain ⟨p0, p1, p2, p3⟩ := HX.out w4 HQ4.out.bel
  go_upto_region 5 with fail
  go_wp2_with fail
  refine (HC2.out w4 HQ4.out).mono ?_
  rintro e w5 ⟨rfl, hb⟩
  have HQ5 := Lib.hid (HQ4.out.below hb)
  clear hb p0 p1 p2 p3
  obtain ⟨p0, p1, p2, p3⟩ := HX.out w5 HQ5.out.bel
  go_upto_region 6 with fail
  go_wp2_with fail
  refine (HC3.out w5 HQ5.out).mono ?_
  rintro e w6 ⟨rfl, hb⟩
  have HQ7 := Lib.hid (HQ5.out.below hb)
  clear hb p0 p1 p2 p3
  go_upto_region 7 with fail
  refine wp_region_slotsG (psi [isV (.bool true), isV (.bool false), isV (.bool false), isV (.int .i64 0), isV (.bool false), isV (.bool false), isV (.bool false), isV (.int .i64 0), isV (.bool false), isV (.bool false), isV (.bool false), isV (.pointer (some ⟨gs, 0, none⟩)), isV (.agg #[.int .i64 u0, .int .i64 u1]), isV (.agg #[.int .i64 v0, .int .i64 v1]), isV (.bool E), isV (.pointer (some ⟨gs, 0, none⟩)), isV (.agg #[.int .i64 v0, .int .i64 v1]), isV (.agg #[.int .i64 u0, .int .i64 u1]), isV (.bool E), isV (.bool false), isV (.bool false), isV (.bool false), isV (.pointer (some ⟨gs, 0, none⟩)), isV (.agg #[.int .i64 u0, .int .i64 u1]), isV (.agg #[.int .i64 u0, .int .i64 u1]), isV (.bool true), isV (.bool false), isV (.bool false)]) (fun W => Below w6.heap.size w6 W) (by kernel_rfl) (Below.refl _ _).drew (psi_mono ?_) (by kernel_rfl) (by kernel_rfl) ?_ ?_
  · intro p hp
    simp only [List.mem_cons, List.not_mem_nil, or_false] at hp
    (repeat' rcases hp with rfl | hp) <;> first | exact isV_stays _ | (subst hp; exact isV_stays _)
  · refine AllOps.cons ?_ ?_
    · intro aa W hC hB hdep
      refine .inl ⟨rfl, ?_⟩
      have b0 : aa.tmps.getD 17 undef = .bool true := hB.off 17 (by kernel_rfl)
      clear hB hdep
      refine goes_value (v := .bool true) ?_ hC rfl
      simp only [execOp, Act.eval, b0]
      go_simp
    refine AllOps.cons ?_ ?_
    · intro aa W hC hB hdep
      refine .inl ⟨rfl, ?_⟩
      obtain ⟨x0, (q0 : x0 = .bool true), e0⟩ := hdep 0 64 (by kernel_rfl)
      subst q0
      clear hB hdep
      refine goes_value (v := .bool false) ?_ hC rfl
      simp only [execOp, Act.eval, e0]
      go_simp
    refine AllOps.cons ?_ ?_
    · intro aa W hC hB hdep
      refine .inl ⟨rfl, ?_⟩
      obtain ⟨x0, (q0 : x0 = .bool false), e0⟩ := hdep 1 65 (by kernel_rfl)
      subst q0
      clear hB hdep
      refine goes_value (v := .bool false) ?_ hC rfl
      simp only [execOp, Act.eval, e0]
      go_simp
    refine AllOps.cons ?_ ?_
    · intro aa W hC hB hdep
      obtain ⟨xg, (qg : xg = .bool false), eg⟩ := hdep 2 66 (by kernel_rfl)
      subst qg
      refine .inl ⟨(wanted_is (g := 2) (t := 66) (b := false) (c := false) rfl rfl (by rw [hB.size]; exact Nat.le_of_ble_eq_true rfl) eg).trans rfl, ?_⟩
      have b0 : aa.tmps.getD 18 undef = .int .i64 0 := hB.off 18 (by kernel_rfl)
      clear hB hdep
      refine goes_value (v := .int .i64 0) ?_ hC rfl
      simp only [execOp, Act.eval, b0]
      go_simp
    refine AllOps.cons ?_ ?_
    · intro aa W hC hB hdep
      obtain ⟨xg, (qg : xg = .bool false), eg⟩ := hdep 2 66 (by kernel_rfl)
      subst qg
      refine .inl ⟨(wanted_is (g := 2) (t := 66) (b := false) (c := false) rfl rfl (by rw [hB.size]; exact Nat.le_of_ble_eq_true rfl) eg).trans rfl, ?_⟩
      obtain ⟨x0, (q0 : x0 = .int .i64 0), e0⟩ := hdep 3 67 (by kernel_rfl)
      subst q0
      clear hB hdep
      refine goes_value (v := .bool false) ?_ hC rfl
      simp only [execOp, Act.eval, e0]
      go_simp
    refine AllOps.cons ?_ ?_
    · intro aa W hC hB hdep
      refine .inl ⟨rfl, ?_⟩
      obtain ⟨x0, (q0 : x0 = .bool false), e0⟩ := hdep 2 66 (by kernel_rfl)
      subst q0
      obtain ⟨x1, (q1 : x1 = .bool false), e1⟩ := hdep 4 68 (by kernel_rfl)
      subst q1
      clear hB hdep
      refine goes_value (v := .bool false) ?_ hC rfl
      simp only [execOp, Act.eval, e0, e1]
      go_simp
    refine AllOps.cons ?_ ?_
    · intro aa W hC hB hdep
      refine .inl ⟨rfl, ?_⟩
      obtain ⟨x0, (q0 : x0 = .bool false), e0⟩ := hdep 5 69 (by kernel_rfl)
      subst q0
      clear hB hdep
      refine goes_value (v := .bool false) ?_ hC rfl
      simp only [execOp, Act.eval, e0]
      go_simp
    refine AllOps.cons ?_ ?_
    · intro aa W hC hB hdep
      obtain ⟨xg, (qg : xg = .bool false), eg⟩ := hdep 6 70 (by kernel_rfl)
      subst qg
      refine .inl ⟨(wanted_is (g := 6) (t := 70) (b := false) (c := false) rfl rfl (by rw [hB.size]; exact Nat.le_of_ble_eq_true rfl) eg).trans rfl, ?_⟩
      have b0 : aa.tmps.getD 19 undef = .int .i64 0 := hB.off 19 (by kernel_rfl)
      clear hB hdep
      refine goes_value (v := .int .i64 0) ?_ hC rfl
      simp only [execOp, Act.eval, b0]
      go_simp
    refine AllOps.cons ?_ ?_
    · intro aa W hC hB hdep
      obtain ⟨xg, (qg : xg = .bool false), eg⟩ := hdep 6 70 (by kernel_rfl)
      subst qg
      refine .inl ⟨(wanted_is (g := 6) (t := 70) (b := false) (c := false) rfl rfl (by rw [hB.size]; exact Nat.le_of_ble_eq_true rfl) eg).trans rfl, ?_⟩
      obtain ⟨x0, (q0 : x0 = .int .i64 0), e0⟩ := hdep 7 71 (by kernel_rfl)
      subst q0
      clear hB hdep
      refine goes_value (v := .bool false) ?_ hC rfl
      simp only [execOp, Act.eval, e0]
      go_simp
    refine AllOps.cons ?_ ?_
    · intro aa W hC hB hdep
      refine .inl ⟨rfl, ?_⟩
      obtain ⟨x0, (q0 : x0 = .bool false), e0⟩ := hdep 6 70 (by kernel_rfl)
      subst q0
      obtain ⟨x1, (q1 : x1 = .bool false), e1⟩ := hdep 8 72 (by kernel_rfl)
      subst q1
      clear hB hdep
      refine goes_value (v := .bool false) ?_ hC rfl
      simp only [execOp, Act.eval, e0, e1]
      go_simp
    refine AllOps.cons ?_ ?_
    · intro aa W hC hB hdep
      refine .inl ⟨rfl, ?_⟩
      obtain ⟨x0, (q0 : x0 = .bool false), e0⟩ := hdep 9 73 (by kernel_rfl)
      subst q0
      clear hB hdep
      refine goes_value (v := .bool false) ?_ hC rfl
      simp only [execOp, Act.eval, e0]
      go_simp
    refine AllOps.cons ?_ ?_
    · intro aa W hC hB hdep
      obtain ⟨xg, (qg : xg = .bool false), eg⟩ := hdep 10 74 (by kernel_rfl)
      subst qg
      refine .inl ⟨(wanted_is (g := 10) (t := 74) (b := false) (c := false) rfl rfl (by rw [hB.size]; exact Nat.le_of_ble_eq_true rfl) eg).trans rfl, ?_⟩
      have b0 : aa.tmps.getD 9 undef = .pointer (some ⟨gs, 0, none⟩) := hB.off 9 (by kernel_rfl)
      clear hB hdep
      refine goes_value (v := .pointer (some ⟨gs, 0, none⟩)) ?_ hC rfl
      simp only [execOp, Act.eval, b0]
      go_simp
    refine AllOps.cons ?_ ?_
    · intro aa W hC hB hdep
      obtain ⟨xg, (qg : xg = .bool false), eg⟩ := hdep 10 74 (by kernel_rfl)
      subst qg
      refine .inl ⟨(wanted_is (g := 10) (t := 74) (b := false) (c := false) rfl rfl (by rw [hB.size]; exact Nat.le_of_ble_eq_true rfl) eg).trans rfl, ?_⟩
      have b0 : aa.tmps.getD 5 undef = .pointer (some ⟨w.heap.size, 0, none⟩) := hB.off 5 (by kernel_rfl)
      obtain ⟨p0, p1, p2, p3⟩ := HX.out W (HQ7.out.bel.trans (hC.mono HQ7.out.bel.size))
      clear hB hdep
      refine goes_value (v := .agg #[.int .i64 u0, .int .i64 u1]) ?_ hC rfl
      simp only [execOp, Act.eval, b0]
      go_simp
    refine AllOps.cons ?_ ?_
    · intro aa W hC hB hdep
      obtain ⟨xg, (qg : xg = .bool false), eg⟩ := hdep 10 74 (by kernel_rfl)
      subst qg
      refine .inl ⟨(wanted_is (g := 10) (t := 74) (b := false) (c := false) rfl rfl (by rw [hB.size]; exact Nat.le_of_ble_eq_true rfl) eg).trans rfl, ?_⟩
      have b0 : aa.tmps.getD 6 undef = .pointer (some ⟨w.heap.size + 1, 0, none⟩) := hB.off 6 (by kernel_rfl)
      obtain ⟨p0, p1, p2, p3⟩ := HX.out W (HQ7.out.bel.trans (hC.mono HQ7.out.bel.size))
      clear hB hdep
      refine goes_value (v := .agg #[.int .i64 v0, .int .i64 v1]) ?_ hC rfl
      simp only [execOp, Act.eval, b0]
      go_simp
    refine AllOps.cons ?_ ?_
    · intro aa W hC hB hdep
      obtain ⟨xg, (qg : xg = .bool false), eg⟩ := hdep 10 74 (by kernel_rfl)
      subst qg
      refine .inl ⟨(wanted_is (g := 10) (t := 74) (b := false) (c := false) rfl rfl (by rw [hB.size]; exact Nat.le_of_ble_eq_true rfl) eg).trans rfl, ?_⟩
      obtain ⟨x0, (q0 : x0 = .pointer (some ⟨gs, 0, none⟩)), e0⟩ := hdep 11 75 (by kernel_rfl)
      subst q0
      obtain ⟨x1, (q1 : x1 = .agg #[.int .i64 u0, .int .i64 u1]), e1⟩ := hdep 12 76 (by kernel_rfl)
      subst q1
      obtain ⟨x2, (q2 : x2 = .agg #[.int .i64 v0, .int .i64 v1]), e2⟩ := hdep 13 77 (by kernel_rfl)
      subst q2
      clear hB hdep
      refine goes_call (f := 32) (args := #[.pointer (some ⟨gs, 0, none⟩), .agg #[.int .i64 u0, .int .i64 u1], .agg #[.int .i64 v0, .int .i64 v1]]) ?_ ?_
      · simp only [execOp]
        go_simp
      · exact (HE1.out W (HQ7.out.below hC)).mono fun e w7 ⟨he, hb⟩ => ⟨_, he, hC.trans (hb.mono hC.size), hb, rfl⟩
    refine AllOps.cons ?_ ?_
    · intro aa W hC hB hdep
      obtain ⟨xg, (qg : xg = .bool false), eg⟩ := hdep 10 74 (by kernel_rfl)
      subst qg
      refine .inl ⟨(wanted_is (g := 10) (t := 74) (b := false) (c := false) rfl rfl (by rw [hB.size]; exact Nat.le_of_ble_eq_true rfl) eg).trans rfl, ?_⟩
      have b0 : aa.tmps.getD 9 undef = .pointer (some ⟨gs, 0, none⟩) := hB.off 9 (by kernel_rfl)
      clear hB hdep
      refine goes_value (v := .pointer (some ⟨gs, 0, none⟩)) ?_ hC rfl
      simp only [execOp, Act.eval, b0]
      go_simp
    refine AllOps.cons ?_ ?_
    · intro aa W hC hB hdep
      obtain ⟨xg, (qg : xg = .bool false), eg⟩ := hdep 10 74 (by kernel_rfl)
      subst qg
      refine .inl ⟨(wanted_is (g := 10) (t := 74) (b := false) (c := false) rfl rfl (by rw [hB.size]; exact Nat.le_of_ble_eq_true rfl) eg).trans rfl, ?_⟩
      have b0 : aa.tmps.getD 6 undef = .pointer (some ⟨w.heap.size + 1, 0, none⟩) := hB.off 6 (by kernel_rfl)
      obtain ⟨p0, p1, p2, p3⟩ := HX.out W (HQ7.out.bel.trans (hC.mono HQ7.out.bel.size))
      clear hB hdep
      refine goes_value (v := .agg #[.int .i64 v0, .int .i64 v1]) ?_ hC rfl
      simp only [execOp, Act.eval, b0]
      go_simp
    refine AllOps.cons ?_ ?_
    · intro aa W hC hB hdep
      obtain ⟨xg, (qg : xg = .bool false), eg⟩ := hdep 10 74 (by kernel_rfl)
      subst qg
      refine .inl ⟨(wanted_is (g := 10) (t := 74) (b := false) (c := false) rfl rfl (by rw [hB.size]; exact Nat.le_of_ble_eq_true rfl) eg).trans rfl, ?_⟩
      have b0 : aa.tmps.getD 5 undef = .pointer (some ⟨w.heap.size, 0, none⟩) := hB.off 5 (by kernel_rfl)
      obtain ⟨p0, p1, p2, p3⟩ := HX.out W (HQ7.out.bel.trans (hC.mono HQ7.out.bel.size))
      clear hB hdep
      refine goes_value (v := .agg #[.int .i64 u0, .int .i64 u1]) ?_ hC rfl
      simp only [execOp, Act.eval, b0]
      go_simp
    refine AllOps.cons ?_ ?_
    · intro aa W hC hB hdep
      obtain ⟨xg, (qg : xg = .bool false), eg⟩ := hdep 10 74 (by kernel_rfl)
      subst qg
      refine .inl ⟨(wanted_is (g := 10) (t := 74) (b := false) (c := false) rfl rfl (by rw [hB.size]; exact Nat.le_of_ble_eq_true rfl) eg).trans rfl, ?_⟩
      obtain ⟨x0, (q0 : x0 = .pointer (some ⟨gs, 0, none⟩)), e0⟩ := hdep 15 79 (by kernel_rfl)
      subst q0
      obtain ⟨x1, (q1 : x1 = .agg #[.int .i64 v0, .int .i64 v1]), e1⟩ := hdep 16 80 (by kernel_rfl)
      subst q1
      obtain ⟨x2, (q2 : x2 = .agg #[.int .i64 u0, .int .i64 u1]), e2⟩ := hdep 17 81 (by kernel_rfl)
      subst q2
      clear hB hdep
      refine goes_call (f := 32) (args := #[.pointer (some ⟨gs, 0, none⟩), .agg #[.int .i64 v0, .int .i64 v1], .agg #[.int .i64 u0, .int .i64 u1]]) ?_ ?_
      · simp only [execOp]
        go_simp
      · exact (HE2.out W (HQ7.out.below hC)).mono fun e w7 ⟨he, hb⟩ => ⟨_, he, hC.trans (hb.mono hC.size), hb, rfl⟩
    refine AllOps.cons ?_ ?_
    · intro aa W hC hB hdep
      obtain ⟨xg, (qg : xg = .bool false), eg⟩ := hdep 10 74 (by kernel_rfl)
      subst qg
      refine .inl ⟨(wanted_is (g := 10) (t := 74) (b := false) (c := false) rfl rfl (by rw [hB.size]; exact Nat.le_of_ble_eq_true rfl) eg).trans rfl, ?_⟩
      obtain ⟨x0, (q0 : x0 = .bool E), e0⟩ := hdep 14 78 (by kernel_rfl)
      subst q0
      obtain ⟨x1, (q1 : x1 = .bool E), e1⟩ := hdep 18 82 (by kernel_rfl)
      subst q1
      clear hB hdep
      refine goes_value (v := .bool false) ?_ hC rfl
      simp only [execOp, Act.eval, e0, e1]
      go_simp
    refine AllOps.cons ?_ ?_
    · intro aa W hC hB hdep
      refine .inl ⟨rfl, ?_⟩
      obtain ⟨x0, (q0 : x0 = .bool false), e0⟩ := hdep 10 74 (by kernel_rfl)
      subst q0
      obtain ⟨x1, (q1 : x1 = .bool false), e1⟩ := hdep 19 83 (by kernel_rfl)
      subst q1
      clear hB hdep
      refine goes_value (v := .bool false) ?_ hC rfl
      simp only [execOp, Act.eval, e0, e1]
      go_simp
    refine AllOps.cons ?_ ?_
    · intro aa W hC hB hdep
      refine .inl ⟨rfl, ?_⟩
      obtain ⟨x0, (q0 : x0 = .bool false), e0⟩ := hdep 20 84 (by kernel_rfl)
      subst q0
      clear hB hdep
      refine goes_value (v := .bool false) ?_ hC rfl
      simp only [execOp, Act.eval, e0]
      go_simp
    refine AllOps.cons ?_ ?_
    · intro aa W hC hB hdep
      obtain ⟨xg, (qg : xg = .bool false), eg⟩ := hdep 21 85 (by kernel_rfl)
      subst qg
      refine .inl ⟨(wanted_is (g := 21) (t := 85) (b := false) (c := false) rfl rfl (by rw [hB.size]; exact Nat.le_of_ble_eq_true rfl) eg).trans rfl, ?_⟩
      have b0 : aa.tmps.getD 9 undef = .pointer (some ⟨gs, 0, none⟩) := hB.off 9 (by kernel_rfl)
      clear hB hdep
      refine goes_value (v := .pointer (some ⟨gs, 0, none⟩)) ?_ hC rfl
      simp only [execOp, Act.eval, b0]
      go_simp
    refine AllOps.cons ?_ ?_
    · intro aa W hC hB hdep
      obtain ⟨xg, (qg : xg = .bool false), eg⟩ := hdep 21 85 (by kernel_rfl)
      subst qg
      refine .inl ⟨(wanted_is (g := 21) (t := 85) (b := false) (c := false) rfl rfl (by rw [hB.size]; exact Nat.le_of_ble_eq_true rfl) eg).trans rfl, ?_⟩
      have b0 : aa.tmps.getD 5 undef = .pointer (some ⟨w.heap.size, 0, none⟩) := hB.off 5 (by kernel_rfl)
      obtain ⟨p0, p1, p2, p3⟩ := HX.out W (HQ7.out.bel.trans (hC.mono HQ7.out.bel.size))
      clear hB hdep
      refine goes_value (v := .agg #[.int .i64 u0, .int .i64 u1]) ?_ hC rfl
      simp only [execOp, Act.eval, b0]
      go_simp
    refine AllOps.cons ?_ ?_
    · intro aa W hC hB hdep
      obtain ⟨xg, (qg : xg = .bool false), eg⟩ := hdep 21 85 (by kernel_rfl)
      subst qg
      refine .inl ⟨(wanted_is (g := 21) (t := 85) (b := false) (c := false) rfl rfl (by rw [hB.size]; exact Nat.le_of_ble_eq_true rfl) eg).trans rfl, ?_⟩
      have b0 : aa.tmps.getD 5 undef = .pointer (some ⟨w.heap.size, 0, none⟩) := hB.off 5 (by kernel_rfl)
      obtain ⟨p0, p1, p2, p3⟩ := HX.out W (HQ7.out.bel.trans (hC.mono HQ7.out.bel.size))
      clear hB hdep
      refine goes_value (v := .agg #[.int .i64 u0, .int .i64 u1]) ?_ hC rfl
      simp only [execOp, Act.eval, b0]
      go_simp
    refine AllOps.cons ?_ ?_
    · intro aa W hC hB hdep
      obtain ⟨xg, (qg : xg = .bool false), eg⟩ := hdep 21 85 (by kernel_rfl)
      subst qg
      refine .inl ⟨(wanted_is (g := 21) (t := 85) (b := false) (c := false) rfl rfl (by rw [hB.size]; exact Nat.le_of_ble_eq_true rfl) eg).trans rfl, ?_⟩
      obtain ⟨x0, (q0 : x0 = .pointer (some ⟨gs, 0, none⟩)), e0⟩ := hdep 22 86 (by kernel_rfl)
      subst q0
      obtain ⟨x1, (q1 : x1 = .agg #[.int .i64 u0, .int .i64 u1]), e1⟩ := hdep 23 87 (by kernel_rfl)
      subst q1
      obtain ⟨x2, (q2 : x2 = .agg #[.int .i64 u0, .int .i64 u1]), e2⟩ := hdep 24 88 (by kernel_rfl)
      subst q2
      clear hB hdep
      refine goes_call (f := 32) (args := #[.pointer (some ⟨gs, 0, none⟩), .agg #[.int .i64 u0, .int .i64 u1], .agg #[.int .i64 u0, .int .i64 u1]]) ?_ ?_
      · simp only [execOp]
        go_simp
      · exact (HE3.out W (HQ7.out.below hC)).mono fun e w7 ⟨he, hb⟩ => ⟨_, he, hC.trans (hb.mono hC.size), hb, rfl⟩
    refine AllOps.cons ?_ ?_
    · intro aa W hC hB hdep
      obtain ⟨xg, (qg : xg = .bool false), eg⟩ := hdep 21 85 (by kernel_rfl)
      subst qg
      refine .inl ⟨(wanted_is (g := 21) (t := 85) (b := false) (c := false) rfl rfl (by rw [hB.size]; exact Nat.le_of_ble_eq_true rfl) eg).trans rfl, ?_⟩
      obtain ⟨x0, (q0 : x0 = .bool true), e0⟩ := hdep 25 89 (by kernel_rfl)
      subst q0
      clear hB hdep
      refine goes_value (v := .bool false) ?_ hC rfl
      simp only [execOp, Act.eval, e0]
      go_simp
    refine AllOps.cons ?_ ?_
    · intro aa W hC hB hdep
      refine .inl ⟨rfl, ?_⟩
      obtain ⟨x0, (q0 : x0 = .bool false), e0⟩ := hdep 21 85 (by kernel_rfl)
      subst q0
      obtain ⟨x1, (q1 : x1 = .bool false), e1⟩ := hdep 26 90 (by kernel_rfl)
      subst q1
      clear hB hdep
      refine goes_value (v := .bool false) ?_ hC rfl
      simp only [execOp, Act.eval, e0, e1]
      go_simp
    exact trivial
  · intro aa w8 hC hB hall
    have hv : ∀ p ∈ [((64 : Nat), (.bool true : Value)), ((65 : Nat), (.bool false : Value)), ((66 : Nat), (.bool false : Value)), ((67 : Nat), (.int .i64 0 : Value)), ((68 : Nat), (.bool false : Value)), ((69 : Nat), (.bool false : Value)), ((70 : Nat), (.bool false : Value)), ((71 : Nat), (.int .i64 0 : Value)), ((72 : Nat), (.bool false : Value)), ((73 : Nat), (.bool false : Value)), ((74 : Nat), (.bool false : Value)), ((75 : Nat), (.pointer (some ⟨gs, 0, none⟩) : Value)), ((76 : Nat), (.agg #[.int .i64 u0, .int .i64 u1] : Value)), ((77 : Nat), (.agg #[.int .i64 v0, .int .i64 v1] : Value)), ((78 : Nat), (.bool E : Value)), ((79 : Nat), (.pointer (some ⟨gs, 0, none⟩) : Value)), ((80 : Nat), (.agg #[.int .i64 v0, .int .i64 v1] : Value)), ((81 : Nat), (.agg #[.int .i64 u0, .int .i64 u1] : Value)), ((82 : Nat), (.bool E : Value)), ((83 : Nat), (.bool false : Value)), ((84 : Nat), (.bool false : Value)), ((85 : Nat), (.bool false : Value)), ((86 : Nat), (.pointer (some ⟨gs, 0, none⟩) : Value)), ((87 : Nat), (.agg #[.int .i64 u0, .int .i64 u1] : Value)), ((88 : Nat), (.agg #[.int .i64 u0, .int .i64 u1] : Value)), ((89 : Nat), (.bool true : Value)), ((90 : Nat), (.bool false : Value)), ((91 : Nat), (.bool false : Value))], aa.tmps.getD p.1 undef = p.2 := by
      obtain ⟨_, (k0 : _ = _), e0⟩ := hall 0 _ rfl
      obtain ⟨_, (k1 : _ = _), e1⟩ := hall 1 _ rfl
      obtain ⟨_, (k2 : _ = _), e2⟩ := hall 2 _ rfl
      obtain ⟨_, (k3 : _ = _), e3⟩ := hall 3 _ rfl
      obtain ⟨_, (k4 : _ = _), e4⟩ := hall 4 _ rfl
      obtain ⟨_, (k5 : _ = _), e5⟩ := hall 5 _ rfl
      obtain ⟨_, (k6 : _ = _), e6⟩ := hall 6 _ rfl
      obtain ⟨_, (k7 : _ = _), e7⟩ := hall 7 _ rfl
      obtain ⟨_, (k8 : _ = _), e8⟩ := hall 8 _ rfl
      obtain ⟨_, (k9 : _ = _), e9⟩ := hall 9 _ rfl
      obtain ⟨_, (k10 : _ = _), e10⟩ := hall 10 _ rfl
      obtain ⟨_, (k11 : _ = _), e11⟩ := hall 11 _ rfl
      obtain ⟨_, (k12 : _ = _), e12⟩ := hall 12 _ rfl
      obtain ⟨_, (k13 : _ = _), e13⟩ := hall 13 _ rfl
      obtain ⟨_, (k14 : _ = _), e14⟩ := hall 14 _ rfl
      obtain ⟨_, (k15 : _ = _), e15⟩ := hall 15 _ rfl
      obtain ⟨_, (k16 : _ = _), e16⟩ := hall 16 _ rfl
      obtain ⟨_, (k17 : _ = _), e17⟩ := hall 17 _ rfl
      obtain ⟨_, (k18 : _ = _), e18⟩ := hall 18 _ rfl
      obtain ⟨_, (k19 : _ = _), e19⟩ := hall 19 _ rfl
      obtain ⟨_, (k20 : _ = _), e20⟩ := hall 20 _ rfl
      obtain ⟨_, (k21 : _ = _), e21⟩ := hall 21 _ rfl
      obtain ⟨_, (k22 : _ = _), e22⟩ := hall 22 _ rfl
      obtain ⟨_, (k23 : _ = _), e23⟩ := hall 23 _ rfl
      obtain ⟨_, (k24 : _ = _), e24⟩ := hall 24 _ rfl
      obtain ⟨_, (k25 : _ = _), e25⟩ := hall 25 _ rfl
      obtain ⟨_, (k26 : _ = _), e26⟩ := hall 26 _ rfl
      obtain ⟨_, (k27 : _ = _), e27⟩ := hall 27 _ rfl
      subst k0 k1 k2 k3 k4 k5 k6 k7 k8 k9 k10 k11 k12 k13 k14 k15 k16 k17 k18 k19 k20 k21 k22 k23 k24 k25 k26 k27
      intro p hp
      simp only [List.mem_cons, List.not_mem_nil, or_false] at hp
      rcases hp with rfl | rfl | rfl | rfl | rfl | rfl | rfl | rfl | rfl | rfl | rfl | rfl | rfl | rfl | rfl | rfl | rfl | rfl | rfl | rfl | rfl | rfl | rfl | rfl | rfl | rfl | rfl | rfl
      · exact e0 _ rfl
      · exact e1 _ rfl
      · exact e2 _ rfl
      · exact e3 _ rfl
      · exact e4 _ rfl
      · exact e5 _ rfl
      · exact e6 _ rfl
      · exact e7 _ rfl
      · exact e8 _ rfl
      · exact e9 _ rfl
      · exact e10 _ rfl
      · exact e11 _ rfl
      · exact e12 _ rfl
      · exact e13 _ rfl
      · exact e14 _ rfl
      · exact e15 _ rfl
      · exact e16 _ rfl
      · exact e17 _ rfl
      · exact e18 _ rfl
      · exact e19 _ rfl
      · exact e20 _ rfl
      · exact e21 _ rfl
      · exact e22 _ rfl
      · exact e23 _ rfl
      · exact e24 _ rfl
      · exact e25 _ rfl
      · exact e26 _ rfl
      · exact e27 _ rfl
    have hact := act_fold _ hB hv (by kernel_rfl)
    subst hact
    clear hv hall hB
    refine (‹∀ (a : Act) (w : World), Code.wp Try.prog _ _ a w → _›) _ w8 ?_
    simp only [List.foldl, List.setIfInBounds_toArray, List.set_cons_succ, List.set_cons_zero]
    have HQ8 := Lib.hid (HQ7.out.below hC)
    clear hC
    generalize w8 = w9 at *
    rcases HC.out with ⟨rfl, _⟩ | ⟨rfl, n, rfl, hn⟩
    · clear HC
      go_wp2_with fail
      go_ret
      exact ⟨rfl, HB1.out.trans (HQ8.out.bel.mono HB1.out.size)⟩
    · clear HC
      obtain ⟨hn4, e4, e5, e6⟩ := rEq_both hn m
      have hnn : ((n : Nat) : Int) ≤ 399 := by omega
      have hn0 : 0 ≤ ((n : Nat) : Int) := by omega
      have HC4 := Lib.hid (show ∀ W, StQ w1 W gs R s → Calls Try.prog 30 #[.pointer (some ⟨gs, 0, none⟩), .agg #[.int .i64 u0, .int .i64 u1], .agg #[.int .i64 v0, .int .i64 v1], .int .i64 (400 + (m : Int))] W fun e w' => e = .returned (.tuple #[.bool r, .int .i64 ((n : Int) + (m : Int)), .int .i64 0]) ∧ Below W.heap.size W w' from fun W hq => (qequal (a := (u0, u1)) (b := (v0, v1)) (f := 400 + (m : Int)) (r := some (r, n + m)) hq (by omega) (by rw [show (400 + (m : Int)).toNat = 400 + m by omega]; exact e4)).mono fun e w' ⟨h, hb⟩ => ⟨h.trans (by simp [eqR]), hb⟩)
      have HC5 := Lib.hid (show ∀ W, StQ w1 W gs R s → Calls Try.prog 30 #[.pointer (some ⟨gs, 0, none⟩), .agg #[.int .i64 u0, .int .i64 u1], .agg #[.int .i64 v0, .int .i64 v1], .int .i64 (400 - (n : Int))] W fun e w' => e = .returned (.tuple #[.bool r, .int .i64 0, .int .i64 0]) ∧ Below W.heap.size W w' from fun W hq => (qequal (a := (u0, u1)) (b := (v0, v1)) (f := 400 - (n : Int)) (r := some (r, 0)) hq (by omega) (by rw [show (400 - (n : Int)).toNat = 400 - n by omega]; exact e5)).mono fun e w' ⟨h, hb⟩ => ⟨h.trans (by simp [eqR]), hb⟩)
      have HC6 := Lib.hid (show ∀ W, StQ w1 W gs R s → Calls Try.prog 30 #[.pointer (some ⟨gs, 0, none⟩), .agg #[.int .i64 u0, .int .i64 u1], .agg #[.int .i64 v0, .int .i64 v1], .int .i64 (399 - (n : Int))] W fun e w' => e = .returned (.tuple #[.bool false, .int .i64 0, .int .i64 15]) ∧ Below W.heap.size W w' from fun W hq => (qequal (a := (u0, u1)) (b := (v0, v1)) (f := 399 - (n : Int)) (r := none) hq (by omega) (by rw [show (399 - (n : Int)).toNat = 399 - n by omega]; exact e6)).mono fun e w' ⟨h, hb⟩ => ⟨h.trans (by simp [eqR]), hb⟩)
      have HER := Lib.hid (show E = true → r = true from fun h => by
        have h2 := (rEq_eqv400 (s := s) (a := (u0, u1)) (b := (v0, v1)) (HE0.out.trans h)).symm.trans hn
        injection h2 with h2
        exact (Prod.mk.inj h2).1.symm)
      clear hn e4 e5 e6 hn4
      obtain ⟨p0, p1, p2, p3⟩ := HX.out w9 HQ8.out.bel
      go_upto_region 11 with fail
      go_wp2_with fail
      refine (HC4.out w9 HQ8.out).mono ?_
      rintro e wa ⟨rfl, hb⟩
      have HQA := Lib.hid (HQ8.out.below hb)
      clear hb p0 p1 p2 p3
      obtain ⟨p0, p1, p2, p3⟩ := HX.out wa HQA.out.bel
      go_upto_region 12 with fail
      go_wp2_with fail
      refine (HC5.out wa HQA.out).mono ?_
      rintro e wb ⟨rfl, hb⟩
      have HQB := Lib.hid (HQA.out.below hb)
      clear hb p0 p1 p2 p3
      obtain ⟨p0, p1, p2, p3⟩ := HX.out wb HQB.out.bel
      go_upto_region 13 with fail
      go_wp2_with fail
      refine (HC6.out wb HQB.out).mono ?_
      rintro e wc ⟨rfl, hb⟩
      have HQC := Lib.hid (HQB.out.below hb)
      clear hb p0 p1 p2 p3
      obtain ⟨p0, p1, p2, p3⟩ := HX.out wc HQC.out.bel
      go_upto_region 14 with fail
      go_wp2_with fail
      refine (HE1.out wc HQC.out).mono ?_
      rintro e wd ⟨rfl, hb⟩
      have HQD := Lib.hid (HQC.out.below hb)
      clear hb p0 p1 p2 p3
      have hx : E = false ∨ (E = true ∧ r = true) := by
        cases hE' : E with
        | false => exact .inl rfl
        | true => exact .inr ⟨rfl, HER.out hE'⟩
      clear HER HE0
      rcases hx with rfl | ⟨rfl, rfl⟩
      all_goals
        go_wp2_with fail
        go_ret
        exact ⟨rfl, HB1.out.trans (HQD.out.bel.mono HB1.out.size)⟩
end Go.Proofs.Ytimnhbndokfgnaa
