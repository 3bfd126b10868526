/- same.Eqv, walked. -/
import Derived.Test.YtimnhbndokfgnaaSmEqv
namespace Go.Proofs.Ytimnhbndokfgnaa
open Go.RowKit

def St.eqvA (s : St) (a b : Int × Int) : Bool := decide (a = b ∨ (s.kind a = 5 ∧ s.kind b = 5 ∧ s.slotsEq a b = true))
theorem eqvA_same {s : St} {a b : Int × Int} (h : a = b) : s.eqvA a b = true := by unfold St.eqvA; simp [h]
theorem eqvA_no1 {s : St} {a b : Int × Int} (h : a ≠ b) (h1 : s.kind a ≠ 5) : s.eqvA a b = false := by unfold St.eqvA; simp [h, h1]
theorem eqvA_no2 {s : St} {a b : Int × Int} (h : a ≠ b) (h1 : s.kind b ≠ 5) : s.eqvA a b = false := by unfold St.eqvA; simp [h, h1]
theorem eqvA_big {s : St} {a b : Int × Int} (h : a ≠ b) (h1 : s.kind a = 5) (h2 : s.kind b = 5) : s.eqvA a b = s.slotsEq a b := by unfold St.eqvA; simp [h, h1, h2]

set_option maxRecDepth 100000 in
set_option maxHeartbeats 4000000 in
theorem eqv_any4 (g : Nat) (R : Nat → Nat) (s : St) (a0 a1 b0 b1 : Int) (w : World) (h : StW w g R s) :
    Calls Try.prog 32 #[.pointer (some ⟨g, 0, none⟩), .agg #[.int .i64 a0, .int .i64 a1], .agg #[.int .i64 b0, .int .i64 b1]] w fun e w' => e = .returned (.bool (s.eqvA (a0, a1) (b0, b1))) ∧ Below w.heap.size w w' := by
  have HS := Lib.hid h
  have HB2 := Lib.hid (below2 w (.cells #[.int .i64 a0, .int .i64 a1] 35) (.cells #[.int .i64 b0, .int .i64 b1] 35))
  obtain ⟨n0, n1⟩ := @news2 w (.cells #[.int .i64 a0, .int .i64 a1] 35) (.cells #[.int .i64 b0, .int .i64 b1] 35)
  have HN0 := Lib.hid n0
  have HN1 := Lib.hid n1
  obtain ⟨p0, p1, _⟩ := row2 n0
  obtain ⟨q0, q1, _⟩ := row2 n1
  obtain ⟨ka, hka⟩ : ∃ ka, ka = s.kind (a0, a1) := ⟨_, rfl⟩
  obtain ⟨kb, hkb⟩ : ∃ kb, kb = s.kind (b0, b1) := ⟨_, rfl⟩
  have HKA : Hid (∀ W, StW W g R s → Calls Try.prog 26 #[.pointer (some ⟨g, 0, none⟩), .agg #[.int .i64 a0, .int .i64 a1]] W fun e w' => e = .returned (.int .i64 ka) ∧ Below W.heap.size W w') := Lib.hid fun W hW => by rw [hka]; exact stkind_any g R s (a0, a1) W hW
  have HKB : Hid (∀ W, StW W g R s → Calls Try.prog 26 #[.pointer (some ⟨g, 0, none⟩), .agg #[.int .i64 b0, .int .i64 b1]] W fun e w' => e = .returned (.int .i64 kb) ∧ Below W.heap.size W w') := Lib.hid fun W hW => by rw [hkb]; exact stkind_any g R s (b0, b1) W hW
  have HEA := Lib.hid hka
  have HEB := Lib.hid hkb
  clear h n0 n1 hka hkb
  by_cases hab : ((a0, a1) : Int × Int) = (b0, b1)
  · have HE := Lib.hid (eqvA_same (s := s) hab)
    obtain ⟨rfl, rfl⟩ := Prod.mk.inj hab
    go_enter Try.func32, Try.ntmps32
    go_wp2_with fail
    go_ret
    exact ⟨ret_bl HE.out.symm, HB2.out⟩
  · have HAB := Lib.hid hab
    have hne : (a0 == b0) = false ∨ (a1 == b1) = false := by
      by_cases h1 : a0 = b0
      · refine .inr ?_
        rw [beq_eq_false_iff_ne]
        intro h2
        exact hab (by rw [h1, h2])
      · exact .inl (by rw [beq_eq_false_iff_ne]; exact h1)
    clear hab
    have hl1 : w.heap.size + 1 < ((w.alloc (.cells #[.int .i64 a0, .int .i64 a1] 35)).alloc (.cells #[.int .i64 b0, .int .i64 b1] 35)).heap.size := by simp
    have HL1 := Lib.hid hl1
    clear hl1
    rcases hne with hne | hne
    all_goals
      go_enter Try.func32, Try.ntmps32
      go_upto_region 1 with fail
      generalize (w.alloc (.cells #[.int .i64 a0, .int .i64 a1] 35)).alloc (.cells #[.int .i64 b0, .int .i64 b1] 35) = w1 at *
      go_wp2_with fail
      refine (HKA.out _ (HS.out.below HB2.out)).mono ?_
      rintro e w2 ⟨rfl, hb2⟩
      have HB3 := Lib.hid (HB2.out.trans (hb2.mono HB2.out.size))
      have HM0 := Lib.hid ((hb2.block w.heap.size (by have := HL1.out; omega)).trans HN0.out)
      have HM1 := Lib.hid ((hb2.block (w.heap.size + 1) HL1.out).trans HN1.out)
      clear hb2 p0 p1 q0 q1 hne
      by_cases h5 : ka = 5
      · have HEA5 := Lib.hid (HEA.out.symm.trans h5)
        subst h5
        obtain ⟨p0, p1, _⟩ := row2 HM0.out
        obtain ⟨q0, q1, _⟩ := row2 HM1.out
        go_wp2_with fail
        refine (HKB.out _ (HS.out.below HB3.out)).mono ?_
        rintro e w3 ⟨rfl, hb3⟩
        have HB4 := Lib.hid (HB3.out.trans (hb3.mono HB3.out.size))
        have HO0 := Lib.hid ((hb3.block w.heap.size (Array.getElem?_eq_some_iff.1 HM0.out).1).trans HM0.out)
        have HO1 := Lib.hid ((hb3.block (w.heap.size + 1) (Array.getElem?_eq_some_iff.1 HM1.out).1).trans HM1.out)
        clear hb3 p0 p1 q0 q1
        by_cases h6 : kb = 5
        · have HEB5 := Lib.hid (HEB.out.symm.trans h6)
          subst h6
          obtain ⟨p0, p1, _⟩ := row2 HO0.out
          obtain ⟨q0, q1, _⟩ := row2 HO1.out
          go_wp2_with fail
          refine (slotssame_any g R s (a0, a1) (b0, b1) _ (HS.out.below HB4.out)).mono ?_
          rintro e w4 ⟨rfl, hb4⟩
          have HB5 := Lib.hid (HB4.out.trans (hb4.mono HB4.out.size))
          clear hb4 p0 p1 q0 q1
          go_wp2_with fail
          go_ret
          exact ⟨ret_bl (by rw [eqvA_big HAB.out HEA5.out HEB5.out]), HB5.out⟩
        · have h6b : (kb == 5) = false := by rw [beq_eq_false_iff_ne]; exact h6
          go_wp2_with fail
          go_ret
          exact ⟨ret_bl (eqvA_no2 HAB.out (by rw [← HEB.out]; exact h6)).symm, HB4.out⟩
      · have h5b : (ka == 5) = false := by rw [beq_eq_false_iff_ne]; exact h5
        go_wp2_with fail
        go_ret
        exact ⟨ret_bl (eqvA_no1 HAB.out (by rw [← HEA.out]; exact h5)).symm, HB3.out⟩
theorem eqv_any (g : Nat) (R : Nat → Nat) (s : St) (a b : Int × Int) (w : World) (h : StW w g R s) :
    Calls Try.prog 32 #[.pointer (some ⟨g, 0, none⟩), .agg #[.int .i64 a.1, .int .i64 a.2], .agg #[.int .i64 b.1, .int .i64 b.2]] w fun e w' => e = .returned (.bool (s.eqvA a b)) ∧ Below w.heap.size w w' :=
  eqv_any4 g R s a.1 a.2 b.1 b.2 w h
end Go.Proofs.Ytimnhbndokfgnaa
