/- What laws over same need: answers of law07, a store of so many boxes. -/
import Derived.Test.YtimnhbndokfgnaaSmEq
namespace Go.Proofs.Ytimnhbndokfgnaa
open Go.RowKit

theorem qequal {w0 w : World} {g : Nat} {R : Nat → Nat} {s : St} {a b : Int × Int} {f : Int} {r : Option (Bool × Nat)} (h : StQ w0 w g R s) (hf : f ≤ 1000000) (hr : s.rEq f.toNat [(a, b)] = r) :
    Calls Try.prog 30 #[.pointer (some ⟨g, 0, none⟩), .agg #[.int .i64 a.1, .int .i64 a.2], .agg #[.int .i64 b.1, .int .i64 b.2], .int .i64 f] w fun e w' => e = .returned (eqR r) ∧ Below w.heap.size w w' := by
  rw [← hr]; exact equal_any g R s a b f w h.st hf
theorem qeqv {w0 w : World} {g : Nat} {R : Nat → Nat} {s : St} {a b : Int × Int} {r : Bool} (h : StQ w0 w g R s) (hr : s.eqvA a b = r) :
    Calls Try.prog 32 #[.pointer (some ⟨g, 0, none⟩), .agg #[.int .i64 a.1, .int .i64 a.2], .agg #[.int .i64 b.1, .int .i64 b.2]] w fun e w' => e = .returned (.bool r) ∧ Below w.heap.size w w' := by
  rw [← hr]; exact eqv_any g R s a b w h.st

set_option maxRecDepth 100000 in
set_option maxHeartbeats 2000000 in
theorem answers7_any (w : World) : Calls Try.prog 29 #[] w fun e w' => e = .returned (.bool true) ∧ Below w.heap.size w w' := by
  have HV1 := Lib.hid vrow1
  have hs1 : (⟨50, 4, [⟨3, 2, [(0, 0)], none⟩, ⟨3, 2, [(0, 0)], none⟩], []⟩ : St).rEq (5 : Int).toNat [((7, 0), (7, 1))] = some (true, 3) := by decide
  have hs2 : (⟨50, 4, [⟨3, 2, [(0, 0)], none⟩, ⟨3, 2, [(0, 0)], none⟩], []⟩ : St).eqvA (7, 0) (7, 0) = true := by decide
  have hs3 : (⟨50, 4, [⟨3, 2, [(0, 0)], none⟩, ⟨3, 2, [(0, 0)], none⟩], []⟩ : St).eqvA (7, 0) (7, 1) = false := by decide
  have HS1 := Lib.hid hs1
  have HS2 := Lib.hid hs2
  have HS3 := Lib.hid hs3
  clear hs1 hs2 hs3
  go_enter Try.func29, Try.ntmps29
  go_wp2_with fail
  refine (qnew 50 w _ (Below.refl _ _) (by omega)).mono ?_
  rintro e w1 ⟨g, hg, rfl, hq, hb⟩
  have HQ1 := Lib.hid hq
  clear hq hb hg
  go_wp2_with fail
  refine (qmake (s' := ⟨50, 2, [⟨3, 2, [(0, 0)], none⟩], []⟩) (r := ((7, 0), 0)) (HQ1.out.alloc _) (HV1.out _ (0, 0)) (by simp) rfl).mono ?_
  rintro e w2 ⟨rfl, R2, hq2, _, _⟩
  have HQ2 := Lib.hid (hq2.alloc (.cells #[.int .i64 7, .int .i64 0] 35))
  have HA2 := Lib.hid (Bx.new hq2 (7, 0))
  clear hq2
  go_upto_region 5 with fail
  generalize w2.alloc (.cells #[.int .i64 7, .int .i64 0] 35) = w3 at *
  generalize w2.heap.size = ab at *
  go_wp2_with fail
  refine (qmake (s' := ⟨50, 4, [⟨3, 2, [(0, 0)], none⟩, ⟨3, 2, [(0, 0)], none⟩], []⟩) (r := ((7, 1), 0)) (HQ2.out.alloc _) (HV1.out _ (0, 0)) (by simp) rfl).mono ?_
  rintro e w4 ⟨rfl, R4, hq4, hf4, hr4⟩
  have ha4 := (HA2.out.below (below1 w3 _)).keep hf4 hr4
  have HQ4 := Lib.hid (hq4.alloc (.cells #[.int .i64 7, .int .i64 1] 35))
  have HA4 := Lib.hid (ha4.below (below1 w4 (.cells #[.int .i64 7, .int .i64 1] 35)))
  have HB4 := Lib.hid (Bx.new hq4 (7, 1))
  clear hq4 hf4 hr4 ha4
  go_upto_region 6 with fail
  generalize w4.alloc (.cells #[.int .i64 7, .int .i64 1] 35) = w5 at *
  generalize w4.heap.size = bb at *
  obtain ⟨a0, a1, _⟩ := HA4.out.facts
  obtain ⟨b0, b1, _⟩ := HB4.out.facts
  go_wp2_with fail
  refine (qequal (a := (7, 0)) (b := (7, 1)) HQ4.out (by omega) HS1.out).mono ?_
  rintro e w6 ⟨rfl, hb6⟩
  have HQ6 := Lib.hid (HQ4.out.below hb6)
  have HA6 := Lib.hid (HA4.out.below hb6)
  have HB6 := Lib.hid (HB4.out.below hb6)
  clear hb6 a0 a1 b0 b1
  obtain ⟨a0, a1, _⟩ := HA6.out.facts
  obtain ⟨b0, b1, _⟩ := HB6.out.facts
  unfold eqR
  go_wp2_with fail
  refine (qeqv (a := (7, 0)) (b := (7, 0)) HQ6.out HS2.out).mono ?_
  rintro e w7 ⟨rfl, hb7⟩
  have HQ7 := Lib.hid (HQ6.out.below hb7)
  have HA7 := Lib.hid (HA6.out.below hb7)
  have HB7 := Lib.hid (HB6.out.below hb7)
  clear hb7 a0 a1 b0 b1
  obtain ⟨a0, a1, _⟩ := HA7.out.facts
  obtain ⟨b0, b1, _⟩ := HB7.out.facts
  go_wp2_with fail
  refine (qeqv (a := (7, 0)) (b := (7, 1)) HQ7.out HS3.out).mono ?_
  rintro e w8 ⟨rfl, hb8⟩
  have HQ8 := Lib.hid (HQ7.out.below hb8)
  clear hb8 a0 a1 b0 b1
  go_wp2_with fail
  go_ret
  exact ⟨rfl, HQ8.out.bel⟩
end Go.Proofs.Ytimnhbndokfgnaa
