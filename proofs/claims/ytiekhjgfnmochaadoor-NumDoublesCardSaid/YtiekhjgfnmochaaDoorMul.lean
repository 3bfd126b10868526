/- num.Mul over sound numbers -/
import Derived.Test.YtiekhjgfnmochaaDoorAdd
import Derived.Test.YtiekhjgfnmochaaDoorTimes
import Derived.Deep.RegionHeld3
namespace Go.Proofs.YtiekhjgfnmochaaDoor
open Go.RowKit

theorem ival_mul (n1 n2 : Bool) (xs ys : List Nat) : ival n1 xs * ival n2 ys = if (!(n1 == n2)) then -((val xs * val ys : Nat) : Int) else ((val xs * val ys : Nat) : Int) := by
  unfold ival
  rw [Int.natCast_mul]
  cases n1 <;> cases n2 <;> simp [Int.neg_mul, Int.mul_neg]

set_option maxRecDepth 100000 in
set_option maxHeartbeats 2000000 in
theorem mul_any (n1 n2 : Bool) (s1 s2 : Value) (xs ys : List Nat) (w : World) (hs1 : Sl .u32 w s1 xs) (hs2 : Sl .u32 w s2 ys) (hx : Snd n1 xs) (hy : Snd n2 ys) :
    Calls Tryd.prog 32 #[.agg #[.bool n1, s1], .agg #[.bool n2, s2]] w (ResPost (ival n1 xs * ival n2 ys) w) := by
  have HS1 := Lib.hid hs1
  have HS2 := Lib.hid hs2
  obtain ⟨q1, ao1, cap1, rfl, hcap1, q2⟩ := hs1
  obtain ⟨q3, ao2, cap2, rfl, hcap2, q4⟩ := hs2
  clear q1 q2 q3 q4
  have HX := Lib.hid hx; clear hx
  have HY := Lib.hid hy; clear hy
  have hb1 := Boxes.start w n1 (.slice ao1 xs.length cap1) n2 (.slice ao2 ys.length cap2)
  go_enter Tryd.func32, Tryd.ntmps32
  go_wp2_with fail
  refine (sound_any n1 _ xs _ (HS1.out.below hb1.bel) HX.out.2.1.wide).mono ?_
  rintro e w1 ⟨rfl, hb2⟩
  rw [sndB_true HX.out]
  have hb1 := hb1.step hb2
  clear hb2
  obtain ⟨a0, a1, b0, b1, r0, r1, f0, f1⟩ := hb1.facts
  go_wp2_with fail
  refine (sound_any n2 _ ys _ (HS2.out.below hb1.bel) HY.out.2.1.wide).mono ?_
  rintro e w2 ⟨rfl, hb2⟩
  rw [sndB_true HY.out]
  have hb1 := hb1.step hb2
  clear hb2 a0 a1 b0 b1 r0 r1 f0 f1
  obtain ⟨a0, a1, b0, b1, r0, r1, f0, f1⟩ := hb1.facts
  go_wp2_with fail
  have hb9 := Lib.hid hb1.drew
  clear hb1
  have hl1 : xs.length < 1000000 := by have := HX.out.1; omega
  have hl2 : ys.length < 1000000 := by have := HY.out.1; omega
  go_region_held3 (fun W' => W'.cell? ⟨w.heap.size, 0, none⟩ = some (.bool n1) ∧ W'.cell? ⟨w.heap.size, 1, none⟩ = some (.slice ao1 xs.length cap1) ∧ W'.cell? ⟨w.heap.size + 1, 0, none⟩ = some (.bool n2) ∧ W'.cell? ⟨w.heap.size + 1, 1, none⟩ = some (.slice ao2 ys.length cap2)) (first | exact ⟨a0, a1, b0, b1⟩ | (refine ⟨?_, ?_, ?_, ?_⟩ <;> assumption) | (refine ⟨?_, ?_, ?_, ?_⟩ <;> (rw [cell_other (by simp <;> omega), cell_other (by simp <;> omega)]; assumption)))
    (first
    | (go_at_call 55; refine (times_any _ _ xs ys _ (HS1.out.below hb9.out.bel) (HS2.out.below hb9.out.bel) HX.out.2.1 HY.out.2.1 hl1 hl2).mono ?_; rintro e w3 ⟨v3, rs, rfl, hsl3, hlb3, hlen3, hval3, hb3⟩; have HB3 := Lib.hid (hb9.out.step hb3); obtain ⟨a0, a1, b0, b1, r0, r1, f0, f1⟩ := HB3.out.facts; have HV3 := Lib.hid hval3; clear hval3 hlen3 hb3)
    | (go_at_call 47; refine (made_any (!(n1 == n2)) _ rs _ hsl3 hlb3).mono ?_; rintro e w4 ⟨v4, neg4, rs4, c4, rfl, ⟨sv4, rfl, hsl4⟩, hb4, hres4⟩; have HB4 := Lib.hid (HB3.out.step hb4); obtain ⟨a0, a1, b0, b1, r0, r1, f0, f1⟩ := HB4.out.facts; have HRES := Lib.hid hres4; clear hres4 hb4; have HS4 := Lib.hid hsl4; obtain ⟨q1, ao4, cap4, rfl, q2, q3⟩ := hsl4; clear q1 q2 q3))
  all_goals go_wp2
  all_goals
    refine bodyPost_ret (v := .tuple #[.agg #[.bool neg4, .slice ao4 rs4.length cap4], .int .i64 c4]) (by simp [results, Tryd.results32, go_sem, r0, r1]) rfl ?_
    refine ⟨_, neg4, rs4, c4, rfl, ⟨_, rfl, HS4.out.box HB4.out.r _ _⟩, (HB4.out.bel.setCell (by simp; omega) _).setCell (by simp; omega) _, ?_⟩
    have hr := made_res HRES.out
    rw [HV3.out] at hr
    rw [ival_mul]
    exact hr
end Go.Proofs.YtiekhjgfnmochaaDoor
