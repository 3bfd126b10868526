/- num.Add, num.Sub and num.Mul of any two numbers -/
import Derived.Test.YtiekhjgfnmochaaDoorAnyRes
import Derived.Test.YtiekhjgfnmochaaDoorAddGe
import Derived.Test.YtiekhjgfnmochaaDoorMul
namespace Go.Proofs.YtiekhjgfnmochaaDoor
open Go.RowKit

set_option maxRecDepth 100000 in
set_option maxHeartbeats 4000000 in
theorem add_all (n1 n2 : Bool) (s1 s2 : Value) (xs ys : List Nat) (w : World) (hs1 : Sl .u32 w s1 xs) (hs2 : Sl .u32 w s2 ys) (hx : ∀ i, limb xs i < 4294967296) (hy : ∀ i, limb ys i < 4294967296) :
    Calls Tryd.prog 26 #[.agg #[.bool n1, s1], .agg #[.bool n2, s2]] w (AnyPost (Snd n1 xs ∧ Snd n2 ys) (ival n1 xs + ival n2 ys) w) := by
  by_cases g : Snd n1 xs ∧ Snd n2 ys
  · exact (add_any n1 n2 s1 s2 xs ys w hs1 hs2 g.1 g.2).mono fun _ _ h => h.any g
  have HS1 := Lib.hid hs1
  have HS2 := Lib.hid hs2
  obtain ⟨q1, ao1, cap1, rfl, hcap1, q2⟩ := hs1
  obtain ⟨q3, ao2, cap2, rfl, hcap2, q4⟩ := hs2
  clear q1 q2 q3 q4
  have HX := Lib.hid hx; clear hx
  have HY := Lib.hid hy; clear hy
  have hb1 := Boxes.start w n1 (.slice ao1 xs.length cap1) n2 (.slice ao2 ys.length cap2)
  by_cases g1 : Snd n1 xs
  · have g2 : ¬ Snd n2 ys := fun h => g ⟨g1, h⟩
    clear g
    have G1 := Lib.hid g1; clear g1
    have G2 := Lib.hid g2; clear g2
    go_enter Tryd.func26, Tryd.ntmps26
    go_wp2_with fail
    refine (sound_any n1 _ xs _ (HS1.out.below hb1.bel) HX.out).mono ?_
    rintro e w1 ⟨rfl, hb2⟩
    rw [sndB_true G1.out]
    have hb1 := hb1.step hb2
    clear hb2
    obtain ⟨a0, a1, b0, b1, r0, r1, f0, f1⟩ := hb1.facts
    go_wp2_with fail
    refine (sound_any n2 _ ys _ (HS2.out.below hb1.bel) HY.out).mono ?_
    rintro e w2 ⟨rfl, hb2⟩
    rw [sndB_false G2.out]
    have hb1 := hb1.step hb2
    clear hb2 a0 a1 b0 b1 r0 r1 f0 f1
    obtain ⟨a0, a1, b0, b1, r0, r1, f0, f1⟩ := hb1.facts
    have HB1 := Lib.hid hb1; clear hb1
    go_wp2_with fail
    refine bodyPost_ret (v := .tuple #[.agg #[.bool false, .slice none 0 0], .int .i64 2]) (by simp [results, Tryd.results26, go_sem, r0, r1]) rfl ?_
    first
      | exact AnyPost.bad (fun g => G2.out g.2) HB1.out.bel
      | exact AnyPost.bad (fun g => G2.out g.2) ((HB1.out.bel.setCell (by simp; omega) _).setCell (by simp; omega) _)
  · clear g
    have G1 := Lib.hid g1; clear g1
    go_enter Tryd.func26, Tryd.ntmps26
    go_wp2_with fail
    refine (sound_any n1 _ xs _ (HS1.out.below hb1.bel) HX.out).mono ?_
    rintro e w1 ⟨rfl, hb2⟩
    rw [sndB_false G1.out]
    have hb1 := hb1.step hb2
    clear hb2
    obtain ⟨a0, a1, b0, b1, r0, r1, f0, f1⟩ := hb1.facts
    have HB1 := Lib.hid hb1; clear hb1
    go_wp2_with fail
    refine bodyPost_ret (v := .tuple #[.agg #[.bool false, .slice none 0 0], .int .i64 2]) (by simp [results, Tryd.results26, go_sem, r0, r1]) rfl ?_
    first
      | exact AnyPost.bad (fun g => G1.out g.1) HB1.out.bel
      | exact AnyPost.bad (fun g => G1.out g.1) ((HB1.out.bel.setCell (by simp; omega) _).setCell (by simp; omega) _)

set_option maxRecDepth 100000 in
set_option maxHeartbeats 4000000 in
theorem mul_all (n1 n2 : Bool) (s1 s2 : Value) (xs ys : List Nat) (w : World) (hs1 : Sl .u32 w s1 xs) (hs2 : Sl .u32 w s2 ys) (hx : ∀ i, limb xs i < 4294967296) (hy : ∀ i, limb ys i < 4294967296) :
    Calls Tryd.prog 32 #[.agg #[.bool n1, s1], .agg #[.bool n2, s2]] w (AnyPost (Snd n1 xs ∧ Snd n2 ys) (ival n1 xs * ival n2 ys) w) := by
  by_cases g : Snd n1 xs ∧ Snd n2 ys
  · exact (mul_any n1 n2 s1 s2 xs ys w hs1 hs2 g.1 g.2).mono fun _ _ h => h.any g
  have HS1 := Lib.hid hs1
  have HS2 := Lib.hid hs2
  obtain ⟨q1, ao1, cap1, rfl, hcap1, q2⟩ := hs1
  obtain ⟨q3, ao2, cap2, rfl, hcap2, q4⟩ := hs2
  clear q1 q2 q3 q4
  have HX := Lib.hid hx; clear hx
  have HY := Lib.hid hy; clear hy
  have hb1 := Boxes.start w n1 (.slice ao1 xs.length cap1) n2 (.slice ao2 ys.length cap2)
  by_cases g1 : Snd n1 xs
  · have g2 : ¬ Snd n2 ys := fun h => g ⟨g1, h⟩
    clear g
    have G1 := Lib.hid g1; clear g1
    have G2 := Lib.hid g2; clear g2
    go_enter Tryd.func32, Tryd.ntmps32
    go_wp2_with fail
    refine (sound_any n1 _ xs _ (HS1.out.below hb1.bel) HX.out).mono ?_
    rintro e w1 ⟨rfl, hb2⟩
    rw [sndB_true G1.out]
    have hb1 := hb1.step hb2
    clear hb2
    obtain ⟨a0, a1, b0, b1, r0, r1, f0, f1⟩ := hb1.facts
    go_wp2_with fail
    refine (sound_any n2 _ ys _ (HS2.out.below hb1.bel) HY.out).mono ?_
    rintro e w2 ⟨rfl, hb2⟩
    rw [sndB_false G2.out]
    have hb1 := hb1.step hb2
    clear hb2 a0 a1 b0 b1 r0 r1 f0 f1
    obtain ⟨a0, a1, b0, b1, r0, r1, f0, f1⟩ := hb1.facts
    have HB1 := Lib.hid hb1; clear hb1
    go_wp2_with fail
    refine bodyPost_ret (v := .tuple #[.agg #[.bool false, .slice none 0 0], .int .i64 2]) (by simp [results, Tryd.results32, go_sem, r0, r1]) rfl ?_
    first
      | exact AnyPost.bad (fun g => G2.out g.2) HB1.out.bel
      | exact AnyPost.bad (fun g => G2.out g.2) ((HB1.out.bel.setCell (by simp; omega) _).setCell (by simp; omega) _)
  · clear g
    have G1 := Lib.hid g1; clear g1
    go_enter Tryd.func32, Tryd.ntmps32
    go_wp2_with fail
    refine (sound_any n1 _ xs _ (HS1.out.below hb1.bel) HX.out).mono ?_
    rintro e w1 ⟨rfl, hb2⟩
    rw [sndB_false G1.out]
    have hb1 := hb1.step hb2
    clear hb2
    obtain ⟨a0, a1, b0, b1, r0, r1, f0, f1⟩ := hb1.facts
    have HB1 := Lib.hid hb1; clear hb1
    go_wp2_with fail
    refine bodyPost_ret (v := .tuple #[.agg #[.bool false, .slice none 0 0], .int .i64 2]) (by simp [results, Tryd.results32, go_sem, r0, r1]) rfl ?_
    first
      | exact AnyPost.bad (fun g => G1.out g.1) HB1.out.bel
      | exact AnyPost.bad (fun g => G1.out g.1) ((HB1.out.bel.setCell (by simp; omega) _).setCell (by simp; omega) _)

set_option maxRecDepth 100000 in
set_option maxHeartbeats 4000000 in
theorem sub_all (n1 n2 : Bool) (s1 s2 : Value) (xs ys : List Nat) (w : World) (hs1 : Sl .u32 w s1 xs) (hs2 : Sl .u32 w s2 ys) (hx : ∀ i, limb xs i < 4294967296) (hy : ∀ i, limb ys i < 4294967296) :
    Calls Tryd.prog 28 #[.agg #[.bool n1, s1], .agg #[.bool n2, s2]] w (AnyPost (Snd n1 xs ∧ Snd n2 ys) (ival n1 xs - ival n2 ys) w) := by
  by_cases g : Snd n1 xs ∧ Snd n2 ys
  · exact (sub_any n1 n2 s1 s2 xs ys w hs1 hs2 g.1 g.2).mono fun _ _ h => h.any g
  have HS1 := Lib.hid hs1
  have HS2 := Lib.hid hs2
  obtain ⟨q1, ao1, cap1, rfl, hcap1, q2⟩ := hs1
  obtain ⟨q3, ao2, cap2, rfl, hcap2, q4⟩ := hs2
  clear q1 q2 q3 q4
  have HX := Lib.hid hx; clear hx
  have HY := Lib.hid hy; clear hy
  have hb1 := Boxes.start w n1 (.slice ao1 xs.length cap1) n2 (.slice ao2 ys.length cap2)
  by_cases g2 : Snd n2 ys
  · have g1 : ¬ Snd n1 xs := fun h => g ⟨h, g2⟩
    clear g
    have G1 := Lib.hid g1; clear g1
    have G2 := Lib.hid g2; clear g2
    go_enter Tryd.func28, Tryd.ntmps28
    go_wp2_with fail
    refine (sound_any n2 _ ys _ (HS2.out.below hb1.bel) HY.out).mono ?_
    rintro e w1 ⟨rfl, hb2⟩
    rw [sndB_true G2.out]
    have hb1 := hb1.step hb2
    clear hb2
    obtain ⟨a0, a1, b0, b1, r0, r1, f0, f1⟩ := hb1.facts
    have hA := add_all n1 (flip n2 ys) _ _ xs ys w1 (HS1.out.below hb1.bel) (HS2.out.below hb1.bel) HX.out HY.out
    have hfl : (n2 = false → flip n2 ys = decide (0 < ys.length)) ∧ (n2 = true → flip n2 ys = false) := by
      unfold flip
      refine ⟨fun h => ?_, fun h => ?_⟩
      · subst h; cases ys <;> simp
      · subst h; rfl
    cases n2
    · rw [hfl.1 rfl] at hA
      have HAA := Lib.hid hA
      clear hA hfl
      go_wp2_with fail
      refine HAA.out.mono ?_
      rintro e w4 ⟨v4, neg4, rs4, c4, rfl, ⟨sv4, rfl, hsl4⟩, hb4, hres4⟩
      have HB4 := Lib.hid (hb1.step hb4)
      clear a0 a1 b0 b1 r0 r1 f0 f1
      obtain ⟨a0, a1, b0, b1, r0, r1, f0, f1⟩ := HB4.out.facts
      have HRES := Lib.hid hres4
      clear hres4 hb4
      have HS4 := Lib.hid hsl4
      obtain ⟨q1, ao4, cap4, rfl, q2, q3⟩ := hsl4
      clear q1 q2 q3
      go_wp2
      refine bodyPost_ret (v := .tuple #[.agg #[.bool neg4, .slice ao4 rs4.length cap4], .int .i64 c4]) (by simp [results, Tryd.results28, go_sem, r0, r1]) rfl ?_
      refine ⟨_, neg4, rs4, c4, rfl, ⟨_, rfl, HS4.out.box HB4.out.r _ _⟩, (HB4.out.bel.setCell (by simp; omega) _).setCell (by simp; omega) _, .inr (.inr ⟨fun g => G1.out g.1, ?_⟩)⟩
      rcases HRES.out with h | h | h
      · exact absurd h.1.1 G1.out
      · exact absurd h.1.1 G1.out
      · exact h.2
    · rw [hfl.2 rfl] at hA
      have HAA := Lib.hid hA
      clear hA hfl
      go_wp2_with fail
      refine HAA.out.mono ?_
      rintro e w4 ⟨v4, neg4, rs4, c4, rfl, ⟨sv4, rfl, hsl4⟩, hb4, hres4⟩
      have HB4 := Lib.hid (hb1.step hb4)
      clear a0 a1 b0 b1 r0 r1 f0 f1
      obtain ⟨a0, a1, b0, b1, r0, r1, f0, f1⟩ := HB4.out.facts
      have HRES := Lib.hid hres4
      clear hres4 hb4
      have HS4 := Lib.hid hsl4
      obtain ⟨q1, ao4, cap4, rfl, q2, q3⟩ := hsl4
      clear q1 q2 q3
      go_wp2
      refine bodyPost_ret (v := .tuple #[.agg #[.bool neg4, .slice ao4 rs4.length cap4], .int .i64 c4]) (by simp [results, Tryd.results28, go_sem, r0, r1]) rfl ?_
      refine ⟨_, neg4, rs4, c4, rfl, ⟨_, rfl, HS4.out.box HB4.out.r _ _⟩, (HB4.out.bel.setCell (by simp; omega) _).setCell (by simp; omega) _, .inr (.inr ⟨fun g => G1.out g.1, ?_⟩)⟩
      rcases HRES.out with h | h | h
      · exact absurd h.1.1 G1.out
      · exact absurd h.1.1 G1.out
      · exact h.2
  · clear g
    have G2 := Lib.hid g2; clear g2
    go_enter Tryd.func28, Tryd.ntmps28
    go_wp2_with fail
    refine (sound_any n2 _ ys _ (HS2.out.below hb1.bel) HY.out).mono ?_
    rintro e w1 ⟨rfl, hb2⟩
    rw [sndB_false G2.out]
    have hb1 := hb1.step hb2
    clear hb2
    obtain ⟨a0, a1, b0, b1, r0, r1, f0, f1⟩ := hb1.facts
    have HB1 := Lib.hid hb1; clear hb1
    go_wp2_with fail
    refine bodyPost_ret (v := .tuple #[.agg #[.bool false, .slice none 0 0], .int .i64 2]) (by simp [results, Tryd.results28, go_sem, r0, r1]) rfl ?_
    first
      | exact AnyPost.bad (fun g => G2.out g.2) HB1.out.bel
      | exact AnyPost.bad (fun g => G2.out g.2) ((HB1.out.bel.setCell (by simp; omega) _).setCell (by simp; omega) _)
end Go.Proofs.YtiekhjgfnmochaaDoor
