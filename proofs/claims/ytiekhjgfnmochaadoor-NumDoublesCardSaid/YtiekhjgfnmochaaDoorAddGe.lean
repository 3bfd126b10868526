/- num.Add over sound numbers of two signs | num.Add over sound numbers of two signs | num.Add and num.Sub over sound numbers -/
import Derived.Test.YtiekhjgfnmochaaDoorAdd
namespace Go.Proofs.YtiekhjgfnmochaaDoor
open Go.RowKit

set_option maxRecDepth 100000 in
set_option maxHeartbeats 2000000 in
theorem add_ge (n1 n2 : Bool) (s1 s2 : Value) (xs ys : List Nat) (w : World) (hs1 : Sl .u32 w s1 xs) (hs2 : Sl .u32 w s2 ys) (hx : Snd n1 xs) (hy : Snd n2 ys) (hn : n1 ≠ n2) (hle : val ys ≤ val xs) :
    Calls Tryd.prog 26 #[.agg #[.bool n1, s1], .agg #[.bool n2, s2]] w (ResPost (ival n1 xs + ival n2 ys) w) := by
  have HS1 := Lib.hid hs1
  have HS2 := Lib.hid hs2
  obtain ⟨q1, ao1, cap1, rfl, hcap1, q2⟩ := hs1
  obtain ⟨q3, ao2, cap2, rfl, hcap2, q4⟩ := hs2
  clear q1 q2 q3 q4
  have HX := Lib.hid hx; clear hx
  have HY := Lib.hid hy; clear hy
  have HLE := Lib.hid hle; clear hle
  have hnn : (n1 == n2) = false := by cases n1 <;> cases n2 <;> simp_all
  have HN := Lib.hid hn; clear hn
  have hb1 := Boxes.start w n1 (.slice ao1 xs.length cap1) n2 (.slice ao2 ys.length cap2)
  go_enter Tryd.func26, Tryd.ntmps26
  go_wp2_with fail
  refine (sound_any n1 _ xs _ (HS1.out.below hb1.bel) HX.out.2.1.wide).mono ?_
  rintro e w1 ⟨rfl, hb2⟩
  rw [sndB_true HX.out]
  have hb1 := hb1.step hb2
  clear hb2
  obtain ⟨a0, a1, b0, b1, r0, r1, f0, f1⟩ := hb1.facts
  go_wp2_with fail
  refine (sound_any n2 _ ys _ (HS2.out.below hb1.bel) HY.out.2.1.wide).mono ?_
  rintro e w2 ⟨rfl, hb2⟩
  rw [sndB_true HY.out]
  have hb1 := hb1.step hb2
  clear hb2 a0 a1 b0 b1 r0 r1 f0 f1
  obtain ⟨a0, a1, b0, b1, r0, r1, f0, f1⟩ := hb1.facts
  have hl1 : xs.length < 1000000 := by have := HX.out.1; omega
  have hl2 : ys.length < 1000000 := by have := HY.out.1; omega
  go_wp2_with fail
  refine (compare_any _ _ xs ys _ (HS1.out.below hb1.bel) (HS2.out.below hb1.bel) HX.out.2.1 HY.out.2.1 hl1 hl2).mono ?_
  rintro e w5 ⟨rfl, hb2⟩
  have hcmp : 0 ≤ cmpN (val xs) (val ys) := by
    have := HLE.out
    unfold cmpN
    rw [if_neg (by omega)]; split <;> omega
  have hb1 := hb1.step hb2
  clear hb2 a0 a1 b0 b1 r0 r1 f0 f1
  obtain ⟨a0, a1, b0, b1, r0, r1, f0, f1⟩ := hb1.facts
  go_wp2_with fail
  clear a0 a1 b0 b1 r0 r1 f0 f1
  have hb9 := Lib.hid hb1.drew
  clear hb1
  obtain ⟨a0, a1, b0, b1, r0, r1, f0, f1⟩ := hb9.out.facts
  go_region_with (first
    | (go_at_call 51; refine (minus_any _ _ xs ys _ (HS1.out.below hb9.out.bel) (HS2.out.below hb9.out.bel) HX.out.2.1 HY.out.2.1 hl1 (len_le_of_val HX.out HY.out HLE.out) HLE.out).mono ?_; rintro e w3 ⟨v3, rs, rfl, hsl3, hlb3, hlen3, hval3, hb3⟩; have HB3 := Lib.hid (hb9.out.step hb3); obtain ⟨a0, a1, b0, b1, r0, r1, f0, f1⟩ := HB3.out.facts; have HV3 := Lib.hid hval3; clear hval3 hlen3 hb3)
    | (go_at_call 47; refine (made_any n1 _ rs _ hsl3 hlb3).mono ?_; rintro e w4 ⟨v4, neg4, rs4, c4, rfl, ⟨sv4, rfl, hsl4⟩, hb4, hres4⟩; have HB4 := Lib.hid (HB3.out.step hb4); obtain ⟨a0, a1, b0, b1, r0, r1, f0, f1⟩ := HB4.out.facts; have HRES := Lib.hid hres4; clear hres4 hb4; have HS4 := Lib.hid hsl4; obtain ⟨q1, ao4, cap4, rfl, q2, q3⟩ := hsl4; clear q1 q2 q3))
  all_goals go_wp2
  all_goals
    refine bodyPost_ret (v := .tuple #[.agg #[.bool neg4, .slice ao4 rs4.length cap4], .int .i64 c4]) (by simp [results, Tryd.results26, go_sem, r0, r1]) rfl ?_
    refine ⟨_, neg4, rs4, c4, rfl, ⟨_, rfl, HS4.out.box HB4.out.r _ _⟩, (HB4.out.bel.setCell (by simp; omega) _).setCell (by simp; omega) _, ?_⟩
    have hr := made_res HRES.out
    rw [HV3.out] at hr
    have hle := HLE.out
    have hnn := HN.out
    have e : ival n1 xs + ival n2 ys = if n1 then -((val xs - val ys : Nat) : Int) else ((val xs - val ys : Nat) : Int) := by
      unfold ival
      cases n1 <;> cases n2 <;> simp <;> first | (exact absurd rfl hnn) | omega
    rw [e]
    exact hr

end Go.Proofs.YtiekhjgfnmochaaDoor
namespace Go.Proofs.YtiekhjgfnmochaaDoor
open Go.RowKit

set_option maxRecDepth 100000 in
set_option maxHeartbeats 2000000 in
theorem add_lt (n1 n2 : Bool) (s1 s2 : Value) (xs ys : List Nat) (w : World) (hs1 : Sl .u32 w s1 xs) (hs2 : Sl .u32 w s2 ys) (hx : Snd n1 xs) (hy : Snd n2 ys) (hn : n1 ≠ n2) (hle : val xs < val ys) :
    Calls Tryd.prog 26 #[.agg #[.bool n1, s1], .agg #[.bool n2, s2]] w (ResPost (ival n1 xs + ival n2 ys) w) := by
  have HS1 := Lib.hid hs1
  have HS2 := Lib.hid hs2
  obtain ⟨q1, ao1, cap1, rfl, hcap1, q2⟩ := hs1
  obtain ⟨q3, ao2, cap2, rfl, hcap2, q4⟩ := hs2
  clear q1 q2 q3 q4
  have HX := Lib.hid hx; clear hx
  have HY := Lib.hid hy; clear hy
  have HLE := Lib.hid hle; clear hle
  have hnn : (n1 == n2) = false := by cases n1 <;> cases n2 <;> simp_all
  have HN := Lib.hid hn; clear hn
  have hb1 := Boxes.start w n1 (.slice ao1 xs.length cap1) n2 (.slice ao2 ys.length cap2)
  go_enter Tryd.func26, Tryd.ntmps26
  go_wp2_with fail
  refine (sound_any n1 _ xs _ (HS1.out.below hb1.bel) HX.out.2.1.wide).mono ?_
  rintro e w1 ⟨rfl, hb2⟩
  rw [sndB_true HX.out]
  have hb1 := hb1.step hb2
  clear hb2
  obtain ⟨a0, a1, b0, b1, r0, r1, f0, f1⟩ := hb1.facts
  go_wp2_with fail
  refine (sound_any n2 _ ys _ (HS2.out.below hb1.bel) HY.out.2.1.wide).mono ?_
  rintro e w2 ⟨rfl, hb2⟩
  rw [sndB_true HY.out]
  have hb1 := hb1.step hb2
  clear hb2 a0 a1 b0 b1 r0 r1 f0 f1
  obtain ⟨a0, a1, b0, b1, r0, r1, f0, f1⟩ := hb1.facts
  have hl1 : xs.length < 1000000 := by have := HX.out.1; omega
  have hl2 : ys.length < 1000000 := by have := HY.out.1; omega
  go_wp2_with fail
  refine (compare_any _ _ xs ys _ (HS1.out.below hb1.bel) (HS2.out.below hb1.bel) HX.out.2.1 HY.out.2.1 hl1 hl2).mono ?_
  rintro e w5 ⟨rfl, hb2⟩
  have hcmp : cmpN (val xs) (val ys) < 0 := by
    have := HLE.out
    unfold cmpN
    rw [if_pos (by omega)]; omega
  have hb1 := hb1.step hb2
  clear hb2 a0 a1 b0 b1 r0 r1 f0 f1
  obtain ⟨a0, a1, b0, b1, r0, r1, f0, f1⟩ := hb1.facts
  go_wp2_with fail
  clear a0 a1 b0 b1 r0 r1 f0 f1
  have hb9 := Lib.hid hb1.drew
  clear hb1
  obtain ⟨a0, a1, b0, b1, r0, r1, f0, f1⟩ := hb9.out.facts
  go_region_with (first
    | (go_at_call 51; refine (minus_any _ _ ys xs _ (HS2.out.below hb9.out.bel) (HS1.out.below hb9.out.bel) HY.out.2.1 HX.out.2.1 hl2 (len_le_of_val HY.out HX.out (Nat.le_of_lt HLE.out)) (Nat.le_of_lt HLE.out)).mono ?_; rintro e w3 ⟨v3, rs, rfl, hsl3, hlb3, hlen3, hval3, hb3⟩; have HB3 := Lib.hid (hb9.out.step hb3); obtain ⟨a0, a1, b0, b1, r0, r1, f0, f1⟩ := HB3.out.facts; have HV3 := Lib.hid hval3; clear hval3 hlen3 hb3)
    | (go_at_call 47; refine (made_any n2 _ rs _ hsl3 hlb3).mono ?_; rintro e w4 ⟨v4, neg4, rs4, c4, rfl, ⟨sv4, rfl, hsl4⟩, hb4, hres4⟩; have HB4 := Lib.hid (HB3.out.step hb4); obtain ⟨a0, a1, b0, b1, r0, r1, f0, f1⟩ := HB4.out.facts; have HRES := Lib.hid hres4; clear hres4 hb4; have HS4 := Lib.hid hsl4; obtain ⟨q1, ao4, cap4, rfl, q2, q3⟩ := hsl4; clear q1 q2 q3))
  all_goals go_wp2
  all_goals
    refine bodyPost_ret (v := .tuple #[.agg #[.bool neg4, .slice ao4 rs4.length cap4], .int .i64 c4]) (by simp [results, Tryd.results26, go_sem, r0, r1]) rfl ?_
    refine ⟨_, neg4, rs4, c4, rfl, ⟨_, rfl, HS4.out.box HB4.out.r _ _⟩, (HB4.out.bel.setCell (by simp; omega) _).setCell (by simp; omega) _, ?_⟩
    have hr := made_res HRES.out
    rw [HV3.out] at hr
    have hle := HLE.out
    have hnn := HN.out
    have e : ival n1 xs + ival n2 ys = if n2 then -((val ys - val xs : Nat) : Int) else ((val ys - val xs : Nat) : Int) := by
      unfold ival
      cases n1 <;> cases n2 <;> simp <;> first | (exact absurd rfl hnn) | omega
    rw [e]
    exact hr

end Go.Proofs.YtiekhjgfnmochaaDoor
namespace Go.Proofs.YtiekhjgfnmochaaDoor
open Go.RowKit

theorem add_any (n1 n2 : Bool) (s1 s2 : Value) (xs ys : List Nat) (w : World) (hs1 : Sl .u32 w s1 xs) (hs2 : Sl .u32 w s2 ys) (hx : Snd n1 xs) (hy : Snd n2 ys) :
    Calls Tryd.prog 26 #[.agg #[.bool n1, s1], .agg #[.bool n2, s2]] w (ResPost (ival n1 xs + ival n2 ys) w) := by
  by_cases hn : n1 = n2
  · subst hn
    exact add_same n1 s1 s2 xs ys w hs1 hs2 hx hy
  · by_cases hle : val ys ≤ val xs
    · exact add_ge n1 n2 s1 s2 xs ys w hs1 hs2 hx hy hn hle
    · exact add_lt n1 n2 s1 s2 xs ys w hs1 hs2 hx hy hn (by omega)

/-- The other sign. -/
def flip (neg : Bool) (xs : List Nat) : Bool := !neg && !xs.isEmpty
theorem flip_snd {neg : Bool} {xs : List Nat} (h : Snd neg xs) : Snd (flip neg xs) xs := by
  refine ⟨h.1, h.2.1, fun e => ?_, h.2.2.2⟩
  subst e; unfold flip; simp
theorem flip_ival {neg : Bool} {xs : List Nat} (h : Snd neg xs) : ival (flip neg xs) xs = - ival neg xs := by
  by_cases e : xs = []
  · subst e
    have h1 := h.2.2.1 rfl
    subst h1
    rfl
  · unfold flip ival
    cases neg <;> simp [e]

set_option maxRecDepth 100000 in
set_option maxHeartbeats 2000000 in
theorem sub_any (n1 n2 : Bool) (s1 s2 : Value) (xs ys : List Nat) (w : World) (hs1 : Sl .u32 w s1 xs) (hs2 : Sl .u32 w s2 ys) (hx : Snd n1 xs) (hy : Snd n2 ys) :
    Calls Tryd.prog 28 #[.agg #[.bool n1, s1], .agg #[.bool n2, s2]] w (ResPost (ival n1 xs - ival n2 ys) w) := by
  have HS1 := Lib.hid hs1
  have HS2 := Lib.hid hs2
  obtain ⟨q1, ao1, cap1, rfl, hcap1, q2⟩ := hs1
  obtain ⟨q3, ao2, cap2, rfl, hcap2, q4⟩ := hs2
  clear q1 q2 q3 q4
  have HX := Lib.hid hx; clear hx
  have HY := Lib.hid hy; clear hy
  have hb1 := Boxes.start w n1 (.slice ao1 xs.length cap1) n2 (.slice ao2 ys.length cap2)
  go_enter Tryd.func28, Tryd.ntmps28
  go_wp2_with fail
  refine (sound_any n2 _ ys _ (HS2.out.below hb1.bel) HY.out.2.1.wide).mono ?_
  rintro e w1 ⟨rfl, hb2⟩
  rw [sndB_true HY.out]
  have hb1 := hb1.step hb2
  clear hb2
  obtain ⟨a0, a1, b0, b1, r0, r1, f0, f1⟩ := hb1.facts
  have hA := add_any n1 (flip n2 ys) _ _ xs ys w1 (HS1.out.below hb1.bel) (HS2.out.below hb1.bel) HX.out (flip_snd HY.out)
  rw [flip_ival HY.out] at hA
  have hfl : (n2 = false → flip n2 ys = decide (0 < ys.length)) ∧ (n2 = true → flip n2 ys = false) := by
    unfold flip
    refine ⟨fun h => ?_, fun h => ?_⟩
    · subst h; cases ys <;> simp
    · subst h; rfl
  cases n2
  · rw [hfl.1 rfl] at hA
    have HAA := Lib.hid hA
    clear hA hfl
    go_wp2_with fail
    refine HAA.out.mono ?_
    rintro e w4 ⟨v4, neg4, rs4, c4, rfl, ⟨sv4, rfl, hsl4⟩, hb4, hres4⟩
    have HB4 := Lib.hid (hb1.step hb4)
    clear a0 a1 b0 b1 r0 r1 f0 f1
    obtain ⟨a0, a1, b0, b1, r0, r1, f0, f1⟩ := HB4.out.facts
    have HRES := Lib.hid hres4
    clear hres4 hb4
    have HS4 := Lib.hid hsl4
    obtain ⟨q1, ao4, cap4, rfl, q2, q3⟩ := hsl4
    clear q1 q2 q3
    go_wp2
    refine bodyPost_ret (v := .tuple #[.agg #[.bool neg4, .slice ao4 rs4.length cap4], .int .i64 c4]) (by simp [results, Tryd.results28, go_sem, r0, r1]) rfl ?_
    exact ⟨_, neg4, rs4, c4, rfl, ⟨_, rfl, HS4.out.box HB4.out.r _ _⟩, (HB4.out.bel.setCell (by simp; omega) _).setCell (by simp; omega) _, HRES.out⟩
  · rw [hfl.2 rfl] at hA
    have HAA := Lib.hid hA
    clear hA hfl
    go_wp2_with fail
    refine HAA.out.mono ?_
    rintro e w4 ⟨v4, neg4, rs4, c4, rfl, ⟨sv4, rfl, hsl4⟩, hb4, hres4⟩
    have HB4 := Lib.hid (hb1.step hb4)
    clear a0 a1 b0 b1 r0 r1 f0 f1
    obtain ⟨a0, a1, b0, b1, r0, r1, f0, f1⟩ := HB4.out.facts
    have HRES := Lib.hid hres4
    clear hres4 hb4
    have HS4 := Lib.hid hsl4
    obtain ⟨q1, ao4, cap4, rfl, q2, q3⟩ := hsl4
    clear q1 q2 q3
    go_wp2
    refine bodyPost_ret (v := .tuple #[.agg #[.bool neg4, .slice ao4 rs4.length cap4], .int .i64 c4]) (by simp [results, Tryd.results28, go_sem, r0, r1]) rfl ?_
    exact ⟨_, neg4, rs4, c4, rfl, ⟨_, rfl, HS4.out.box HB4.out.r _ _⟩, (HB4.out.bel.setCell (by simp; omega) _).setCell (by simp; omega) _, HRES.out⟩
end Go.Proofs.YtiekhjgfnmochaaDoor
