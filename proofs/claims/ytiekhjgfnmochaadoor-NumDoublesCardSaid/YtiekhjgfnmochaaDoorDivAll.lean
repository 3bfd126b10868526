/- num.Divide of numbers that are not sound, or by nought -/
import Derived.Test.YtiekhjgfnmochaaDoorModMath
namespace Go.Proofs.YtiekhjgfnmochaaDoor
open Go.RowKit
open DV

set_option maxRecDepth 100000 in
set_option maxHeartbeats 2000000 in
theorem divide_bad1 (n1 n2 : Bool) (s1 s2 : Value) (xs ys : List Nat) (w : World) (hs1 : Sl .u32 w s1 xs) (hs2 : Sl .u32 w s2 ys) (hx : ∀ i, limb xs i < 4294967296) (hy : ∀ i, limb ys i < 4294967296) (g1 : ¬ Snd n1 xs) :
    Calls Tryd.prog 34 #[.agg #[.bool n1, s1], .agg #[.bool n2, s2]] w (DivV n1 n2 xs ys w) := by
  have HS1 := Lib.hid hs1
  have HS2 := Lib.hid hs2
  obtain ⟨q1, ao1, cap1, rfl, hcap1, q2⟩ := hs1
  obtain ⟨q3, ao2, cap2, rfl, hcap2, q4⟩ := hs2
  clear q1 q2 q3 q4
  have HX := Lib.hid hx; clear hx
  have HY := Lib.hid hy; clear hy
  have G1 := Lib.hid g1; clear g1
  have hA0 := (Env.nil w).push (n := n1) HS1.out
  have hA1 := hA0.push (n := n2) (HS2.out.below (below1 w (.cells #[.bool n1, .slice ao1 xs.length cap1] 24)))
  have hA := Lib.hid ((hA1.alloc (.cells #[.bool false, .slice none 0 0] 24)).alloc (.cells #[.bool false, .slice none 0 0] 24))
  have hB := Lib.hid (((below2 w (.cells #[.bool n1, .slice ao1 xs.length cap1] 24) (.cells #[.bool n2, .slice ao2 ys.length cap2] 24)).alloc (by simp; omega) (.cells #[.bool false, .slice none 0 0] 24)).alloc (by simp; omega) (.cells #[.bool false, .slice none 0 0] 24))
  have hQ := Lib.hid ((ZB.new ((w.alloc (.cells #[.bool n1, .slice ao1 xs.length cap1] 24)).alloc (.cells #[.bool n2, .slice ao2 ys.length cap2] 24))).alloc (.cells #[.bool false, .slice none 0 0] 24))
  have hR := Lib.hid (ZB.new (((w.alloc (.cells #[.bool n1, .slice ao1 xs.length cap1] 24)).alloc (.cells #[.bool n2, .slice ao2 ys.length cap2] 24)).alloc (.cells #[.bool false, .slice none 0 0] 24)))
  simp only [World.size_alloc] at hA hQ hR
  clear hA0 hA1
  skip
  go_enter Tryd.func34, Tryd.ntmps34
  go_wp2_with fail
  generalize ((((w.alloc (.cells #[.bool n1, .slice ao1 xs.length cap1] 24)).alloc (.cells #[.bool n2, .slice ao2 ys.length cap2] 24)).alloc (.cells #[.bool false, .slice none 0 0] 24)).alloc (.cells #[.bool false, .slice none 0 0] 24)) = W at *
  replace hA := hA.out
  replace hB := hB.out
  replace hQ := hQ.out
  replace hR := hR.out
  have M1 : Hid ((w.heap.size, n1, Value.slice ao1 xs.length cap1, xs) ∈ [(w.heap.size + 1, n2, Value.slice ao2 ys.length cap2, ys), (w.heap.size, n1, Value.slice ao1 xs.length cap1, xs)]) := Lib.hid (by simp)
  have M2 : Hid ((w.heap.size + 1, n2, Value.slice ao2 ys.length cap2, ys) ∈ [(w.heap.size + 1, n2, Value.slice ao2 ys.length cap2, ys), (w.heap.size, n1, Value.slice ao1 xs.length cap1, xs)]) := Lib.hid (by simp)
  refine (sound_any n1 _ xs _ (hA.sl M1.out) HX.out).mono ?_
  rintro e w1 ⟨rfl, hb⟩
  rw [sndB_false G1.out]
  replace hB := hB.trans (hb.mono hB.size)
  replace hA := hA.step hb
  replace hQ := hQ.step hb
  replace hR := hR.step hb
  clear hb
  obtain ⟨z0, z1, z2, z3⟩ := hQ.facts
  obtain ⟨y0, y1, y2, y3⟩ := hR.facts
  go_wp2_with fail
  go_region
  go_wp2
  refine bodyPost_ret (v := .tuple #[.agg #[.bool false, .slice none 0 0], .agg #[.bool false, .slice none 0 0], .int .i64 2]) (by simp [results, Tryd.results34, go_sem, z0, z1, y0, y1]) rfl ?_
  exact DivV.bad (fun h => G1.out h.1) ⟨rfl, rfl⟩ ⟨rfl, rfl⟩ (by first | exact hB | exact hB.drew | exact ((((hB.setCell (by simp; omega) _).setCell (by simp; omega) _).setCell (by simp; omega) _).setCell (by simp; omega) _) | exact ((((hB.setCell (by simp; omega) _).setCell (by simp; omega) _).setCell (by simp; omega) _).setCell (by simp; omega) _).drew)

set_option maxRecDepth 100000 in
set_option maxHeartbeats 2000000 in
theorem divide_bad2 (n1 n2 : Bool) (s1 s2 : Value) (xs ys : List Nat) (w : World) (hs1 : Sl .u32 w s1 xs) (hs2 : Sl .u32 w s2 ys) (hx : ∀ i, limb xs i < 4294967296) (hy : ∀ i, limb ys i < 4294967296) (g1 : Snd n1 xs) (g2 : ¬ Snd n2 ys) :
    Calls Tryd.prog 34 #[.agg #[.bool n1, s1], .agg #[.bool n2, s2]] w (DivV n1 n2 xs ys w) := by
  have HS1 := Lib.hid hs1
  have HS2 := Lib.hid hs2
  obtain ⟨q1, ao1, cap1, rfl, hcap1, q2⟩ := hs1
  obtain ⟨q3, ao2, cap2, rfl, hcap2, q4⟩ := hs2
  clear q1 q2 q3 q4
  have HX := Lib.hid hx; clear hx
  have HY := Lib.hid hy; clear hy
  have G1 := Lib.hid g1; clear g1
  have G2 := Lib.hid g2; clear g2
  have hA0 := (Env.nil w).push (n := n1) HS1.out
  have hA1 := hA0.push (n := n2) (HS2.out.below (below1 w (.cells #[.bool n1, .slice ao1 xs.length cap1] 24)))
  have hA := Lib.hid ((hA1.alloc (.cells #[.bool false, .slice none 0 0] 24)).alloc (.cells #[.bool false, .slice none 0 0] 24))
  have hB := Lib.hid (((below2 w (.cells #[.bool n1, .slice ao1 xs.length cap1] 24) (.cells #[.bool n2, .slice ao2 ys.length cap2] 24)).alloc (by simp; omega) (.cells #[.bool false, .slice none 0 0] 24)).alloc (by simp; omega) (.cells #[.bool false, .slice none 0 0] 24))
  have hQ := Lib.hid ((ZB.new ((w.alloc (.cells #[.bool n1, .slice ao1 xs.length cap1] 24)).alloc (.cells #[.bool n2, .slice ao2 ys.length cap2] 24))).alloc (.cells #[.bool false, .slice none 0 0] 24))
  have hR := Lib.hid (ZB.new (((w.alloc (.cells #[.bool n1, .slice ao1 xs.length cap1] 24)).alloc (.cells #[.bool n2, .slice ao2 ys.length cap2] 24)).alloc (.cells #[.bool false, .slice none 0 0] 24)))
  simp only [World.size_alloc] at hA hQ hR
  clear hA0 hA1
  skip
  go_enter Tryd.func34, Tryd.ntmps34
  go_wp2_with fail
  generalize ((((w.alloc (.cells #[.bool n1, .slice ao1 xs.length cap1] 24)).alloc (.cells #[.bool n2, .slice ao2 ys.length cap2] 24)).alloc (.cells #[.bool false, .slice none 0 0] 24)).alloc (.cells #[.bool false, .slice none 0 0] 24)) = W at *
  replace hA := hA.out
  replace hB := hB.out
  replace hQ := hQ.out
  replace hR := hR.out
  have M1 : Hid ((w.heap.size, n1, Value.slice ao1 xs.length cap1, xs) ∈ [(w.heap.size + 1, n2, Value.slice ao2 ys.length cap2, ys), (w.heap.size, n1, Value.slice ao1 xs.length cap1, xs)]) := Lib.hid (by simp)
  have M2 : Hid ((w.heap.size + 1, n2, Value.slice ao2 ys.length cap2, ys) ∈ [(w.heap.size + 1, n2, Value.slice ao2 ys.length cap2, ys), (w.heap.size, n1, Value.slice ao1 xs.length cap1, xs)]) := Lib.hid (by simp)
  refine (sound_any n1 _ xs _ (hA.sl M1.out) HX.out).mono ?_
  rintro e w1 ⟨rfl, hb⟩
  rw [sndB_true G1.out]
  replace hB := hB.trans (hb.mono hB.size)
  replace hA := hA.step hb
  replace hQ := hQ.step hb
  replace hR := hR.step hb
  clear hb
  obtain ⟨p0, p1⟩ := hA.cells M2.out
  go_wp2_with fail
  refine (sound_any n2 _ ys _ (hA.sl M2.out) HY.out).mono ?_
  rintro e w2 ⟨rfl, hb⟩
  rw [sndB_false G2.out]
  replace hB := hB.trans (hb.mono hB.size)
  replace hA := hA.step hb
  replace hQ := hQ.step hb
  replace hR := hR.step hb
  clear hb p0 p1
  obtain ⟨z0, z1, z2, z3⟩ := hQ.facts
  obtain ⟨y0, y1, y2, y3⟩ := hR.facts
  go_wp2_with fail
  go_region
  go_wp2
  refine bodyPost_ret (v := .tuple #[.agg #[.bool false, .slice none 0 0], .agg #[.bool false, .slice none 0 0], .int .i64 2]) (by simp [results, Tryd.results34, go_sem, z0, z1, y0, y1]) rfl ?_
  exact DivV.bad (fun h => G2.out h.2) ⟨rfl, rfl⟩ ⟨rfl, rfl⟩ (by first | exact hB | exact hB.drew | exact ((((hB.setCell (by simp; omega) _).setCell (by simp; omega) _).setCell (by simp; omega) _).setCell (by simp; omega) _) | exact ((((hB.setCell (by simp; omega) _).setCell (by simp; omega) _).setCell (by simp; omega) _).setCell (by simp; omega) _).drew)

set_option maxRecDepth 100000 in
set_option maxHeartbeats 2000000 in
theorem divide_nought (n1 n2 : Bool) (s1 s2 : Value) (xs ys : List Nat) (w : World) (hs1 : Sl .u32 w s1 xs) (hs2 : Sl .u32 w s2 ys) (hx : ∀ i, limb xs i < 4294967296) (hy : ∀ i, limb ys i < 4294967296) (g1 : Snd n1 xs) (g2 : Snd n2 ys) (hne : ys = []) :
    Calls Tryd.prog 34 #[.agg #[.bool n1, s1], .agg #[.bool n2, s2]] w (DivV n1 n2 xs ys w) := by
  have HS1 := Lib.hid hs1
  have HS2 := Lib.hid hs2
  obtain ⟨q1, ao1, cap1, rfl, hcap1, q2⟩ := hs1
  obtain ⟨q3, ao2, cap2, rfl, hcap2, q4⟩ := hs2
  clear q1 q2 q3 q4
  have HX := Lib.hid hx; clear hx
  have HY := Lib.hid hy; clear hy
  have G1 := Lib.hid g1; clear g1
  have G2 := Lib.hid g2; clear g2
  have HN := Lib.hid hne; clear hne
  have hA0 := (Env.nil w).push (n := n1) HS1.out
  have hA1 := hA0.push (n := n2) (HS2.out.below (below1 w (.cells #[.bool n1, .slice ao1 xs.length cap1] 24)))
  have hA := Lib.hid ((hA1.alloc (.cells #[.bool false, .slice none 0 0] 24)).alloc (.cells #[.bool false, .slice none 0 0] 24))
  have hB := Lib.hid (((below2 w (.cells #[.bool n1, .slice ao1 xs.length cap1] 24) (.cells #[.bool n2, .slice ao2 ys.length cap2] 24)).alloc (by simp; omega) (.cells #[.bool false, .slice none 0 0] 24)).alloc (by simp; omega) (.cells #[.bool false, .slice none 0 0] 24))
  have hQ := Lib.hid ((ZB.new ((w.alloc (.cells #[.bool n1, .slice ao1 xs.length cap1] 24)).alloc (.cells #[.bool n2, .slice ao2 ys.length cap2] 24))).alloc (.cells #[.bool false, .slice none 0 0] 24))
  have hR := Lib.hid (ZB.new (((w.alloc (.cells #[.bool n1, .slice ao1 xs.length cap1] 24)).alloc (.cells #[.bool n2, .slice ao2 ys.length cap2] 24)).alloc (.cells #[.bool false, .slice none 0 0] 24)))
  simp only [World.size_alloc] at hA hQ hR
  clear hA0 hA1
  have hb0 : (((ys.length : Nat) : Int) == 0) = true := by rw [HN.out]; rfl
  go_enter Tryd.func34, Tryd.ntmps34
  go_wp2_with fail
  generalize ((((w.alloc (.cells #[.bool n1, .slice ao1 xs.length cap1] 24)).alloc (.cells #[.bool n2, .slice ao2 ys.length cap2] 24)).alloc (.cells #[.bool false, .slice none 0 0] 24)).alloc (.cells #[.bool false, .slice none 0 0] 24)) = W at *
  replace hA := hA.out
  replace hB := hB.out
  replace hQ := hQ.out
  replace hR := hR.out
  have M1 : Hid ((w.heap.size, n1, Value.slice ao1 xs.length cap1, xs) ∈ [(w.heap.size + 1, n2, Value.slice ao2 ys.length cap2, ys), (w.heap.size, n1, Value.slice ao1 xs.length cap1, xs)]) := Lib.hid (by simp)
  have M2 : Hid ((w.heap.size + 1, n2, Value.slice ao2 ys.length cap2, ys) ∈ [(w.heap.size + 1, n2, Value.slice ao2 ys.length cap2, ys), (w.heap.size, n1, Value.slice ao1 xs.length cap1, xs)]) := Lib.hid (by simp)
  refine (sound_any n1 _ xs _ (hA.sl M1.out) HX.out).mono ?_
  rintro e w1 ⟨rfl, hb⟩
  rw [sndB_true G1.out]
  replace hB := hB.trans (hb.mono hB.size)
  replace hA := hA.step hb
  replace hQ := hQ.step hb
  replace hR := hR.step hb
  clear hb
  obtain ⟨p0, p1⟩ := hA.cells M2.out
  go_wp2_with fail
  refine (sound_any n2 _ ys _ (hA.sl M2.out) HY.out).mono ?_
  rintro e w2 ⟨rfl, hb⟩
  rw [sndB_true G2.out]
  replace hB := hB.trans (hb.mono hB.size)
  replace hA := hA.step hb
  replace hQ := hQ.step hb
  replace hR := hR.step hb
  clear hb p0 p1
  obtain ⟨p0, p1⟩ := hA.cells M2.out
  obtain ⟨z0, z1, z2, z3⟩ := hQ.facts
  obtain ⟨y0, y1, y2, y3⟩ := hR.facts
  go_wp2_with fail
  go_region
  go_wp2
  refine bodyPost_ret (v := .tuple #[.agg #[.bool false, .slice none 0 0], .agg #[.bool false, .slice none 0 0], .int .i64 13]) (by simp [results, Tryd.results34, go_sem, z0, z1, y0, y1]) rfl ?_
  exact DivV.nought G1.out G2.out HN.out (by first | exact hB | exact hB.drew | exact ((((hB.setCell (by simp; omega) _).setCell (by simp; omega) _).setCell (by simp; omega) _).setCell (by simp; omega) _) | exact ((((hB.setCell (by simp; omega) _).setCell (by simp; omega) _).setCell (by simp; omega) _).setCell (by simp; omega) _).drew)

theorem divide_all (n1 n2 : Bool) (s1 s2 : Value) (xs ys : List Nat) (w : World) (hs1 : Sl .u32 w s1 xs) (hs2 : Sl .u32 w s2 ys) (hx : ∀ i, limb xs i < 4294967296) (hy : ∀ i, limb ys i < 4294967296) :
    Calls Tryd.prog 34 #[.agg #[.bool n1, s1], .agg #[.bool n2, s2]] w (DivV n1 n2 xs ys w) := by
  by_cases g1 : Snd n1 xs
  · by_cases g2 : Snd n2 ys
    · by_cases hne : ys = []
      · exact divide_nought n1 n2 s1 s2 xs ys w hs1 hs2 hx hy g1 g2 hne
      · exact (divide_ok n1 n2 s1 s2 xs ys w hs1 hs2 g1 g2 hne).mono fun _ _ h => h.open g1 g2 hne
    · exact divide_bad2 n1 n2 s1 s2 xs ys w hs1 hs2 hx hy g1 g2
  · exact divide_bad1 n1 n2 s1 s2 xs ys w hs1 hs2 hx hy g1
end Go.Proofs.YtiekhjgfnmochaaDoor
