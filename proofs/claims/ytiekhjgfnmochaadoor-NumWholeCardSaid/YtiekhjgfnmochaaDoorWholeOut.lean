/- NumWhole where a number is not sound, or nought -/
import Derived.Test.YtiekhjgfnmochaaDoorWholeMath
namespace Go.Proofs.YtiekhjgfnmochaaDoor
open Go.RowKit

set_option maxRecDepth 100000 in
set_option maxHeartbeats 4000000 in
theorem whole_out1 (n1 n2 : Bool) (a1 a2 : Option Addr) (c1 c2 : Nat) (xs ys : List Nat) (w : World) (ht : Pow10 w)
    (hs1 : Sl .u32 w (.slice a1 xs.length c1) xs) (hs2 : Sl .u32 w (.slice a2 ys.length c2) ys) (hx : ∀ i, limb xs i < 4294967296) (hy : ∀ i, limb ys i < 4294967296) (g1 : ¬ Snd n1 xs) :
    Calls Tryd.prog 8 #[.agg #[.bool n1, .slice a1 xs.length c1], .agg #[.bool n2, .slice a2 ys.length c2]] w (TruePost w) := by
  have HT := Lib.hid ht; clear ht
  have X1 := Lib.hid hx; clear hx
  have X2 := Lib.hid hy; clear hy
  have hE : Env [(w.heap.size + 1, n2, .slice a2 ys.length c2, ys), (w.heap.size, n1, .slice a1 xs.length c1, xs)] ((w.alloc (.cells #[.bool n1, .slice a1 xs.length c1] 24)).alloc (.cells #[.bool n2, .slice a2 ys.length c2] 24)) := by
    have h1 := (Env.nil w).push (n := n1) hs1
    have h2 := h1.push (n := n2) (hs2.below (below1 w _))
    simpa only [World.size_alloc] using h2
  have hB := below2 w (.cells #[.bool n1, .slice a1 xs.length c1] 24) (.cells #[.bool n2, .slice a2 ys.length c2] 24)
  clear hs1 hs2
  have M1 : Hid ((w.heap.size, n1, Value.slice a1 xs.length c1, xs) ∈ [(w.heap.size + 1, n2, Value.slice a2 ys.length c2, ys), (w.heap.size, n1, Value.slice a1 xs.length c1, xs)]) := Lib.hid (by simp)
  have M2 : Hid ((w.heap.size + 1, n2, Value.slice a2 ys.length c2, ys) ∈ [(w.heap.size + 1, n2, Value.slice a2 ys.length c2, ys), (w.heap.size, n1, Value.slice a1 xs.length c1, xs)]) := Lib.hid (by simp)
  have G1 := Lib.hid g1; clear g1
  go_enter Tryd.func8, Tryd.ntmps8
  go_wp2_with fail
  refine (answers_any _ (HT.out.below hB)).mono ?_
  rintro e V1 ⟨rfl, hb⟩
  replace hB := hB.trans (hb.mono hB.size)
  replace hE := hE.step hb
  clear hb
  obtain ⟨p0, p1⟩ := hE.cells M1.out
  go_wp2_with fail
  refine (rsound_any n1 _ xs _ (hE.sl M1.out) X1.out).mono ?_
  rintro e V2 ⟨rfl, hb⟩
  rw [sndB_false G1.out]
  replace hB := hB.trans (hb.mono hB.size)
  replace hE := hE.step hb
  clear hb p0 p1
  go_wp2_with fail
  refine (answers_any _ (HT.out.below hB)).mono ?_
  rintro e V9 ⟨rfl, hb⟩
  replace hB := hB.trans (hb.mono hB.size)
  go_wp2
  go_ret
  exact ⟨rfl, hB⟩

set_option maxRecDepth 100000 in
set_option maxHeartbeats 4000000 in
theorem whole_out2 (n1 n2 : Bool) (a1 a2 : Option Addr) (c1 c2 : Nat) (xs ys : List Nat) (w : World) (ht : Pow10 w)
    (hs1 : Sl .u32 w (.slice a1 xs.length c1) xs) (hs2 : Sl .u32 w (.slice a2 ys.length c2) ys) (hx : ∀ i, limb xs i < 4294967296) (hy : ∀ i, limb ys i < 4294967296) (g1 : Snd n1 xs) (g2 : ¬ Snd n2 ys) :
    Calls Tryd.prog 8 #[.agg #[.bool n1, .slice a1 xs.length c1], .agg #[.bool n2, .slice a2 ys.length c2]] w (TruePost w) := by
  have HT := Lib.hid ht; clear ht
  have X1 := Lib.hid hx; clear hx
  have X2 := Lib.hid hy; clear hy
  have hE : Env [(w.heap.size + 1, n2, .slice a2 ys.length c2, ys), (w.heap.size, n1, .slice a1 xs.length c1, xs)] ((w.alloc (.cells #[.bool n1, .slice a1 xs.length c1] 24)).alloc (.cells #[.bool n2, .slice a2 ys.length c2] 24)) := by
    have h1 := (Env.nil w).push (n := n1) hs1
    have h2 := h1.push (n := n2) (hs2.below (below1 w _))
    simpa only [World.size_alloc] using h2
  have hB := below2 w (.cells #[.bool n1, .slice a1 xs.length c1] 24) (.cells #[.bool n2, .slice a2 ys.length c2] 24)
  clear hs1 hs2
  have M1 : Hid ((w.heap.size, n1, Value.slice a1 xs.length c1, xs) ∈ [(w.heap.size + 1, n2, Value.slice a2 ys.length c2, ys), (w.heap.size, n1, Value.slice a1 xs.length c1, xs)]) := Lib.hid (by simp)
  have M2 : Hid ((w.heap.size + 1, n2, Value.slice a2 ys.length c2, ys) ∈ [(w.heap.size + 1, n2, Value.slice a2 ys.length c2, ys), (w.heap.size, n1, Value.slice a1 xs.length c1, xs)]) := Lib.hid (by simp)
  have G1 := Lib.hid g1; clear g1
  have G2 := Lib.hid g2; clear g2
  go_enter Tryd.func8, Tryd.ntmps8
  go_wp2_with fail
  refine (answers_any _ (HT.out.below hB)).mono ?_
  rintro e V1 ⟨rfl, hb⟩
  replace hB := hB.trans (hb.mono hB.size)
  replace hE := hE.step hb
  clear hb
  obtain ⟨p0, p1⟩ := hE.cells M1.out
  go_wp2_with fail
  refine (rsound_any n1 _ xs _ (hE.sl M1.out) X1.out).mono ?_
  rintro e V2 ⟨rfl, hb⟩
  rw [sndB_true G1.out]
  replace hB := hB.trans (hb.mono hB.size)
  replace hE := hE.step hb
  clear hb p0 p1
  obtain ⟨p0, p1⟩ := hE.cells M2.out
  go_wp2_with fail
  refine (rsound_any n2 _ ys _ (hE.sl M2.out) X2.out).mono ?_
  rintro e V3 ⟨rfl, hb⟩
  rw [sndB_false G2.out]
  replace hB := hB.trans (hb.mono hB.size)
  replace hE := hE.step hb
  clear hb p0 p1
  go_wp2_with fail
  refine (answers_any _ (HT.out.below hB)).mono ?_
  rintro e V9 ⟨rfl, hb⟩
  replace hB := hB.trans (hb.mono hB.size)
  go_wp2
  go_ret
  exact ⟨rfl, hB⟩

set_option maxRecDepth 100000 in
set_option maxHeartbeats 4000000 in
theorem whole_out3 (n1 n2 : Bool) (a1 a2 : Option Addr) (c1 c2 : Nat) (xs ys : List Nat) (w : World) (ht : Pow10 w)
    (hs1 : Sl .u32 w (.slice a1 xs.length c1) xs) (hs2 : Sl .u32 w (.slice a2 ys.length c2) ys) (hx : ∀ i, limb xs i < 4294967296) (hy : ∀ i, limb ys i < 4294967296) (g1 : Snd n1 xs) (g2 : Snd n2 ys) (hne : ys = []) :
    Calls Tryd.prog 8 #[.agg #[.bool n1, .slice a1 xs.length c1], .agg #[.bool n2, .slice a2 ys.length c2]] w (TruePost w) := by
  have HT := Lib.hid ht; clear ht
  have X1 := Lib.hid hx; clear hx
  have X2 := Lib.hid hy; clear hy
  have hE : Env [(w.heap.size + 1, n2, .slice a2 ys.length c2, ys), (w.heap.size, n1, .slice a1 xs.length c1, xs)] ((w.alloc (.cells #[.bool n1, .slice a1 xs.length c1] 24)).alloc (.cells #[.bool n2, .slice a2 ys.length c2] 24)) := by
    have h1 := (Env.nil w).push (n := n1) hs1
    have h2 := h1.push (n := n2) (hs2.below (below1 w _))
    simpa only [World.size_alloc] using h2
  have hB := below2 w (.cells #[.bool n1, .slice a1 xs.length c1] 24) (.cells #[.bool n2, .slice a2 ys.length c2] 24)
  clear hs1 hs2
  have M1 : Hid ((w.heap.size, n1, Value.slice a1 xs.length c1, xs) ∈ [(w.heap.size + 1, n2, Value.slice a2 ys.length c2, ys), (w.heap.size, n1, Value.slice a1 xs.length c1, xs)]) := Lib.hid (by simp)
  have M2 : Hid ((w.heap.size + 1, n2, Value.slice a2 ys.length c2, ys) ∈ [(w.heap.size + 1, n2, Value.slice a2 ys.length c2, ys), (w.heap.size, n1, Value.slice a1 xs.length c1, xs)]) := Lib.hid (by simp)
  have G1 := Lib.hid g1; clear g1
  have G2 := Lib.hid g2; clear g2
  have hb0 : (((ys.length : Nat) : Int) == 0) = true := by rw [hne]; rfl
  clear hne
  go_enter Tryd.func8, Tryd.ntmps8
  go_wp2_with fail
  refine (answers_any _ (HT.out.below hB)).mono ?_
  rintro e V1 ⟨rfl, hb⟩
  replace hB := hB.trans (hb.mono hB.size)
  replace hE := hE.step hb
  clear hb
  obtain ⟨p0, p1⟩ := hE.cells M1.out
  go_wp2_with fail
  refine (rsound_any n1 _ xs _ (hE.sl M1.out) X1.out).mono ?_
  rintro e V2 ⟨rfl, hb⟩
  rw [sndB_true G1.out]
  replace hB := hB.trans (hb.mono hB.size)
  replace hE := hE.step hb
  clear hb p0 p1
  obtain ⟨p0, p1⟩ := hE.cells M2.out
  go_wp2_with fail
  refine (rsound_any n2 _ ys _ (hE.sl M2.out) X2.out).mono ?_
  rintro e V3 ⟨rfl, hb⟩
  rw [sndB_true G2.out]
  replace hB := hB.trans (hb.mono hB.size)
  replace hE := hE.step hb
  clear hb p0 p1
  obtain ⟨p0, p1⟩ := hE.cells M2.out
  go_wp2_with fail
  refine (answers_any _ (HT.out.below hB)).mono ?_
  rintro e V9 ⟨rfl, hb⟩
  replace hB := hB.trans (hb.mono hB.size)
  go_wp2
  go_ret
  exact ⟨rfl, hB⟩

end Go.Proofs.YtiekhjgfnmochaaDoor
