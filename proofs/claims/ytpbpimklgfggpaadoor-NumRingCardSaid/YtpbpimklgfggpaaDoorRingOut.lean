/- NumRing outside its guard -/
import Derived.Test.YtpbpimklgfggpaaDoorRing
namespace Go.Proofs.YtpbpimklgfggpaaDoor
open Go.RowKit

set_option maxRecDepth 100000 in
set_option maxHeartbeats 4000000 in
theorem ring_out1 (n1 n2 n3 : Bool) (a1 a2 a3 : Option Addr) (c1 c2 c3 : Nat) (xs ys zs : List Nat) (w : World) (ht : Pow10 w)
    (hs1 : Sl .u32 w (.slice a1 xs.length c1) xs) (hs2 : Sl .u32 w (.slice a2 ys.length c2) ys) (hs3 : Sl .u32 w (.slice a3 zs.length c3) zs)
    (w1 : ∀ i, limb xs i < 4294967296) (w2 : ∀ i, limb ys i < 4294967296) (w3 : ∀ i, limb zs i < 4294967296) (h : ¬ Snd n1 xs) :
    Calls Tryd.prog 9 #[.agg #[.bool n1, .slice a1 xs.length c1], .agg #[.bool n2, .slice a2 ys.length c2], .agg #[.bool n3, .slice a3 zs.length c3]] w (TruePost w) := by
  have X1 := Lib.hid w1; have X2 := Lib.hid w2; have X3 := Lib.hid w3; clear w1 w2 w3
  have HH := Lib.hid h; clear h
  have HT := Lib.hid ht; clear ht
  have hm1 := hs1.1; have hm2 := hs2.1; have hm3 := hs3.1
  unfold maxLen at hm1 hm2 hm3
  have hE : Env [(w.heap.size + 1 + 1, n3, .slice a3 zs.length c3, zs), (w.heap.size + 1, n2, .slice a2 ys.length c2, ys), (w.heap.size, n1, .slice a1 xs.length c1, xs)] (((w.alloc (.cells #[.bool n1, .slice a1 xs.length c1] 24)).alloc (.cells #[.bool n2, .slice a2 ys.length c2] 24)).alloc (.cells #[.bool n3, .slice a3 zs.length c3] 24)) := by
    have h1 := (Env.nil w).push (n := n1) hs1
    have h2 := h1.push (n := n2) (hs2.below (below1 w _))
    have h3 := h2.push (n := n3) (hs3.below (below2 w _ _))
    simpa only [World.size_alloc] using h3
  have hB := below3 w (.cells #[.bool n1, .slice a1 xs.length c1] 24) (.cells #[.bool n2, .slice a2 ys.length c2] 24) (.cells #[.bool n3, .slice a3 zs.length c3] 24)
  clear hs1 hs2 hs3
  have M1 : Hid ((w.heap.size, n1, Value.slice a1 xs.length c1, xs) ∈ [(w.heap.size + 1 + 1, n3, Value.slice a3 zs.length c3, zs), (w.heap.size + 1, n2, Value.slice a2 ys.length c2, ys), (w.heap.size, n1, Value.slice a1 xs.length c1, xs)]) := Lib.hid (by simp)
  have M2 : Hid ((w.heap.size + 1, n2, Value.slice a2 ys.length c2, ys) ∈ [(w.heap.size + 1 + 1, n3, Value.slice a3 zs.length c3, zs), (w.heap.size + 1, n2, Value.slice a2 ys.length c2, ys), (w.heap.size, n1, Value.slice a1 xs.length c1, xs)]) := Lib.hid (by simp)
  have M3 : Hid ((w.heap.size + 1 + 1, n3, Value.slice a3 zs.length c3, zs) ∈ [(w.heap.size + 1 + 1, n3, Value.slice a3 zs.length c3, zs), (w.heap.size + 1, n2, Value.slice a2 ys.length c2, ys), (w.heap.size, n1, Value.slice a1 xs.length c1, xs)]) := Lib.hid (by simp)
  go_enter Tryd.func9, Tryd.ntmps9
  go_wp2_with fail
  refine (answers_any _ (HT.out.below hB)).mono ?_
  rintro e V1 ⟨rfl, hb⟩
  replace hB := hB.trans (hb.mono hB.size)
  replace hE := hE.step hb
  clear hb
  obtain ⟨p0, p1⟩ := hE.cells M1.out
  go_wp2_with fail
  refine (rsound_any n1 _ xs _ (hE.sl M1.out) X1.out).mono ?_
  rintro e U1 ⟨rfl, hb⟩
  rw [sndB_false HH.out]
  replace hB := hB.trans (hb.mono hB.size)
  replace hE := hE.step hb
  clear hb p0 p1
  go_wp2_with fail
  refine (answers_any _ (HT.out.below hB)).mono ?_
  rintro e V9 ⟨rfl, hb⟩
  replace hB := hB.trans (hb.mono hB.size)
  go_wp2
  go_ret
  exact ⟨rfl, hB⟩

set_option maxRecDepth 100000 in
set_option maxHeartbeats 4000000 in
theorem ring_out2 (n1 n2 n3 : Bool) (a1 a2 a3 : Option Addr) (c1 c2 c3 : Nat) (xs ys zs : List Nat) (w : World) (ht : Pow10 w)
    (hs1 : Sl .u32 w (.slice a1 xs.length c1) xs) (hs2 : Sl .u32 w (.slice a2 ys.length c2) ys) (hs3 : Sl .u32 w (.slice a3 zs.length c3) zs)
    (w1 : ∀ i, limb xs i < 4294967296) (w2 : ∀ i, limb ys i < 4294967296) (w3 : ∀ i, limb zs i < 4294967296) (k1 : Snd n1 xs) (h : ¬ Snd n2 ys) :
    Calls Tryd.prog 9 #[.agg #[.bool n1, .slice a1 xs.length c1], .agg #[.bool n2, .slice a2 ys.length c2], .agg #[.bool n3, .slice a3 zs.length c3]] w (TruePost w) := by
  have K1 := Lib.hid k1; clear k1
  have X1 := Lib.hid w1; have X2 := Lib.hid w2; have X3 := Lib.hid w3; clear w1 w2 w3
  have HH := Lib.hid h; clear h
  have HT := Lib.hid ht; clear ht
  have hm1 := hs1.1; have hm2 := hs2.1; have hm3 := hs3.1
  unfold maxLen at hm1 hm2 hm3
  have hE : Env [(w.heap.size + 1 + 1, n3, .slice a3 zs.length c3, zs), (w.heap.size + 1, n2, .slice a2 ys.length c2, ys), (w.heap.size, n1, .slice a1 xs.length c1, xs)] (((w.alloc (.cells #[.bool n1, .slice a1 xs.length c1] 24)).alloc (.cells #[.bool n2, .slice a2 ys.length c2] 24)).alloc (.cells #[.bool n3, .slice a3 zs.length c3] 24)) := by
    have h1 := (Env.nil w).push (n := n1) hs1
    have h2 := h1.push (n := n2) (hs2.below (below1 w _))
    have h3 := h2.push (n := n3) (hs3.below (below2 w _ _))
    simpa only [World.size_alloc] using h3
  have hB := below3 w (.cells #[.bool n1, .slice a1 xs.length c1] 24) (.cells #[.bool n2, .slice a2 ys.length c2] 24) (.cells #[.bool n3, .slice a3 zs.length c3] 24)
  clear hs1 hs2 hs3
  have M1 : Hid ((w.heap.size, n1, Value.slice a1 xs.length c1, xs) ∈ [(w.heap.size + 1 + 1, n3, Value.slice a3 zs.length c3, zs), (w.heap.size + 1, n2, Value.slice a2 ys.length c2, ys), (w.heap.size, n1, Value.slice a1 xs.length c1, xs)]) := Lib.hid (by simp)
  have M2 : Hid ((w.heap.size + 1, n2, Value.slice a2 ys.length c2, ys) ∈ [(w.heap.size + 1 + 1, n3, Value.slice a3 zs.length c3, zs), (w.heap.size + 1, n2, Value.slice a2 ys.length c2, ys), (w.heap.size, n1, Value.slice a1 xs.length c1, xs)]) := Lib.hid (by simp)
  have M3 : Hid ((w.heap.size + 1 + 1, n3, Value.slice a3 zs.length c3, zs) ∈ [(w.heap.size + 1 + 1, n3, Value.slice a3 zs.length c3, zs), (w.heap.size + 1, n2, Value.slice a2 ys.length c2, ys), (w.heap.size, n1, Value.slice a1 xs.length c1, xs)]) := Lib.hid (by simp)
  go_enter Tryd.func9, Tryd.ntmps9
  go_wp2_with fail
  refine (answers_any _ (HT.out.below hB)).mono ?_
  rintro e V1 ⟨rfl, hb⟩
  replace hB := hB.trans (hb.mono hB.size)
  replace hE := hE.step hb
  clear hb
  obtain ⟨p0, p1⟩ := hE.cells M1.out
  go_wp2_with fail
  refine (rsound_any n1 _ xs _ (hE.sl M1.out) X1.out).mono ?_
  rintro e U1 ⟨rfl, hb⟩
  rw [sndB_true K1.out]
  replace hB := hB.trans (hb.mono hB.size)
  replace hE := hE.step hb
  clear hb p0 p1
  obtain ⟨p0, p1⟩ := hE.cells M2.out
  go_wp2_with fail
  refine (rsound_any n2 _ ys _ (hE.sl M2.out) X2.out).mono ?_
  rintro e U2 ⟨rfl, hb⟩
  rw [sndB_false HH.out]
  replace hB := hB.trans (hb.mono hB.size)
  replace hE := hE.step hb
  clear hb p0 p1
  go_wp2_with fail
  refine (answers_any _ (HT.out.below hB)).mono ?_
  rintro e V9 ⟨rfl, hb⟩
  replace hB := hB.trans (hb.mono hB.size)
  go_wp2
  go_ret
  exact ⟨rfl, hB⟩

set_option maxRecDepth 100000 in
set_option maxHeartbeats 4000000 in
theorem ring_out3 (n1 n2 n3 : Bool) (a1 a2 a3 : Option Addr) (c1 c2 c3 : Nat) (xs ys zs : List Nat) (w : World) (ht : Pow10 w)
    (hs1 : Sl .u32 w (.slice a1 xs.length c1) xs) (hs2 : Sl .u32 w (.slice a2 ys.length c2) ys) (hs3 : Sl .u32 w (.slice a3 zs.length c3) zs)
    (w1 : ∀ i, limb xs i < 4294967296) (w2 : ∀ i, limb ys i < 4294967296) (w3 : ∀ i, limb zs i < 4294967296) (k1 : Snd n1 xs) (k2 : Snd n2 ys) (h : ¬ Snd n3 zs) :
    Calls Tryd.prog 9 #[.agg #[.bool n1, .slice a1 xs.length c1], .agg #[.bool n2, .slice a2 ys.length c2], .agg #[.bool n3, .slice a3 zs.length c3]] w (TruePost w) := by
  have K1 := Lib.hid k1; clear k1
  have K2 := Lib.hid k2; clear k2
  have X1 := Lib.hid w1; have X2 := Lib.hid w2; have X3 := Lib.hid w3; clear w1 w2 w3
  have HH := Lib.hid h; clear h
  have HT := Lib.hid ht; clear ht
  have hm1 := hs1.1; have hm2 := hs2.1; have hm3 := hs3.1
  unfold maxLen at hm1 hm2 hm3
  have hE : Env [(w.heap.size + 1 + 1, n3, .slice a3 zs.length c3, zs), (w.heap.size + 1, n2, .slice a2 ys.length c2, ys), (w.heap.size, n1, .slice a1 xs.length c1, xs)] (((w.alloc (.cells #[.bool n1, .slice a1 xs.length c1] 24)).alloc (.cells #[.bool n2, .slice a2 ys.length c2] 24)).alloc (.cells #[.bool n3, .slice a3 zs.length c3] 24)) := by
    have h1 := (Env.nil w).push (n := n1) hs1
    have h2 := h1.push (n := n2) (hs2.below (below1 w _))
    have h3 := h2.push (n := n3) (hs3.below (below2 w _ _))
    simpa only [World.size_alloc] using h3
  have hB := below3 w (.cells #[.bool n1, .slice a1 xs.length c1] 24) (.cells #[.bool n2, .slice a2 ys.length c2] 24) (.cells #[.bool n3, .slice a3 zs.length c3] 24)
  clear hs1 hs2 hs3
  have M1 : Hid ((w.heap.size, n1, Value.slice a1 xs.length c1, xs) ∈ [(w.heap.size + 1 + 1, n3, Value.slice a3 zs.length c3, zs), (w.heap.size + 1, n2, Value.slice a2 ys.length c2, ys), (w.heap.size, n1, Value.slice a1 xs.length c1, xs)]) := Lib.hid (by simp)
  have M2 : Hid ((w.heap.size + 1, n2, Value.slice a2 ys.length c2, ys) ∈ [(w.heap.size + 1 + 1, n3, Value.slice a3 zs.length c3, zs), (w.heap.size + 1, n2, Value.slice a2 ys.length c2, ys), (w.heap.size, n1, Value.slice a1 xs.length c1, xs)]) := Lib.hid (by simp)
  have M3 : Hid ((w.heap.size + 1 + 1, n3, Value.slice a3 zs.length c3, zs) ∈ [(w.heap.size + 1 + 1, n3, Value.slice a3 zs.length c3, zs), (w.heap.size + 1, n2, Value.slice a2 ys.length c2, ys), (w.heap.size, n1, Value.slice a1 xs.length c1, xs)]) := Lib.hid (by simp)
  go_enter Tryd.func9, Tryd.ntmps9
  go_wp2_with fail
  refine (answers_any _ (HT.out.below hB)).mono ?_
  rintro e V1 ⟨rfl, hb⟩
  replace hB := hB.trans (hb.mono hB.size)
  replace hE := hE.step hb
  clear hb
  obtain ⟨p0, p1⟩ := hE.cells M1.out
  go_wp2_with fail
  refine (rsound_any n1 _ xs _ (hE.sl M1.out) X1.out).mono ?_
  rintro e U1 ⟨rfl, hb⟩
  rw [sndB_true K1.out]
  replace hB := hB.trans (hb.mono hB.size)
  replace hE := hE.step hb
  clear hb p0 p1
  obtain ⟨p0, p1⟩ := hE.cells M2.out
  go_wp2_with fail
  refine (rsound_any n2 _ ys _ (hE.sl M2.out) X2.out).mono ?_
  rintro e U2 ⟨rfl, hb⟩
  rw [sndB_true K2.out]
  replace hB := hB.trans (hb.mono hB.size)
  replace hE := hE.step hb
  clear hb p0 p1
  obtain ⟨p0, p1⟩ := hE.cells M3.out
  go_wp2_with fail
  refine (rsound_any n3 _ zs _ (hE.sl M3.out) X3.out).mono ?_
  rintro e U3 ⟨rfl, hb⟩
  rw [sndB_false HH.out]
  replace hB := hB.trans (hb.mono hB.size)
  replace hE := hE.step hb
  clear hb p0 p1
  go_wp2_with fail
  refine (answers_any _ (HT.out.below hB)).mono ?_
  rintro e V9 ⟨rfl, hb⟩
  replace hB := hB.trans (hb.mono hB.size)
  go_wp2
  go_ret
  exact ⟨rfl, hB⟩

set_option maxRecDepth 100000 in
set_option maxHeartbeats 4000000 in
theorem ring_out4 (n1 n2 n3 : Bool) (a1 a2 a3 : Option Addr) (c1 c2 c3 : Nat) (xs ys zs : List Nat) (w : World) (ht : Pow10 w)
    (hs1 : Sl .u32 w (.slice a1 xs.length c1) xs) (hs2 : Sl .u32 w (.slice a2 ys.length c2) ys) (hs3 : Sl .u32 w (.slice a3 zs.length c3) zs)
    (w1 : ∀ i, limb xs i < 4294967296) (w2 : ∀ i, limb ys i < 4294967296) (w3 : ∀ i, limb zs i < 4294967296) (k1 : Snd n1 xs) (k2 : Snd n2 ys) (k3 : Snd n3 zs) (h : 60 < xs.length + ys.length) :
    Calls Tryd.prog 9 #[.agg #[.bool n1, .slice a1 xs.length c1], .agg #[.bool n2, .slice a2 ys.length c2], .agg #[.bool n3, .slice a3 zs.length c3]] w (TruePost w) := by
  have K1 := Lib.hid k1; clear k1
  have K2 := Lib.hid k2; clear k2
  have K3 := Lib.hid k3; clear k3
  have X1 := Lib.hid w1; have X2 := Lib.hid w2; have X3 := Lib.hid w3; clear w1 w2 w3
  have HT := Lib.hid ht; clear ht
  have hm1 := hs1.1; have hm2 := hs2.1; have hm3 := hs3.1
  unfold maxLen at hm1 hm2 hm3
  have hE : Env [(w.heap.size + 1 + 1, n3, .slice a3 zs.length c3, zs), (w.heap.size + 1, n2, .slice a2 ys.length c2, ys), (w.heap.size, n1, .slice a1 xs.length c1, xs)] (((w.alloc (.cells #[.bool n1, .slice a1 xs.length c1] 24)).alloc (.cells #[.bool n2, .slice a2 ys.length c2] 24)).alloc (.cells #[.bool n3, .slice a3 zs.length c3] 24)) := by
    have h1 := (Env.nil w).push (n := n1) hs1
    have h2 := h1.push (n := n2) (hs2.below (below1 w _))
    have h3 := h2.push (n := n3) (hs3.below (below2 w _ _))
    simpa only [World.size_alloc] using h3
  have hB := below3 w (.cells #[.bool n1, .slice a1 xs.length c1] 24) (.cells #[.bool n2, .slice a2 ys.length c2] 24) (.cells #[.bool n3, .slice a3 zs.length c3] 24)
  clear hs1 hs2 hs3
  have M1 : Hid ((w.heap.size, n1, Value.slice a1 xs.length c1, xs) ∈ [(w.heap.size + 1 + 1, n3, Value.slice a3 zs.length c3, zs), (w.heap.size + 1, n2, Value.slice a2 ys.length c2, ys), (w.heap.size, n1, Value.slice a1 xs.length c1, xs)]) := Lib.hid (by simp)
  have M2 : Hid ((w.heap.size + 1, n2, Value.slice a2 ys.length c2, ys) ∈ [(w.heap.size + 1 + 1, n3, Value.slice a3 zs.length c3, zs), (w.heap.size + 1, n2, Value.slice a2 ys.length c2, ys), (w.heap.size, n1, Value.slice a1 xs.length c1, xs)]) := Lib.hid (by simp)
  have M3 : Hid ((w.heap.size + 1 + 1, n3, Value.slice a3 zs.length c3, zs) ∈ [(w.heap.size + 1 + 1, n3, Value.slice a3 zs.length c3, zs), (w.heap.size + 1, n2, Value.slice a2 ys.length c2, ys), (w.heap.size, n1, Value.slice a1 xs.length c1, xs)]) := Lib.hid (by simp)
  go_enter Tryd.func9, Tryd.ntmps9
  go_wp2_with fail
  refine (answers_any _ (HT.out.below hB)).mono ?_
  rintro e V1 ⟨rfl, hb⟩
  replace hB := hB.trans (hb.mono hB.size)
  replace hE := hE.step hb
  clear hb
  obtain ⟨p0, p1⟩ := hE.cells M1.out
  go_wp2_with fail
  refine (rsound_any n1 _ xs _ (hE.sl M1.out) X1.out).mono ?_
  rintro e U1 ⟨rfl, hb⟩
  rw [sndB_true K1.out]
  replace hB := hB.trans (hb.mono hB.size)
  replace hE := hE.step hb
  clear hb p0 p1
  obtain ⟨p0, p1⟩ := hE.cells M2.out
  go_wp2_with fail
  refine (rsound_any n2 _ ys _ (hE.sl M2.out) X2.out).mono ?_
  rintro e U2 ⟨rfl, hb⟩
  rw [sndB_true K2.out]
  replace hB := hB.trans (hb.mono hB.size)
  replace hE := hE.step hb
  clear hb p0 p1
  obtain ⟨p0, p1⟩ := hE.cells M3.out
  go_wp2_with fail
  refine (rsound_any n3 _ zs _ (hE.sl M3.out) X3.out).mono ?_
  rintro e U3 ⟨rfl, hb⟩
  rw [sndB_true K3.out]
  replace hB := hB.trans (hb.mono hB.size)
  replace hE := hE.step hb
  clear hb p0 p1
  obtain ⟨p0, p1⟩ := hE.cells M1.out
  obtain ⟨q0, q1⟩ := hE.cells M2.out
  obtain ⟨r0, r1⟩ := hE.cells M3.out
  have l1 := K1.out.1
  have l2 := K2.out.1
  have l3 := K3.out.1
  have d1 : decide ((60 : Int) < (xs.length : Int) + (ys.length : Int)) = true := by rw [decide_eq_true_iff]; omega
  go_wp2_with fail
  refine (answers_any _ (HT.out.below hB)).mono ?_
  rintro e V9 ⟨rfl, hb⟩
  replace hB := hB.trans (hb.mono hB.size)
  go_wp2
  go_ret
  exact ⟨rfl, hB⟩

set_option maxRecDepth 100000 in
set_option maxHeartbeats 4000000 in
theorem ring_out5 (n1 n2 n3 : Bool) (a1 a2 a3 : Option Addr) (c1 c2 c3 : Nat) (xs ys zs : List Nat) (w : World) (ht : Pow10 w)
    (hs1 : Sl .u32 w (.slice a1 xs.length c1) xs) (hs2 : Sl .u32 w (.slice a2 ys.length c2) ys) (hs3 : Sl .u32 w (.slice a3 zs.length c3) zs)
    (w1 : ∀ i, limb xs i < 4294967296) (w2 : ∀ i, limb ys i < 4294967296) (w3 : ∀ i, limb zs i < 4294967296) (k1 : Snd n1 xs) (k2 : Snd n2 ys) (k3 : Snd n3 zs) (h0 : xs.length + ys.length ≤ 60) (h : 60 < xs.length + zs.length) :
    Calls Tryd.prog 9 #[.agg #[.bool n1, .slice a1 xs.length c1], .agg #[.bool n2, .slice a2 ys.length c2], .agg #[.bool n3, .slice a3 zs.length c3]] w (TruePost w) := by
  have K1 := Lib.hid k1; clear k1
  have K2 := Lib.hid k2; clear k2
  have K3 := Lib.hid k3; clear k3
  have X1 := Lib.hid w1; have X2 := Lib.hid w2; have X3 := Lib.hid w3; clear w1 w2 w3
  have HT := Lib.hid ht; clear ht
  have hm1 := hs1.1; have hm2 := hs2.1; have hm3 := hs3.1
  unfold maxLen at hm1 hm2 hm3
  have hE : Env [(w.heap.size + 1 + 1, n3, .slice a3 zs.length c3, zs), (w.heap.size + 1, n2, .slice a2 ys.length c2, ys), (w.heap.size, n1, .slice a1 xs.length c1, xs)] (((w.alloc (.cells #[.bool n1, .slice a1 xs.length c1] 24)).alloc (.cells #[.bool n2, .slice a2 ys.length c2] 24)).alloc (.cells #[.bool n3, .slice a3 zs.length c3] 24)) := by
    have h1 := (Env.nil w).push (n := n1) hs1
    have h2 := h1.push (n := n2) (hs2.below (below1 w _))
    have h3 := h2.push (n := n3) (hs3.below (below2 w _ _))
    simpa only [World.size_alloc] using h3
  have hB := below3 w (.cells #[.bool n1, .slice a1 xs.length c1] 24) (.cells #[.bool n2, .slice a2 ys.length c2] 24) (.cells #[.bool n3, .slice a3 zs.length c3] 24)
  clear hs1 hs2 hs3
  have M1 : Hid ((w.heap.size, n1, Value.slice a1 xs.length c1, xs) ∈ [(w.heap.size + 1 + 1, n3, Value.slice a3 zs.length c3, zs), (w.heap.size + 1, n2, Value.slice a2 ys.length c2, ys), (w.heap.size, n1, Value.slice a1 xs.length c1, xs)]) := Lib.hid (by simp)
  have M2 : Hid ((w.heap.size + 1, n2, Value.slice a2 ys.length c2, ys) ∈ [(w.heap.size + 1 + 1, n3, Value.slice a3 zs.length c3, zs), (w.heap.size + 1, n2, Value.slice a2 ys.length c2, ys), (w.heap.size, n1, Value.slice a1 xs.length c1, xs)]) := Lib.hid (by simp)
  have M3 : Hid ((w.heap.size + 1 + 1, n3, Value.slice a3 zs.length c3, zs) ∈ [(w.heap.size + 1 + 1, n3, Value.slice a3 zs.length c3, zs), (w.heap.size + 1, n2, Value.slice a2 ys.length c2, ys), (w.heap.size, n1, Value.slice a1 xs.length c1, xs)]) := Lib.hid (by simp)
  go_enter Tryd.func9, Tryd.ntmps9
  go_wp2_with fail
  refine (answers_any _ (HT.out.below hB)).mono ?_
  rintro e V1 ⟨rfl, hb⟩
  replace hB := hB.trans (hb.mono hB.size)
  replace hE := hE.step hb
  clear hb
  obtain ⟨p0, p1⟩ := hE.cells M1.out
  go_wp2_with fail
  refine (rsound_any n1 _ xs _ (hE.sl M1.out) X1.out).mono ?_
  rintro e U1 ⟨rfl, hb⟩
  rw [sndB_true K1.out]
  replace hB := hB.trans (hb.mono hB.size)
  replace hE := hE.step hb
  clear hb p0 p1
  obtain ⟨p0, p1⟩ := hE.cells M2.out
  go_wp2_with fail
  refine (rsound_any n2 _ ys _ (hE.sl M2.out) X2.out).mono ?_
  rintro e U2 ⟨rfl, hb⟩
  rw [sndB_true K2.out]
  replace hB := hB.trans (hb.mono hB.size)
  replace hE := hE.step hb
  clear hb p0 p1
  obtain ⟨p0, p1⟩ := hE.cells M3.out
  go_wp2_with fail
  refine (rsound_any n3 _ zs _ (hE.sl M3.out) X3.out).mono ?_
  rintro e U3 ⟨rfl, hb⟩
  rw [sndB_true K3.out]
  replace hB := hB.trans (hb.mono hB.size)
  replace hE := hE.step hb
  clear hb p0 p1
  obtain ⟨p0, p1⟩ := hE.cells M1.out
  obtain ⟨q0, q1⟩ := hE.cells M2.out
  obtain ⟨r0, r1⟩ := hE.cells M3.out
  have l1 := K1.out.1
  have l2 := K2.out.1
  have l3 := K3.out.1
  have d1 : decide ((60 : Int) < (xs.length : Int) + (ys.length : Int)) = false := by rw [decide_eq_false_iff_not]; omega
  have d2 : decide ((60 : Int) < (xs.length : Int) + (zs.length : Int)) = true := by rw [decide_eq_true_iff]; omega
  go_wp2_with fail
  refine (answers_any _ (HT.out.below hB)).mono ?_
  rintro e V9 ⟨rfl, hb⟩
  replace hB := hB.trans (hb.mono hB.size)
  go_wp2
  go_ret
  exact ⟨rfl, hB⟩

theorem ring_any (n1 n2 n3 : Bool) (a1 a2 a3 : Option Addr) (c1 c2 c3 : Nat) (xs ys zs : List Nat) (w : World) (ht : Pow10 w)
    (hs1 : Sl .u32 w (.slice a1 xs.length c1) xs) (hs2 : Sl .u32 w (.slice a2 ys.length c2) ys) (hs3 : Sl .u32 w (.slice a3 zs.length c3) zs)
    (w1 : ∀ i, limb xs i < 4294967296) (w2 : ∀ i, limb ys i < 4294967296) (w3 : ∀ i, limb zs i < 4294967296) :
    Calls Tryd.prog 9 #[.agg #[.bool n1, .slice a1 xs.length c1], .agg #[.bool n2, .slice a2 ys.length c2], .agg #[.bool n3, .slice a3 zs.length c3]] w (TruePost w) := by
  by_cases k1 : Snd n1 xs
  · by_cases k2 : Snd n2 ys
    · by_cases k3 : Snd n3 zs
      · by_cases h0 : xs.length + ys.length ≤ 60
        · by_cases h1 : xs.length + zs.length ≤ 60
          · exact ring_in n1 n2 n3 a1 a2 a3 c1 c2 c3 xs ys zs w ht hs1 hs2 hs3 ⟨k1, k2, k3, h0, h1, by omega, by omega⟩
          · exact ring_out5 n1 n2 n3 a1 a2 a3 c1 c2 c3 xs ys zs w ht hs1 hs2 hs3 w1 w2 w3 k1 k2 k3 h0 (by omega)
        · exact ring_out4 n1 n2 n3 a1 a2 a3 c1 c2 c3 xs ys zs w ht hs1 hs2 hs3 w1 w2 w3 k1 k2 k3 (by omega)
      · exact ring_out3 n1 n2 n3 a1 a2 a3 c1 c2 c3 xs ys zs w ht hs1 hs2 hs3 w1 w2 w3 k1 k2 k3
    · exact ring_out2 n1 n2 n3 a1 a2 a3 c1 c2 c3 xs ys zs w ht hs1 hs2 hs3 w1 w2 w3 k1 k2
  · exact ring_out1 n1 n2 n3 a1 a2 a3 c1 c2 c3 xs ys zs w ht hs1 hs2 hs3 w1 w2 w3 k1
end Go.Proofs.YtpbpimklgfggpaaDoor
