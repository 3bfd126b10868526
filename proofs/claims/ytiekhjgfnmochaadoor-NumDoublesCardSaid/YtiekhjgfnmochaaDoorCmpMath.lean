/- What Cmp answers; two boxes. No walk here. | num.Cmp | ref.Cmp -/
import Derived.Test.YtiekhjgfnmochaaDoorAnyRes
import Derived.Test.YtiekhjgfnmochaaDoorRSound
import Derived.Deep.RegionHeld3
import Derived.Deep.QuietTactic
import Derived.BigQuiet
namespace Go.Proofs.YtiekhjgfnmochaaDoor
open Go.RowKit

/-- -1, 0, 1. -/
def cmpZ (a b : Int) : Int := if a < b then -1 else if b < a then 1 else 0
def CmpPost (G : Prop) (a b : Int) (w : World) (e : Ending) (w' : World) : Prop :=
  ∃ c, e = .returned (.int .i64 c) ∧ Below w.heap.size w w' ∧ ((G ∧ c = cmpZ a b) ∨ (¬ G ∧ c = 0))
theorem cmp_unique {G : Prop} {a b c d : Int} (h1 : (G ∧ c = cmpZ a b) ∨ (¬ G ∧ c = 0)) (h2 : (G ∧ d = cmpZ a b) ∨ (¬ G ∧ d = 0)) : c = d := by
  rcases h1 with ⟨g, rfl⟩ | ⟨g, rfl⟩
  · rcases h2 with ⟨_, rfl⟩ | ⟨g2, _⟩
    · rfl
    · exact absurd g g2
  · rcases h2 with ⟨g2, _⟩ | ⟨_, rfl⟩
    · exact absurd g2 g
    · rfl
theorem cmpN_pos (a b : Nat) : cmpN a b = cmpZ (a : Int) (b : Int) := by
  unfold cmpN cmpZ
  (repeat' split) <;> omega
theorem cmpN_neg (a b : Nat) : cmpN a b = cmpZ (-(b : Int)) (-(a : Int)) := by
  unfold cmpN cmpZ
  (repeat' split) <;> omega
theorem cmpN_flip (a b : Nat) : -cmpN a b = cmpN b a := by
  unfold cmpN
  (repeat' split) <;> omega
theorem cmpN_range (a b : Nat) : -1 ≤ cmpN a b ∧ cmpN a b ≤ 1 := by
  unfold cmpN
  split
  · omega
  · split <;> omega
theorem snd_neg {rs : List Nat} (h : Snd true rs) : ival true rs < 0 := by
  have hne : rs ≠ [] := fun e => by have := h.2.2.1 e; cases this
  have := val_pos hne (h.2.2.2 hne)
  have h2 : 0 < 1000000000 ^ (rs.length - 1) := Nat.pow_pos (by omega)
  unfold ival
  simp
  omega
theorem cmpZ_lt {a b : Int} (h : a < b) : cmpZ a b = -1 := by unfold cmpZ; rw [if_pos h]
theorem cmpZ_gt {a b : Int} (h : b < a) : cmpZ a b = 1 := by unfold cmpZ; rw [if_neg (by omega), if_pos h]

/-- Two arguments lie in boxes of their own. -/
structure Box2 (w w2 : World) (n1 : Bool) (s1 : Value) (n2 : Bool) (s2 : Value) : Prop where
  a : w2.heap[w.heap.size]? = some (.cells #[.bool n1, s1] 24 (0, 0))
  b : w2.heap[w.heap.size + 1]? = some (.cells #[.bool n2, s2] 24 (0, 0))
  lt : w.heap.size + 1 < w2.heap.size
  bel : Below w.heap.size w w2
theorem Box2.start (w : World) (n1 : Bool) (s1 : Value) (n2 : Bool) (s2 : Value) : Box2 w ((w.alloc (.cells #[.bool n1, s1] 24)).alloc (.cells #[.bool n2, s2] 24)) n1 s1 n2 s2 := by
  refine ⟨?_, ?_, by simp, below2 w _ _⟩
  · rw [Below.heap_alloc _ _ _ (by simp)]
    exact heap_alloc_new w _
  · have := heap_alloc_new (w.alloc (.cells #[.bool n1, s1] 24)) (.cells #[.bool n2, s2] 24)
    simpa using this
theorem Box2.step {w w1 w2 : World} {n1 : Bool} {s1 : Value} {n2 : Bool} {s2 : Value} (h : Box2 w w1 n1 s1 n2 s2) (hb : Below w1.heap.size w1 w2) : Box2 w w2 n1 s1 n2 s2 :=
  ⟨by rw [hb.block _ (by have := h.lt; omega)]; exact h.a, by rw [hb.block _ h.lt]; exact h.b, Nat.lt_of_lt_of_le h.lt hb.size, h.bel.trans (hb.mono (by have := h.lt; omega))⟩
theorem Box2.drewN {w w1 : World} {n1 : Bool} {s1 : Value} {n2 : Bool} {s2 : Value} (h : Box2 w w1 n1 s1 n2 s2) (q : Nat) : Box2 w (w1.drewN q) n1 s1 n2 s2 := ⟨h.a, h.b, h.lt, below_drewN h.bel q⟩
theorem Box2.drew {w w1 : World} {n1 : Bool} {s1 : Value} {n2 : Bool} {s2 : Value} (h : Box2 w w1 n1 s1 n2 s2) : Box2 w w1.drew n1 s1 n2 s2 := ⟨h.a, h.b, h.lt, h.bel.drew⟩
theorem Box2.facts {w w2 : World} {n1 : Bool} {s1 : Value} {n2 : Bool} {s2 : Value} (h : Box2 w w2 n1 s1 n2 s2) :
    w2.cell? ⟨w.heap.size, 0, none⟩ = some (.bool n1) ∧ w2.cell? ⟨w.heap.size, 1, none⟩ = some s1 ∧ w2.cell? ⟨w.heap.size + 1, 0, none⟩ = some (.bool n2) ∧ w2.cell? ⟨w.heap.size + 1, 1, none⟩ = some s2 :=
  ⟨cell_heap h.a 0, cell_heap h.a 1, cell_heap h.b 0, cell_heap h.b 1⟩
end Go.Proofs.YtiekhjgfnmochaaDoor
namespace Go.Proofs.YtiekhjgfnmochaaDoor
open Go.RowKit

set_option maxRecDepth 100000 in
set_option maxHeartbeats 4000000 in
theorem cmp_all (n1 n2 : Bool) (s1 s2 : Value) (xs ys : List Nat) (w : World) (hs1 : Sl .u32 w s1 xs) (hs2 : Sl .u32 w s2 ys) (hx : ∀ i, limb xs i < 4294967296) (hy : ∀ i, limb ys i < 4294967296) :
    Calls Tryd.prog 30 #[.agg #[.bool n1, s1], .agg #[.bool n2, s2]] w (CmpPost (Snd n1 xs ∧ Snd n2 ys) (ival n1 xs) (ival n2 ys) w) := by
  have HS1 := Lib.hid hs1
  have HS2 := Lib.hid hs2
  obtain ⟨q1, ao1, cap1, rfl, hcap1, q2⟩ := hs1
  obtain ⟨q3, ao2, cap2, rfl, hcap2, q4⟩ := hs2
  clear q1 q2 q3 q4
  have HX := Lib.hid hx; clear hx
  have HY := Lib.hid hy; clear hy
  have hb1 := Box2.start w n1 (.slice ao1 xs.length cap1) n2 (.slice ao2 ys.length cap2)
  by_cases g1 : Snd n1 xs
  · by_cases g2 : Snd n2 ys
    · have G1 := Lib.hid g1; clear g1
      have G2 := Lib.hid g2; clear g2
      have hl1 : xs.length < 1000000 := by have := G1.out.1; omega
      have hl2 : ys.length < 1000000 := by have := G2.out.1; omega
      go_enter Tryd.func30, Tryd.ntmps30
      go_wp2_with fail
      refine (sound_any n1 _ xs _ (HS1.out.below hb1.bel) HX.out).mono ?_
      rintro e w1 ⟨rfl, hb2⟩
      rw [sndB_true G1.out]
      have hb1 := hb1.step hb2
      clear hb2
      obtain ⟨a0, a1, b0, b1⟩ := hb1.facts
      go_wp2_with fail
      refine (sound_any n2 _ ys _ (HS2.out.below hb1.bel) HY.out).mono ?_
      rintro e w2 ⟨rfl, hb2⟩
      rw [sndB_true G2.out]
      have hb1 := hb1.step hb2
      clear hb2 a0 a1 b0 b1
      obtain ⟨a0, a1, b0, b1⟩ := hb1.facts
      have HB1 := Lib.hid hb1; clear hb1
      cases n1 <;> cases n2
      · go_wp2_with fail
        refine (compare_any _ _ xs ys _ (HS1.out.below HB1.out.bel) (HS2.out.below HB1.out.bel) G1.out.2.1 G2.out.2.1 hl1 hl2).mono ?_
        rintro e w3 ⟨rfl, hb3⟩
        go_wp2_with fail
        go_ret
        exact ⟨_, rfl, HB1.out.bel.trans (hb3.mono HB1.out.bel.size), .inl ⟨⟨G1.out, G2.out⟩, cmpN_pos _ _⟩⟩
      · go_wp2_with fail
        go_ret
        exact ⟨1, rfl, HB1.out.bel, .inl ⟨⟨G1.out, G2.out⟩, (cmpZ_gt (Int.lt_of_lt_of_le (snd_neg G2.out) (by simp [ival]))).symm⟩⟩
      · go_wp2_with fail
        go_ret
        exact ⟨-1, rfl, HB1.out.bel, .inl ⟨⟨G1.out, G2.out⟩, (cmpZ_lt (Int.lt_of_lt_of_le (snd_neg G1.out) (by simp [ival]))).symm⟩⟩
      · go_wp2_with fail
        refine (compare_any _ _ ys xs _ (HS2.out.below HB1.out.bel) (HS1.out.below HB1.out.bel) G2.out.2.1 G1.out.2.1 hl2 hl1).mono ?_
        rintro e w3 ⟨rfl, hb3⟩
        go_wp2_with fail
        go_ret
        exact ⟨_, rfl, HB1.out.bel.trans (hb3.mono HB1.out.bel.size), .inl ⟨⟨G1.out, G2.out⟩, cmpN_neg _ _⟩⟩
    · have G1 := Lib.hid g1; clear g1
      have G2 := Lib.hid g2; clear g2
      go_enter Tryd.func30, Tryd.ntmps30
      go_wp2_with fail
      refine (sound_any n1 _ xs _ (HS1.out.below hb1.bel) HX.out).mono ?_
      rintro e w1 ⟨rfl, hb2⟩
      rw [sndB_true G1.out]
      have hb1 := hb1.step hb2
      clear hb2
      obtain ⟨a0, a1, b0, b1⟩ := hb1.facts
      go_wp2_with fail
      refine (sound_any n2 _ ys _ (HS2.out.below hb1.bel) HY.out).mono ?_
      rintro e w2 ⟨rfl, hb2⟩
      rw [sndB_false G2.out]
      have HB1 := Lib.hid (hb1.step hb2)
      clear hb1 hb2 a0 a1 b0 b1
      go_wp2_with fail
      go_ret
      exact ⟨0, rfl, HB1.out.bel, .inr ⟨fun g => G2.out g.2, rfl⟩⟩
  · have G1 := Lib.hid g1; clear g1
    go_enter Tryd.func30, Tryd.ntmps30
    go_wp2_with fail
    refine (sound_any n1 _ xs _ (HS1.out.below hb1.bel) HX.out).mono ?_
    rintro e w1 ⟨rfl, hb2⟩
    rw [sndB_false G1.out]
    have HB1 := Lib.hid (hb1.step hb2)
    clear hb1 hb2
    go_wp2_with fail
    go_ret
    exact ⟨0, rfl, HB1.out.bel, .inr ⟨fun g => G1.out g.1, rfl⟩⟩
end Go.Proofs.YtiekhjgfnmochaaDoor
namespace Go.Proofs.YtiekhjgfnmochaaDoor
open Go.RowKit

set_option maxRecDepth 100000 in
set_option maxHeartbeats 4000000 in
theorem rcmp_all (n1 n2 : Bool) (s1 s2 : Value) (xs ys : List Nat) (w : World) (hs1 : Sl .u32 w s1 xs) (hs2 : Sl .u32 w s2 ys) (hx : ∀ i, limb xs i < 4294967296) (hy : ∀ i, limb ys i < 4294967296) :
    Calls Tryd.prog 31 #[.agg #[.bool n1, s1], .agg #[.bool n2, s2]] w (CmpPost (Snd n1 xs ∧ Snd n2 ys) (ival n1 xs) (ival n2 ys) w) := by
  have HS1 := Lib.hid hs1
  have HS2 := Lib.hid hs2
  obtain ⟨q1, ao1, cap1, rfl, hcap1, q2⟩ := hs1
  obtain ⟨q3, ao2, cap2, rfl, hcap2, q4⟩ := hs2
  clear q1 q2 q3 q4
  have HX := Lib.hid hx; clear hx
  have HY := Lib.hid hy; clear hy
  have hb1 := Box2.start w n1 (.slice ao1 xs.length cap1) n2 (.slice ao2 ys.length cap2)
  by_cases g1 : Snd n1 xs
  · by_cases g2 : Snd n2 ys
    · have G1 := Lib.hid g1; clear g1
      have G2 := Lib.hid g2; clear g2
      have hl1 : xs.length < 1000000 := by have := G1.out.1; omega
      have hl2 : ys.length < 1000000 := by have := G2.out.1; omega
      go_enter Tryd.func31, Tryd.ntmps31
      go_wp2_with fail
      refine (rsound_any n1 _ xs _ (HS1.out.below hb1.bel) HX.out).mono ?_
      rintro e w1 ⟨rfl, hb2⟩
      rw [sndB_true G1.out]
      have hb1 := hb1.step hb2
      clear hb2
      obtain ⟨a0, a1, b0, b1⟩ := hb1.facts
      go_wp2_with fail
      refine (rsound_any n2 _ ys _ (HS2.out.below hb1.bel) HY.out).mono ?_
      rintro e w2 ⟨rfl, hb2⟩
      rw [sndB_true G2.out]
      have hb1 := hb1.step hb2
      clear hb2 a0 a1 b0 b1
      obtain ⟨a0, a1, b0, b1⟩ := hb1.facts
      have HB1 := Lib.hid hb1; clear hb1
      have L1 := Lib.hid G1.out.2.1
      have L2 := Lib.hid G2.out.2.1
      have K1 := Lib.hid G1.out.1
      have K2 := Lib.hid G2.out.1
      cases n1 <;> cases n2
      · go_wp2_with fail
        have hB := HB1.out.drew
        clear a0 a1 b0 b1
        go_region_held3 (fun W' => W'.cell? ⟨w.heap.size, 0, none⟩ = some (.bool false) ∧ W'.cell? ⟨w.heap.size, 1, none⟩ = some (.slice ao1 xs.length cap1) ∧ W'.cell? ⟨w.heap.size + 1, 0, none⟩ = some (.bool false) ∧ W'.cell? ⟨w.heap.size + 1, 1, none⟩ = some (.slice ao2 ys.length cap2))
          (exact ⟨hB.facts.1, hB.facts.2.1, hB.facts.2.2.1, hB.facts.2.2.2⟩)
          (first
            | (go_at_call 39; (with_reducible refine (digits_any false (.slice ao1 xs.length cap1) xs _ ?_ ?_ ?_).mono ?_); (exact HS1.out.below hB.bel); (exact L1.out); (exact hl1); rintro e W1 ⟨va, das, rfl, hsa, hda, hta, hva, hb⟩; replace hB := hB.step hb; clear hb)
            | (go_at_call 39; (with_reducible refine (digits_any false (.slice ao2 ys.length cap2) ys _ ?_ ?_ ?_).mono ?_); (exact HS2.out.below hB.bel); (exact L2.out); (exact hl2); rintro e W2 ⟨vb, dbs, rfl, hsb, hdb, htb, hvb, hb⟩; replace hB := hB.step hb; replace hsa := hsa.below hb; clear hb)
            | (go_at_call 54; (with_reducible refine (rmore_any va vb das dbs _ hsa hsb hda hdb hta htb).mono ?_); rintro e W3 ⟨rfl, hb⟩; replace hB := hB.step hb; have hR := cmpN_range (dval das) (dval dbs); clear hb))
        (try simp only [hva, hvb])
        simp only [hva, hvb] at hR
        generalize hc : cmpN (val xs) (val ys) = c at *
        obtain ⟨hR1, hR2⟩ := hR
        have hf := hB.facts.1
        have HC := Lib.hid hc; clear hc
        go_wp2_with fail
        go_ret
        exact ⟨c, rfl, hB.bel, .inl ⟨⟨G1.out, G2.out⟩, by rw [← HC.out]; exact cmpN_pos _ _⟩⟩
      · go_wp2_with fail
        go_ret
        exact ⟨1, rfl, HB1.out.bel, .inl ⟨⟨G1.out, G2.out⟩, (cmpZ_gt (Int.lt_of_lt_of_le (snd_neg G2.out) (by simp [ival]))).symm⟩⟩
      · go_wp2_with fail
        go_ret
        exact ⟨-1, rfl, HB1.out.bel, .inl ⟨⟨G1.out, G2.out⟩, (cmpZ_lt (Int.lt_of_lt_of_le (snd_neg G1.out) (by simp [ival]))).symm⟩⟩
      · go_wp2_with fail
        have hB := HB1.out.drew
        clear a0 a1 b0 b1
        go_region_held3 (fun W' => W'.cell? ⟨w.heap.size, 0, none⟩ = some (.bool true) ∧ W'.cell? ⟨w.heap.size, 1, none⟩ = some (.slice ao1 xs.length cap1) ∧ W'.cell? ⟨w.heap.size + 1, 0, none⟩ = some (.bool true) ∧ W'.cell? ⟨w.heap.size + 1, 1, none⟩ = some (.slice ao2 ys.length cap2))
          (exact ⟨hB.facts.1, hB.facts.2.1, hB.facts.2.2.1, hB.facts.2.2.2⟩)
          (first
            | (go_at_call 39; (with_reducible refine (digits_any true (.slice ao1 xs.length cap1) xs _ ?_ ?_ ?_).mono ?_); (exact HS1.out.below hB.bel); (exact L1.out); (exact hl1); rintro e W1 ⟨va, das, rfl, hsa, hda, hta, hva, hb⟩; replace hB := hB.step hb; clear hb)
            | (go_at_call 39; (with_reducible refine (digits_any true (.slice ao2 ys.length cap2) ys _ ?_ ?_ ?_).mono ?_); (exact HS2.out.below hB.bel); (exact L2.out); (exact hl2); rintro e W2 ⟨vb, dbs, rfl, hsb, hdb, htb, hvb, hb⟩; replace hB := hB.step hb; replace hsa := hsa.below hb; clear hb)
            | (go_at_call 54; (with_reducible refine (rmore_any va vb das dbs _ hsa hsb hda hdb hta htb).mono ?_); rintro e W3 ⟨rfl, hb⟩; replace hB := hB.step hb; have hR := cmpN_range (dval das) (dval dbs); clear hb))
        (try simp only [hva, hvb])
        simp only [hva, hvb] at hR
        generalize hc : cmpN (val xs) (val ys) = c at *
        obtain ⟨hR1, hR2⟩ := hR
        have hf := hB.facts.1
        have HC := Lib.hid hc; clear hc
        go_wp2_with fail
        go_ret
        refine ⟨-c, by first | rfl | go_num, hB.bel, .inl ⟨⟨G1.out, G2.out⟩, ?_⟩⟩
        rw [← HC.out, cmpN_flip]
        exact cmpN_neg _ _
    · have G1 := Lib.hid g1; clear g1
      have G2 := Lib.hid g2; clear g2
      go_enter Tryd.func31, Tryd.ntmps31
      go_wp2_with fail
      refine (rsound_any n1 _ xs _ (HS1.out.below hb1.bel) HX.out).mono ?_
      rintro e w1 ⟨rfl, hb2⟩
      rw [sndB_true G1.out]
      have hb1 := hb1.step hb2
      clear hb2
      obtain ⟨a0, a1, b0, b1⟩ := hb1.facts
      go_wp2_with fail
      refine (rsound_any n2 _ ys _ (HS2.out.below hb1.bel) HY.out).mono ?_
      rintro e w2 ⟨rfl, hb2⟩
      rw [sndB_false G2.out]
      have HB1 := Lib.hid (hb1.step hb2)
      clear hb1 hb2 a0 a1 b0 b1
      go_wp2_with fail
      go_ret
      exact ⟨0, rfl, HB1.out.bel, .inr ⟨fun g => G2.out g.2, rfl⟩⟩
  · have G1 := Lib.hid g1; clear g1
    go_enter Tryd.func31, Tryd.ntmps31
    go_wp2_with fail
    refine (rsound_any n1 _ xs _ (HS1.out.below hb1.bel) HX.out).mono ?_
    rintro e w1 ⟨rfl, hb2⟩
    rw [sndB_false G1.out]
    have HB1 := Lib.hid (hb1.step hb2)
    clear hb1 hb2
    go_wp2_with fail
    go_ret
    exact ⟨0, rfl, HB1.out.bel, .inr ⟨fun g => G1.out g.1, rfl⟩⟩
end Go.Proofs.YtiekhjgfnmochaaDoor
