/- ref.Cmp -/
import Derived.Test.YtommakdomnaclaaDoorCmpMath
import Derived.Test.YtommakdomnaclaaDoorRSound
import Derived.Deep.RegionHeld3
import Derived.Deep.QuietTactic
import Derived.BigQuiet
namespace Go.Proofs.YtommakdomnaclaaDoor
open Go.RowKit

set_option maxRecDepth 100000 in
set_option maxHeartbeats 4000000 in
theorem rcmp_all (n1 n2 : Bool) (s1 s2 : Value) (xs ys : List Nat) (w : World) (hs1 : Sl .u32 w s1 xs) (hs2 : Sl .u32 w s2 ys) (hx : ∀ i, limb xs i < 4294967296) (hy : ∀ i, limb ys i < 4294967296) :
    Calls Tryd.prog 31 #[.agg #[.bool n1, s1], .agg #[.bool n2, s2]] w (CmpPost (Snd n1 xs ∧ Snd n2 ys) (ival n1 xs) (ival n2 ys) w) := by
  have HS1 := Lib.hid hs1
  have HS2 := Lib.hid hs2
  obtain ⟨q1, ao1, cap1, rfl, hcap1, q2⟩ := hs1
  obtain ⟨q3, ao2, cap2, rfl, hcap2, q4⟩ := hs2
  clear q1 q2 q3 q4
  have HX := Lib.hid hx; clear hx
  have HY := Lib.hid hy; clear hy
  have hb1 := Box2.start w n1 (.slice ao1 xs.length cap1) n2 (.slice ao2 ys.length cap2)
  by_cases g1 : Snd n1 xs
  · by_cases g2 : Snd n2 ys
    · have G1 := Lib.hid g1; clear g1
      have G2 := Lib.hid g2; clear g2
      have hl1 : xs.length < 1000000 := by have := G1.out.1; omega
      have hl2 : ys.length < 1000000 := by have := G2.out.1; omega
      go_enter Tryd.func31, Tryd.ntmps31
      go_wp2_with fail
      refine (rsound_any n1 _ xs _ (HS1.out.below hb1.bel) HX.out).mono ?_
      rintro e w1 ⟨rfl, hb2⟩
      rw [sndB_true G1.out]
      have hb1 := hb1.step hb2
      clear hb2
      obtain ⟨a0, a1, b0, b1⟩ := hb1.facts
      go_wp2_with fail
      refine (rsound_any n2 _ ys _ (HS2.out.below hb1.bel) HY.out).mono ?_
      rintro e w2 ⟨rfl, hb2⟩
      rw [sndB_true G2.out]
      have hb1 := hb1.step hb2
      clear hb2 a0 a1 b0 b1
      obtain ⟨a0, a1, b0, b1⟩ := hb1.facts
      have HB1 := Lib.hid hb1; clear hb1
      have L1 := Lib.hid G1.out.2.1
      have L2 := Lib.hid G2.out.2.1
      have K1 := Lib.hid G1.out.1
      have K2 := Lib.hid G2.out.1
      cases n1 <;> cases n2
      · go_wp2_with fail
        have hB := HB1.out.drew
        clear a0 a1 b0 b1
        go_region_held3 (fun W' => W'.cell? ⟨w.heap.size, 0, none⟩ = some (.bool false) ∧ W'.cell? ⟨w.heap.size, 1, none⟩ = some (.slice ao1 xs.length cap1) ∧ W'.cell? ⟨w.heap.size + 1, 0, none⟩ = some (.bool false) ∧ W'.cell? ⟨w.heap.size + 1, 1, none⟩ = some (.slice ao2 ys.length cap2))
          (exact ⟨hB.facts.1, hB.facts.2.1, hB.facts.2.2.1, hB.facts.2.2.2⟩)
          (first
            | (go_at_call 39; (with_reducible refine (digits_any false (.slice ao1 xs.length cap1) xs _ ?_ ?_ ?_).mono ?_); (exact HS1.out.below hB.bel); (exact L1.out); (exact hl1); rintro e W1 ⟨va, das, rfl, hsa, hda, hta, hva, hb⟩; replace hB := hB.step hb; clear hb)
            | (go_at_call 39; (with_reducible refine (digits_any false (.slice ao2 ys.length cap2) ys _ ?_ ?_ ?_).mono ?_); (exact HS2.out.below hB.bel); (exact L2.out); (exact hl2); rintro e W2 ⟨vb, dbs, rfl, hsb, hdb, htb, hvb, hb⟩; replace hB := hB.step hb; replace hsa := hsa.below hb; clear hb)
            | (go_at_call 54; (with_reducible refine (rmore_any va vb das dbs _ hsa hsb hda hdb hta htb).mono ?_); rintro e W3 ⟨rfl, hb⟩; replace hB := hB.step hb; have hR := cmpN_range (dval das) (dval dbs); clear hb))
        (try simp only [hva, hvb])
        simp only [hva, hvb] at hR
        generalize hc : cmpN (val xs) (val ys) = c at *
        obtain ⟨hR1, hR2⟩ := hR
        have hf := hB.facts.1
        have HC := Lib.hid hc; clear hc
        go_wp2_with fail
        go_ret
        exact ⟨c, rfl, hB.bel, .inl ⟨⟨G1.out, G2.out⟩, by rw [← HC.out]; exact cmpN_pos _ _⟩⟩
      · go_wp2_with fail
        go_ret
        exact ⟨1, rfl, HB1.out.bel, .inl ⟨⟨G1.out, G2.out⟩, (cmpZ_gt (Int.lt_of_lt_of_le (snd_neg G2.out) (by simp [ival]))).symm⟩⟩
      · go_wp2_with fail
        go_ret
        exact ⟨-1, rfl, HB1.out.bel, .inl ⟨⟨G1.out, G2.out⟩, (cmpZ_lt (Int.lt_of_lt_of_le (snd_neg G1.out) (by simp [ival]))).symm⟩⟩
      · go_wp2_with fail
        have hB := HB1.out.drew
        clear a0 a1 b0 b1
        go_region_held3 (fun W' => W'.cell? ⟨w.heap.size, 0, none⟩ = some (.bool true) ∧ W'.cell? ⟨w.heap.size, 1, none⟩ = some (.slice ao1 xs.length cap1) ∧ W'.cell? ⟨w.heap.size + 1, 0, none⟩ = some (.bool true) ∧ W'.cell? ⟨w.heap.size + 1, 1, none⟩ = some (.slice ao2 ys.length cap2))
          (exact ⟨hB.facts.1, hB.facts.2.1, hB.facts.2.2.1, hB.facts.2.2.2⟩)
          (first
            | (go_at_call 39; (with_reducible refine (digits_any true (.slice ao1 xs.length cap1) xs _ ?_ ?_ ?_).mono ?_); (exact HS1.out.below hB.bel); (exact L1.out); (exact hl1); rintro e W1 ⟨va, das, rfl, hsa, hda, hta, hva, hb⟩; replace hB := hB.step hb; clear hb)
            | (go_at_call 39; (with_reducible refine (digits_any true (.slice ao2 ys.length cap2) ys _ ?_ ?_ ?_).mono ?_); (exact HS2.out.below hB.bel); (exact L2.out); (exact hl2); rintro e W2 ⟨vb, dbs, rfl, hsb, hdb, htb, hvb, hb⟩; replace hB := hB.step hb; replace hsa := hsa.below hb; clear hb)
            | (go_at_call 54; (with_reducible refine (rmore_any va vb das dbs _ hsa hsb hda hdb hta htb).mono ?_); rintro e W3 ⟨rfl, hb⟩; replace hB := hB.step hb; have hR := cmpN_range (dval das) (dval dbs); clear hb))
        (try simp only [hva, hvb])
        simp only [hva, hvb] at hR
        generalize hc : cmpN (val xs) (val ys) = c at *
        obtain ⟨hR1, hR2⟩ := hR
        have hf := hB.facts.1
        have HC := Lib.hid hc; clear hc
        go_wp2_with fail
        go_ret
        refine ⟨-c, by first | rfl | go_num, hB.bel, .inl ⟨⟨G1.out, G2.out⟩, ?_⟩⟩
        rw [← HC.out, cmpN_flip]
        exact cmpN_neg _ _
    · have G1 := Lib.hid g1; clear g1
      have G2 := Lib.hid g2; clear g2
      go_enter Tryd.func31, Tryd.ntmps31
      go_wp2_with fail
      refine (rsound_any n1 _ xs _ (HS1.out.below hb1.bel) HX.out).mono ?_
      rintro e w1 ⟨rfl, hb2⟩
      rw [sndB_true G1.out]
      have hb1 := hb1.step hb2
      clear hb2
      obtain ⟨a0, a1, b0, b1⟩ := hb1.facts
      go_wp2_with fail
      refine (rsound_any n2 _ ys _ (HS2.out.below hb1.bel) HY.out).mono ?_
      rintro e w2 ⟨rfl, hb2⟩
      rw [sndB_false G2.out]
      have HB1 := Lib.hid (hb1.step hb2)
      clear hb1 hb2 a0 a1 b0 b1
      go_wp2_with fail
      go_ret
      exact ⟨0, rfl, HB1.out.bel, .inr ⟨fun g => G2.out g.2, rfl⟩⟩
  · have G1 := Lib.hid g1; clear g1
    go_enter Tryd.func31, Tryd.ntmps31
    go_wp2_with fail
    refine (rsound_any n1 _ xs _ (HS1.out.below hb1.bel) HX.out).mono ?_
    rintro e w1 ⟨rfl, hb2⟩
    rw [sndB_false G1.out]
    have HB1 := Lib.hid (hb1.step hb2)
    clear hb1 hb2
    go_wp2_with fail
    go_ret
    exact ⟨0, rfl, HB1.out.bel, .inr ⟨fun g => G1.out g.1, rfl⟩⟩
end Go.Proofs.YtommakdomnaclaaDoor
