/- ref.Add | ref.Sub -/
import Derived.Test.YtiekhjgfnmochaaDoorAnyRes
import Derived.Test.YtiekhjgfnmochaaDoorRSound
import Derived.Deep.RegionHeld3
namespace Go.Proofs.YtiekhjgfnmochaaDoor
open Go.RowKit

set_option maxRecDepth 100000 in
set_option maxHeartbeats 4000000 in
theorem radd_any (n1 n2 : Bool) (s1 s2 : Value) (xs ys : List Nat) (w : World) (hs1 : Sl .u32 w s1 xs) (hs2 : Sl .u32 w s2 ys) (hx : ∀ i, limb xs i < 4294967296) (hy : ∀ i, limb ys i < 4294967296) :
    Calls Tryd.prog 27 #[.agg #[.bool n1, s1], .agg #[.bool n2, s2]] w (AnyPost (Snd n1 xs ∧ Snd n2 ys) (ival n1 xs + ival n2 ys) w) := by
  have HS1 := Lib.hid hs1
  have HS2 := Lib.hid hs2
  obtain ⟨q1, ao1, cap1, rfl, hcap1, q2⟩ := hs1
  obtain ⟨q3, ao2, cap2, rfl, hcap2, q4⟩ := hs2
  clear q1 q2 q3 q4
  have HX := Lib.hid hx; clear hx
  have HY := Lib.hid hy; clear hy
  have hb1 := Boxes.start w n1 (.slice ao1 xs.length cap1) n2 (.slice ao2 ys.length cap2)
  by_cases g1 : Snd n1 xs
  · by_cases g2 : Snd n2 ys
    · have G1 := Lib.hid g1; clear g1
      have G2 := Lib.hid g2; clear g2
      have L1 := Lib.hid G1.out.2.1
      have L2 := Lib.hid G2.out.2.1
      have K1 := Lib.hid G1.out.1
      have K2 := Lib.hid G2.out.1
      have hl1 : xs.length < 1000000 := by have := G1.out.1; omega
      have hl2 : ys.length < 1000000 := by have := G2.out.1; omega
      go_enter Tryd.func27, Tryd.ntmps27
      go_wp2_with fail
      refine (rsound_any n1 _ xs _ (HS1.out.below hb1.bel) HX.out).mono ?_
      rintro e w1 ⟨rfl, hb2⟩
      rw [sndB_true G1.out]
      have hb1 := hb1.step hb2
      clear hb2
      obtain ⟨a0, a1, b0, b1, r0, r1, f0, f1⟩ := hb1.facts
      go_wp2_with fail
      refine (rsound_any n2 _ ys _ (HS2.out.below hb1.bel) HY.out).mono ?_
      rintro e w2 ⟨rfl, hb2⟩
      rw [sndB_true G2.out]
      have hb1 := hb1.step hb2
      clear hb2 a0 a1 b0 b1 r0 r1 f0 f1
      obtain ⟨a0, a1, b0, b1, r0, r1, f0, f1⟩ := hb1.facts
      go_wp2_with fail
      have hB := hb1.drew
      clear hb1 a0 a1 b0 b1 r0 r1 f0 f1
      go_region_held3 (fun W' => W'.cell? ⟨w.heap.size, 0, none⟩ = some (.bool n1) ∧ W'.cell? ⟨w.heap.size, 1, none⟩ = some (.slice ao1 xs.length cap1) ∧ W'.cell? ⟨w.heap.size + 1, 0, none⟩ = some (.bool n2) ∧ W'.cell? ⟨w.heap.size + 1, 1, none⟩ = some (.slice ao2 ys.length cap2))
        (exact ⟨hB.facts.1, hB.facts.2.1, hB.facts.2.2.1, hB.facts.2.2.2.1⟩)
        (first
          | (go_at_call 39; (with_reducible refine (digits_any n1 (.slice ao1 xs.length cap1) xs _ ?_ ?_ ?_).mono ?_); (exact HS1.out.below hB.bel); (exact L1.out); (exact hl1); rintro e W1 ⟨va, das, rfl, hsa, hda, hta, hva, hb⟩; replace hB := hB.step hb; clear hb)
          | (go_at_call 39; (with_reducible refine (digits_any n2 (.slice ao2 ys.length cap2) ys _ ?_ ?_ ?_).mono ?_); (exact HS2.out.below hB.bel); (exact L2.out); (exact hl2); rintro e W2 ⟨vb, dbs, rfl, hsb, hdb, htb, hvb, hb⟩; replace hB := hB.step hb; replace hsa := hsa.below hb; clear hb)
          | (go_at_call 52; (with_reducible refine (rsum_any n1 n2 va vb das dbs _ hsa hsb hda hdb hta htb (dig_len L1.out K1.out hda hta hva) (dig_len L2.out K2.out hdb htb hvb)).mono ?_); rintro e W3 ⟨nn, vv, dd, rfl, hsd, hdd, hvd, hb⟩; replace hB := hB.step hb; replace hvd := Lib.hid hvd; clear hb))
      all_goals go_wp2_with fail
      refine (rgive_any nn vv dd _ hsd hdd).mono ?_
      rintro e W4 ⟨v4, neg4, rs4, c4, rfl, ⟨sv4, rfl, hsl4⟩, hb4, hres4⟩
      have HB4 := Lib.hid (hB.step hb4)
      obtain ⟨a0, a1, b0, b1, r0, r1, f0, f1⟩ := HB4.out.facts
      have HS4 := Lib.hid hsl4
      obtain ⟨p1, ao4, cap4, rfl, p2, p3⟩ := hsl4
      have HRES := Lib.hid hres4
      clear hres4 p1 p2 p3 hB
      go_wp2_with fail
      refine bodyPost_ret (v := .tuple #[.agg #[.bool neg4, .slice ao4 rs4.length cap4], .int .i64 c4]) (by simp [results, Tryd.results27, go_sem, r0, r1]) rfl ?_
      refine ResPost.any ⟨G1.out, G2.out⟩ ⟨_, neg4, rs4, c4, rfl, ⟨_, rfl, HS4.out.box HB4.out.r _ _⟩, (HB4.out.bel.setCell (by simp; omega) _).setCell (by simp; omega) _, ?_⟩
      have e : ival n1 xs + ival n2 ys = sg nn (dval dd) := by
        rw [hvd.out, hva, hvb]; rfl
      rw [e]
      exact HRES.out
    · have G1 := Lib.hid g1; clear g1
      have G2 := Lib.hid g2; clear g2
      go_enter Tryd.func27, Tryd.ntmps27
      go_wp2_with fail
      refine (rsound_any n1 _ xs _ (HS1.out.below hb1.bel) HX.out).mono ?_
      rintro e w1 ⟨rfl, hb2⟩
      rw [sndB_true G1.out]
      have hb1 := hb1.step hb2
      clear hb2
      obtain ⟨a0, a1, b0, b1, r0, r1, f0, f1⟩ := hb1.facts
      go_wp2_with fail
      refine (rsound_any n2 _ ys _ (HS2.out.below hb1.bel) HY.out).mono ?_
      rintro e w2 ⟨rfl, hb2⟩
      rw [sndB_false G2.out]
      have hb1 := hb1.step hb2
      clear hb2 a0 a1 b0 b1 r0 r1 f0 f1
      obtain ⟨a0, a1, b0, b1, r0, r1, f0, f1⟩ := hb1.facts
      have HB1 := Lib.hid hb1; clear hb1
      go_wp2_with fail
      refine bodyPost_ret (v := .tuple #[.agg #[.bool false, .slice none 0 0], .int .i64 2]) (by simp [results, Tryd.results27, go_sem, r0, r1]) rfl ?_
      first
        | exact AnyPost.bad (fun g => G2.out g.2) HB1.out.bel
        | exact AnyPost.bad (fun g => G2.out g.2) ((HB1.out.bel.setCell (by simp; omega) _).setCell (by simp; omega) _)
  · have G1 := Lib.hid g1; clear g1
    go_enter Tryd.func27, Tryd.ntmps27
    go_wp2_with fail
    refine (rsound_any n1 _ xs _ (HS1.out.below hb1.bel) HX.out).mono ?_
    rintro e w1 ⟨rfl, hb2⟩
    rw [sndB_false G1.out]
    have hb1 := hb1.step hb2
    clear hb2
    obtain ⟨a0, a1, b0, b1, r0, r1, f0, f1⟩ := hb1.facts
    have HB1 := Lib.hid hb1; clear hb1
    go_wp2_with fail
    refine bodyPost_ret (v := .tuple #[.agg #[.bool false, .slice none 0 0], .int .i64 2]) (by simp [results, Tryd.results27, go_sem, r0, r1]) rfl ?_
    first
      | exact AnyPost.bad (fun g => G1.out g.1) HB1.out.bel
      | exact AnyPost.bad (fun g => G1.out g.1) ((HB1.out.bel.setCell (by simp; omega) _).setCell (by simp; omega) _)
end Go.Proofs.YtiekhjgfnmochaaDoor
namespace Go.Proofs.YtiekhjgfnmochaaDoor
open Go.RowKit

set_option maxRecDepth 100000 in
set_option maxHeartbeats 4000000 in
theorem rsub_any (n1 n2 : Bool) (s1 s2 : Value) (xs ys : List Nat) (w : World) (hs1 : Sl .u32 w s1 xs) (hs2 : Sl .u32 w s2 ys) (hx : ∀ i, limb xs i < 4294967296) (hy : ∀ i, limb ys i < 4294967296) :
    Calls Tryd.prog 29 #[.agg #[.bool n1, s1], .agg #[.bool n2, s2]] w (AnyPost (Snd n1 xs ∧ Snd n2 ys) (ival n1 xs - ival n2 ys) w) := by
  have HS1 := Lib.hid hs1
  have HS2 := Lib.hid hs2
  obtain ⟨q1, ao1, cap1, rfl, hcap1, q2⟩ := hs1
  obtain ⟨q3, ao2, cap2, rfl, hcap2, q4⟩ := hs2
  clear q1 q2 q3 q4
  have HX := Lib.hid hx; clear hx
  have HY := Lib.hid hy; clear hy
  have hb1 := Boxes.start w n1 (.slice ao1 xs.length cap1) n2 (.slice ao2 ys.length cap2)
  by_cases g1 : Snd n1 xs
  · by_cases g2 : Snd n2 ys
    · have G1 := Lib.hid g1; clear g1
      have G2 := Lib.hid g2; clear g2
      have L1 := Lib.hid G1.out.2.1
      have L2 := Lib.hid G2.out.2.1
      have K1 := Lib.hid G1.out.1
      have K2 := Lib.hid G2.out.1
      have hl1 : xs.length < 1000000 := by have := G1.out.1; omega
      have hl2 : ys.length < 1000000 := by have := G2.out.1; omega
      go_enter Tryd.func29, Tryd.ntmps29
      go_wp2_with fail
      refine (rsound_any n1 _ xs _ (HS1.out.below hb1.bel) HX.out).mono ?_
      rintro e w1 ⟨rfl, hb2⟩
      rw [sndB_true G1.out]
      have hb1 := hb1.step hb2
      clear hb2
      obtain ⟨a0, a1, b0, b1, r0, r1, f0, f1⟩ := hb1.facts
      go_wp2_with fail
      refine (rsound_any n2 _ ys _ (HS2.out.below hb1.bel) HY.out).mono ?_
      rintro e w2 ⟨rfl, hb2⟩
      rw [sndB_true G2.out]
      have hb1 := hb1.step hb2
      clear hb2 a0 a1 b0 b1 r0 r1 f0 f1
      obtain ⟨a0, a1, b0, b1, r0, r1, f0, f1⟩ := hb1.facts
      go_wp2_with fail
      have hB := hb1.drew
      clear hb1 a0 a1 b0 b1 r0 r1 f0 f1
      go_region_held3 (fun W' => W'.cell? ⟨w.heap.size, 0, none⟩ = some (.bool n1) ∧ W'.cell? ⟨w.heap.size, 1, none⟩ = some (.slice ao1 xs.length cap1) ∧ W'.cell? ⟨w.heap.size + 1, 0, none⟩ = some (.bool n2) ∧ W'.cell? ⟨w.heap.size + 1, 1, none⟩ = some (.slice ao2 ys.length cap2))
        (exact ⟨hB.facts.1, hB.facts.2.1, hB.facts.2.2.1, hB.facts.2.2.2.1⟩)
        (first
          | (go_at_call 39; (with_reducible refine (digits_any n1 (.slice ao1 xs.length cap1) xs _ ?_ ?_ ?_).mono ?_); (exact HS1.out.below hB.bel); (exact L1.out); (exact hl1); rintro e W1 ⟨va, das, rfl, hsa, hda, hta, hva, hb⟩; replace hB := hB.step hb; clear hb)
          | (go_at_call 39; (with_reducible refine (digits_any n2 (.slice ao2 ys.length cap2) ys _ ?_ ?_ ?_).mono ?_); (exact HS2.out.below hB.bel); (exact L2.out); (exact hl2); rintro e W2 ⟨vb, dbs, rfl, hsb, hdb, htb, hvb, hb⟩; replace hB := hB.step hb; replace hsa := hsa.below hb; clear hb)
          | (go_at_call 52; (with_reducible refine (rsum_any n1 (!n2) va vb das dbs _ hsa hsb hda hdb hta htb (dig_len L1.out K1.out hda hta hva) (dig_len L2.out K2.out hdb htb hvb)).mono ?_); rintro e W3 ⟨nn, vv, dd, rfl, hsd, hdd, hvd, hb⟩; replace hB := hB.step hb; replace hvd := Lib.hid hvd; clear hb))
      all_goals go_wp2_with fail
      refine (rgive_any nn vv dd _ hsd hdd).mono ?_
      rintro e W4 ⟨v4, neg4, rs4, c4, rfl, ⟨sv4, rfl, hsl4⟩, hb4, hres4⟩
      have HB4 := Lib.hid (hB.step hb4)
      obtain ⟨a0, a1, b0, b1, r0, r1, f0, f1⟩ := HB4.out.facts
      have HS4 := Lib.hid hsl4
      obtain ⟨p1, ao4, cap4, rfl, p2, p3⟩ := hsl4
      have HRES := Lib.hid hres4
      clear hres4 p1 p2 p3 hB
      go_wp2_with fail
      refine bodyPost_ret (v := .tuple #[.agg #[.bool neg4, .slice ao4 rs4.length cap4], .int .i64 c4]) (by simp [results, Tryd.results29, go_sem, r0, r1]) rfl ?_
      refine ResPost.any ⟨G1.out, G2.out⟩ ⟨_, neg4, rs4, c4, rfl, ⟨_, rfl, HS4.out.box HB4.out.r _ _⟩, (HB4.out.bel.setCell (by simp; omega) _).setCell (by simp; omega) _, ?_⟩
      have e : ival n1 xs - ival n2 ys = sg nn (dval dd) := by
        rw [hvd.out, hva, hvb]; unfold sg ival; cases n2 <;> simp <;> omega
      rw [e]
      exact HRES.out
    · have G1 := Lib.hid g1; clear g1
      have G2 := Lib.hid g2; clear g2
      go_enter Tryd.func29, Tryd.ntmps29
      go_wp2_with fail
      refine (rsound_any n1 _ xs _ (HS1.out.below hb1.bel) HX.out).mono ?_
      rintro e w1 ⟨rfl, hb2⟩
      rw [sndB_true G1.out]
      have hb1 := hb1.step hb2
      clear hb2
      obtain ⟨a0, a1, b0, b1, r0, r1, f0, f1⟩ := hb1.facts
      go_wp2_with fail
      refine (rsound_any n2 _ ys _ (HS2.out.below hb1.bel) HY.out).mono ?_
      rintro e w2 ⟨rfl, hb2⟩
      rw [sndB_false G2.out]
      have hb1 := hb1.step hb2
      clear hb2 a0 a1 b0 b1 r0 r1 f0 f1
      obtain ⟨a0, a1, b0, b1, r0, r1, f0, f1⟩ := hb1.facts
      have HB1 := Lib.hid hb1; clear hb1
      go_wp2_with fail
      refine bodyPost_ret (v := .tuple #[.agg #[.bool false, .slice none 0 0], .int .i64 2]) (by simp [results, Tryd.results29, go_sem, r0, r1]) rfl ?_
      first
        | exact AnyPost.bad (fun g => G2.out g.2) HB1.out.bel
        | exact AnyPost.bad (fun g => G2.out g.2) ((HB1.out.bel.setCell (by simp; omega) _).setCell (by simp; omega) _)
  · have G1 := Lib.hid g1; clear g1
    go_enter Tryd.func29, Tryd.ntmps29
    go_wp2_with fail
    refine (rsound_any n1 _ xs _ (HS1.out.below hb1.bel) HX.out).mono ?_
    rintro e w1 ⟨rfl, hb2⟩
    rw [sndB_false G1.out]
    have hb1 := hb1.step hb2
    clear hb2
    obtain ⟨a0, a1, b0, b1, r0, r1, f0, f1⟩ := hb1.facts
    have HB1 := Lib.hid hb1; clear hb1
    go_wp2_with fail
    refine bodyPost_ret (v := .tuple #[.agg #[.bool false, .slice none 0 0], .int .i64 2]) (by simp [results, Tryd.results29, go_sem, r0, r1]) rfl ?_
    first
      | exact AnyPost.bad (fun g => G1.out g.1) HB1.out.bel
      | exact AnyPost.bad (fun g => G1.out g.1) ((HB1.out.bel.setCell (by simp; omega) _).setCell (by simp; omega) _)
end Go.Proofs.YtiekhjgfnmochaaDoor
