/- NumTexts, walked -/
import Derived.Test.YtommakdomnaclaaDoorEnv
import Derived.Test.YtommakdomnaclaaDoorLight
import Derived.Test.YtommakdomnaclaaDoorROf
namespace Go.Proofs.YtommakdomnaclaaDoor
open Go.RowKit

set_option maxRecDepth 100000 in
set_option maxHeartbeats 1000000 in
theorem text_all (neg : Bool) (sv : Value) (rs : List Nat) (w : World) (hs : Sl .u32 w sv rs) (hx : ∀ i, limb rs i < 4294967296) (ht : Pow10 w) :
    Calls Tryd.prog 19 #[.agg #[.bool neg, sv]] w (TextPost (txtA neg rs) w) := by
  by_cases g : Snd neg rs
  · rw [txtA_snd g]
    exact text_any neg sv rs w hs g ht
  · rw [txtA_not g]
    have HS := Lib.hid hs
    obtain ⟨q1, ao, cap, rfl, hcap, q2⟩ := hs
    clear q1 q2
    have HX := Lib.hid hx; clear hx
    have hb1 := below1 w (.cells #[.bool neg, .slice ao rs.length cap] 24)
    have G := Lib.hid g; clear g
    go_enter Tryd.func19, Tryd.ntmps19
    go_wp2_with fail
    refine (sound_any neg _ rs _ (HS.out.below hb1) HX.out).mono ?_
    rintro e w1 ⟨rfl, hb2⟩
    rw [sndB_false G.out]
    go_wp2
    go_ret
    exact ⟨rfl, hb1.trans (hb2.mono (by simp))⟩

set_option maxRecDepth 100000 in
set_option maxHeartbeats 4000000 in
theorem texts_in (n1 : Bool) (a1 : Option Addr) (c1 : Nat) (xs : List Nat) (z : Int) (w : World) (ht : Pow10 w)
    (hs1 : Sl .u32 w (.slice a1 xs.length c1) xs) (hx : ∀ i, limb xs i < 4294967296) (hz1 : -9223372036854775808 ≤ z) (hz2 : z ≤ 9223372036854775807) (h1 : xs.length ≤ 70) :
    Calls Tryd.prog 3 #[.agg #[.bool n1, .slice a1 xs.length c1], .int .i64 z] w (TrueP w) := by
  have HT := Lib.hid ht; clear ht
  have X1 := Lib.hid hx; clear hx
  have HZ1 := Lib.hid hz1; clear hz1
  have HZ2 := Lib.hid hz2; clear hz2
  have hA : Env [(w.heap.size, n1, .slice a1 xs.length c1, xs)] (w.alloc (.cells #[.bool n1, .slice a1 xs.length c1] 24)) := (Env.nil w).push (n := n1) hs1
  have hB := below1 w (.cells #[.bool n1, .slice a1 xs.length c1] 24)
  clear hs1
  have M1 : Hid ((w.heap.size, n1, Value.slice a1 xs.length c1, xs) ∈ [(w.heap.size, n1, Value.slice a1 xs.length c1, xs)]) := Lib.hid (by simp)
  obtain ⟨T, hT⟩ : ∃ T : ByteArray, T = ⟨(txtA n1 xs).toArray⟩ := ⟨_, rfl⟩
  have HTX := Lib.hid hT; clear hT
  obtain ⟨sb, hsb⟩ : ∃ b : Bool, b = sndB n1 xs := ⟨_, rfl⟩
  have HSB := Lib.hid hsb; clear hsb
  go_enter Tryd.func3, Tryd.ntmps3
  go_wp2_with fail
  refine (answers_any _ (HT.out.below hB)).mono ?_
  rintro e V1 ⟨rfl, hb⟩
  replace hB := hB.trans (hb.mono hB.size)
  replace hA := hA.step hb
  clear hb
  obtain ⟨p0, p1⟩ := hA.cells M1.out
  go_wp2_with fail
  refine (lightY n1 a1 c1 xs _ h1).mono ?_
  rintro e V2 ⟨rfl, hb⟩
  replace hB := hB.trans (hb.mono hB.size)
  replace hA := hA.step hb
  clear hb p0 p1
  obtain ⟨p0, p1⟩ := hA.cells M1.out
  go_wp2_with fail
  refine (own_open n1 (.slice a1 xs.length c1) xs _ (hA.sl M1.out) (by omega)).mono ?_
  rintro e V3 ⟨ao0, l0, cap0, rfl, hs0, hb⟩
  replace hB := hB.trans (hb.mono hB.size)
  replace hA := hA.step hb
  clear hb p0 p1
  go_wp2_with fail
  refine (small_any n1 _ xs _ hs0 X1.out).mono ?_
  rintro e V4 ⟨k1, o1, rfl, hb, hk1⟩
  have HK1 := Lib.hid hk1
  replace hB := hB.trans (hb.mono hB.size)
  replace hA := hA.step hb
  clear hb hk1 hs0
  obtain ⟨p0, p1⟩ := hA.cells M1.out
  go_wp2_with fail
  refine (rsmall_any n1 (.slice a1 xs.length c1) xs _ (hA.sl M1.out) X1.out).mono ?_
  rintro e V5 ⟨k2, o2, rfl, hb, hk2⟩
  obtain ⟨e1, e2⟩ := small_unique HK1.out hk2
  subst e1; subst e2
  replace hB := hB.trans (hb.mono hB.size)
  replace hA := hA.step hb
  clear hb hk2 HK1 p0 p1
  have hkk : (k1 == k1) = true := by simp
  have hoo : (o1 == o1) = true := by simp
  go_wp2_with fail
  replace hB := hB.drew
  replace hA := hA.drew
  go_region_held3 (fun W' => W'.cell? ⟨w.heap.size, 0, none⟩ = some (.bool n1) ∧ W'.cell? ⟨w.heap.size, 1, none⟩ = some (.slice a1 xs.length c1))
    (exact ⟨(hA.cells M1.out).1, (hA.cells M1.out).2⟩)
    (first
    | (go_at_call 15; (with_reducible refine (own_open n1 (.slice a1 xs.length c1) xs _ ?_ ?_).mono ?_); (with_reducible exact hA.sl M1.out); omega; rintro e W70 ⟨ao0, l0, cap0, rfl, hs0, hb⟩; replace hB := hB.trans (hb.mono hB.size); replace hA := hA.step hb; clear hb)
    | (go_at_call 17; (with_reducible refine (sound_any n1 _ xs _ ?_ X1.out).mono ?_); (with_reducible exact hs0); rintro e W71 ⟨rfl, hb⟩; rw [← HSB.out]; replace hB := hB.trans (hb.mono hB.size); replace hA := hA.step hb; clear hb)
    | (go_at_call 18; (with_reducible refine (rsound_any n1 (.slice a1 xs.length c1) xs _ ?_ X1.out).mono ?_); (with_reducible exact hA.sl M1.out); rintro e W72 ⟨rfl, hb⟩; rw [← HSB.out]; replace hB := hB.trans (hb.mono hB.size); replace hA := hA.step hb; clear hb)
    | (go_at_call 19; (with_reducible refine (text_all n1 _ xs _ ?_ X1.out ?_).mono ?_); (with_reducible exact hs0); (exact HT.out.below hB); rintro e W73 ⟨rfl, hb⟩; rw [← HTX.out]; replace hB := hB.trans (hb.mono hB.size); replace hA := hA.step hb; clear hb)
    | (go_at_call 20; (with_reducible refine (rtext_any n1 (.slice a1 xs.length c1) xs _ ?_ X1.out).mono ?_); (with_reducible exact hA.sl M1.out); rintro e W74 ⟨rfl, hb⟩; rw [← HTX.out]; replace hB := hB.trans (hb.mono hB.size); replace hA := hA.step hb; clear hb)
    | (go_at_call 22; (with_reducible refine (of_any z _ HZ1.out HZ2.out).mono ?_); rintro e W75 ⟨v5, g5, r5, rfl, ⟨sv5, rfl, hs5⟩, hb, hsnd5, hval5⟩; have HS5 := Lib.hid hsnd5; have HV5 := Lib.hid hval5; replace hB := hB.trans (hb.mono hB.size); replace hA := hA.step hb; clear hb hsnd5 hval5)
    | (go_at_call 23; (with_reducible refine (rof_any z _ HZ1.out HZ2.out).mono ?_); rintro e W76 ⟨v6, g6, r6, rfl, ⟨sv6, rfl, hs6⟩, hb, hsnd6, hval6⟩; obtain ⟨e1, e2⟩ := snd_unique HS5.out hsnd6 (HV5.out.trans hval6.symm); subst e1; subst e2; replace hs5 := hs5.below hb; replace hB := hB.trans (hb.mono hB.size); replace hA := hA.step hb; clear hb hsnd6 hval6)
    | (go_at_call 21; (with_reducible refine (same_any g5 g5 _ _ r5 r5 _ ?_ ?_).mono ?_); (with_reducible exact hs5); (with_reducible exact hs6); rintro e W77 ⟨rfl, hb⟩; rw [sameB_true ⟨rfl, rfl⟩]; replace hB := hB.trans (hb.mono hB.size); replace hA := hA.step hb; clear hb))
  all_goals
    go_wp2
    go_ret
    exact ⟨rfl, hB⟩

set_option maxRecDepth 100000 in
set_option maxHeartbeats 4000000 in
theorem texts_out (n1 : Bool) (a1 : Option Addr) (c1 : Nat) (xs : List Nat) (z : Int) (w : World) (ht : Pow10 w)
    (hs1 : Sl .u32 w (.slice a1 xs.length c1) xs) (h1 : 70 < xs.length) :
    Calls Tryd.prog 3 #[.agg #[.bool n1, .slice a1 xs.length c1], .int .i64 z] w (TrueP w) := by
  have HT := Lib.hid ht; clear ht
  have hA : Env [(w.heap.size, n1, .slice a1 xs.length c1, xs)] (w.alloc (.cells #[.bool n1, .slice a1 xs.length c1] 24)) := (Env.nil w).push (n := n1) hs1
  have hB := below1 w (.cells #[.bool n1, .slice a1 xs.length c1] 24)
  clear hs1
  have M1 : Hid ((w.heap.size, n1, Value.slice a1 xs.length c1, xs) ∈ [(w.heap.size, n1, Value.slice a1 xs.length c1, xs)]) := Lib.hid (by simp)
  go_enter Tryd.func3, Tryd.ntmps3
  go_wp2_with fail
  refine (answers_any _ (HT.out.below hB)).mono ?_
  rintro e V1 ⟨rfl, hb⟩
  replace hB := hB.trans (hb.mono hB.size)
  replace hA := hA.step hb
  clear hb
  obtain ⟨p0, p1⟩ := hA.cells M1.out
  go_wp2_with fail
  refine (lightN n1 a1 c1 xs _ h1).mono ?_
  rintro e V2 ⟨rfl, hb⟩
  replace hB := hB.trans (hb.mono hB.size)
  clear hb p0 p1
  go_wp2_with fail
  refine (answers_any _ (HT.out.below hB)).mono ?_
  rintro e V9 ⟨rfl, hb⟩
  replace hB := hB.trans (hb.mono hB.size)
  go_wp2
  go_ret
  exact ⟨rfl, hB⟩

/-- NumTexts answers true, whatever it is given. -/
theorem texts_any (n1 : Bool) (a1 : Option Addr) (c1 : Nat) (xs : List Nat) (z : Int) (w : World) (ht : Pow10 w)
    (hs1 : Sl .u32 w (.slice a1 xs.length c1) xs) (hx : ∀ i, limb xs i < 4294967296) (hz1 : -9223372036854775808 ≤ z) (hz2 : z ≤ 9223372036854775807) :
    Calls Tryd.prog 3 #[.agg #[.bool n1, .slice a1 xs.length c1], .int .i64 z] w (TrueP w) := by
  rcases Nat.lt_or_ge 70 xs.length with h1 | h1
  · exact texts_out n1 a1 c1 xs z w ht hs1 h1
  · exact texts_in n1 a1 c1 xs z w ht hs1 hx hz1 hz2 h1
end Go.Proofs.YtommakdomnaclaaDoor
