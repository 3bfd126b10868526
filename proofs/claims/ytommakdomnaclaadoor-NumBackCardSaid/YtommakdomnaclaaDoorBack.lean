/- NumBack, walked -/
import Derived.Test.YtommakdomnaclaaDoorParseAny
import Derived.Test.YtommakdomnaclaaDoorBackMath
import Derived.Test.YtommakdomnaclaaDoorLight
import Derived.Test.YtommakdomnaclaaDoorEnv
import Derived.Test.YtommakdomnaclaaDoorConv
namespace Go.Proofs.YtommakdomnaclaaDoor
open Go.RowKit

set_option maxRecDepth 100000 in
set_option maxHeartbeats 2000000 in
theorem back_out (n1 : Bool) (a1 : Option Addr) (c1 : Nat) (xs : List Nat) (z : Int) (w : World) (ht : Pow10 w)
    (hs1 : Sl .u32 w (.slice a1 xs.length c1) xs) (hx : ∀ i, limb xs i < 4294967296) (h1 : ¬ Snd n1 xs) :
    Calls Tryd.prog 10 #[.agg #[.bool n1, .slice a1 xs.length c1], .int .u8 z] w (TrueP w) := by
  have HT := Lib.hid ht; clear ht
  have X1 := Lib.hid hx; clear hx
  have NS := Lib.hid h1; clear h1
  have hA : Env [(w.heap.size, n1, .slice a1 xs.length c1, xs)] (w.alloc (.cells #[.bool n1, .slice a1 xs.length c1] 24)) := (Env.nil w).push (n := n1) hs1
  have hB := below1 w (.cells #[.bool n1, .slice a1 xs.length c1] 24)
  clear hs1
  have M1 : Hid ((w.heap.size, n1, Value.slice a1 xs.length c1, xs) ∈ [(w.heap.size, n1, Value.slice a1 xs.length c1, xs)]) := Lib.hid (by simp)
  go_enter Tryd.func10, Tryd.ntmps10
  go_wp2_with fail
  refine (answers_any _ (HT.out.below hB)).mono ?_
  rintro e V1 ⟨rfl, hb⟩
  replace hB := hB.trans (hb.mono hB.size)
  replace hA := hA.step hb
  clear hb
  obtain ⟨p0, p1⟩ := hA.cells M1.out
  go_wp2_with fail
  refine (rsound_any n1 (.slice a1 xs.length c1) xs _ (hA.sl M1.out) X1.out).mono ?_
  rintro e V2 ⟨rfl, hb⟩
  rw [sndB_false NS.out]
  replace hB := hB.trans (hb.mono hB.size)
  clear hb p0 p1
  go_wp2_with fail
  refine (answers_any _ (HT.out.below hB)).mono ?_
  rintro e V9 ⟨rfl, hb⟩
  replace hB := hB.trans (hb.mono hB.size)
  go_wp2
  go_ret
  exact ⟨rfl, hB⟩

set_option maxRecDepth 100000 in
set_option maxHeartbeats 2000000 in
theorem back_in (n1 : Bool) (a1 : Option Addr) (c1 : Nat) (xs : List Nat) (n : Nat) (w : World) (ht : Pow10 w)
    (hs1 : Sl .u32 w (.slice a1 xs.length c1) xs) (hx : ∀ i, limb xs i < 4294967296) (h1 : Snd n1 xs) (hn : n ≤ 255) :
    Calls Tryd.prog 10 #[.agg #[.bool n1, .slice a1 xs.length c1], .int .u8 (n : Int)] w (TrueP w) := by
  obtain ⟨i0, hi, hz0, hz1, hz2⟩ := info_parts infoB
  have HT := Lib.hid ht; clear ht
  have X1 := Lib.hid hx; clear hx
  have SN := Lib.hid h1
  have hxl : xs.length ≤ 64 := h1.1
  clear h1
  have hA : Env [(w.heap.size, n1, .slice a1 xs.length c1, xs)] (w.alloc (.cells #[.bool n1, .slice a1 xs.length c1] 24)) := (Env.nil w).push (n := n1) hs1
  have hB := below1 w (.cells #[.bool n1, .slice a1 xs.length c1] 24)
  clear hs1
  have M1 : Hid ((w.heap.size, n1, Value.slice a1 xs.length c1, xs) ∈ [(w.heap.size, n1, Value.slice a1 xs.length c1, xs)]) := Lib.hid (by simp)
  obtain ⟨S, hS⟩ : ∃ T : ByteArray, T = ⟨(txt n1 xs).toArray⟩ := ⟨_, rfl⟩
  have HSL : Hid (S.data.toList = txt n1 xs) := Lib.hid (by rw [hS])
  have HTX := Lib.hid hS
  have hS2 : S.size = (txt n1 xs).length := by rw [hS]; show (txt n1 xs).toArray.size = _; simp
  obtain ⟨hSa, hSb⟩ := txt_short SN.out
  rw [← hS2] at hSa hSb
  clear hS hS2
  go_enter Tryd.func10, Tryd.ntmps10
  go_wp2_with fail
  refine (answers_any _ (HT.out.below hB)).mono ?_
  rintro e V1 ⟨rfl, hb⟩
  replace hB := hB.trans (hb.mono hB.size)
  replace hA := hA.step hb
  clear hb
  obtain ⟨p0, p1⟩ := hA.cells M1.out
  go_wp2_with fail
  refine (rsound_any n1 (.slice a1 xs.length c1) xs _ (hA.sl M1.out) X1.out).mono ?_
  rintro e V2 ⟨rfl, hb⟩
  rw [sndB_true SN.out]
  replace hB := hB.trans (hb.mono hB.size)
  replace hA := hA.step hb
  clear hb p0 p1
  obtain ⟨p0, p1⟩ := hA.cells M1.out
  go_wp2_with fail
  refine (own_open n1 (.slice a1 xs.length c1) xs _ (hA.sl M1.out) (by omega)).mono ?_
  rintro e V3 ⟨ao0, l0, cap0, rfl, hs0, hb⟩
  replace hB := hB.trans (hb.mono hB.size)
  replace hA := hA.step hb
  clear hb p0 p1
  go_wp2_with fail
  refine (text_any n1 _ xs _ hs0 SN.out (HT.out.below hB)).mono ?_
  rintro e V4 ⟨rfl, hb⟩
  rw [← HTX.out]
  replace hB := hB.trans (hb.mono hB.size)
  replace hA := hA.step hb
  clear hb hs0
  go_wp2_with fail
  refine (parse_any S _ (by omega)).mono ?_
  rintro e V5 ⟨v5, n5, r5, o5, rfl, ⟨sv5, rfl, hs5⟩, hb, hr5⟩
  obtain ⟨d1, d2, d3⟩ := back_plain SN.out HSL.out
  obtain ⟨e1, e2, e3⟩ := parse_back SN.out d1 d2 d3 hr5
  subst e1; subst e2; subst e3
  clear d1 d2 d3 hr5
  replace hB := hB.trans (hb.mono hB.size)
  replace hA := hA.step hb
  clear hb
  have HS5 := Lib.hid hs5
  obtain ⟨q1, ao5, cap5, rfl, q2, q3⟩ := hs5
  clear q1 q2 q3
  replace hA := hA.push (n := n5) HS5.out
  replace hB := hB.alloc hB.size (.cells #[.bool n5, .slice ao5 r5.length cap5] 24)
  have M2 := Lib.hid (List.mem_cons_self (a := (V5.heap.size, n5, Value.slice ao5 r5.length cap5, r5)) (l := [(w.heap.size, n5, Value.slice a1 r5.length c1, r5)]))
  replace M1 := Lib.hid (List.mem_cons_of_mem (V5.heap.size, n5, Value.slice ao5 r5.length cap5, r5) M1.out)
  clear HS5
  go_wp2_with (at_make; refine wpList_make_full _ rfl _ _ 44 rfl w.heap.size 5 i0 (.int .u8 0) 1 Tryd.underlying44 hi hz0 hz1 _ _ _ _ n rfl rfl (by omega) (by omega) (by rw [hz2]; omega) (by unfold maxLen; omega) hB.size ?_; intro w5 hown hgrow)
  have h6 : (V5.alloc (.cells #[.bool n5, .slice ao5 r5.length cap5] 24)).heap.size = V5.heap.size + 1 := by simp
  generalize (V5.alloc (.cells #[.bool n5, .slice ao5 r5.length cap5] 24)) = V6 at *
  have hrow : Row .u8 5 w5 V6.heap.size (List.replicate n 0) := Row.of_made hown
  have hbm : Below V6.heap.size V6 w5 := (Below.refl _ V6).grown hgrow (Nat.le_refl _) (fun _ h => by cases h)
  clear hown hgrow
  rw [h6] at hrow hbm
  go_loopw [9] (fun i wr => ∃ (k : Nat), k ≤ n ∧ i = .int .i64 (k : Nat) ∧ Row .u8 5 wr (V5.heap.size + 1) (List.replicate k 48 ++ List.replicate (n - k) 0) ∧ Below (V5.heap.size + 1) V6 wr) (fun i _ => n - (intOf i).toNat)
  case atStart => exact ⟨0, by omega, rfl, hrow, hbm⟩
  case round =>
    clear hrow hbm
    obtain ⟨k, hk, rfl, hrow, hbel⟩ := hrel
    by_cases hkn : k < n
    · have hlen : k < (List.replicate k 48 ++ List.replicate (n - k) 0).length := by simp; omega
      have hcell := hrow.cell hlen
      have hfr := hrow.frozen k
      have HR := Lib.hid hrow
      clear hrow hlen
      go_wp2_with fail
      go_roundw
      case rel =>
        refine ⟨k + 1, by omega, by go_num, ?_, hbel.setCell (Nat.le_refl _) _⟩
        have h := HR.out.put k 48 rfl
        obtain ⟨m, hm⟩ : ∃ m, n - k = m + 1 := ⟨n - k - 1, by omega⟩
        rw [hm, rep_set] at h
        rw [show n - (k + 1) = m from by omega]
        exact h
      case measure => simp only [intOf]; omega
    · obtain rfl : k = n := by omega
      have hsl := hrow.sl_all (n := k) (cap := k) (by simp) (Nat.le_refl _) (by unfold maxLen; omega)
      have er : List.replicate k 48 ++ List.replicate (k - k) 0 = List.replicate k 48 := by simp
      rw [er] at hsl
      have HK := Lib.hid (conv_sl Tryd.underlying44 Tryd.underlying5 Tryd.underlying9 hsl)
      have hsd : Sl .u8 wr.drew (.slice (some ⟨V5.heap.size + 1, 0, none⟩) k k) (List.replicate k 48) := hsl
      have HKD := Lib.hid (conv_sl Tryd.underlying44 Tryd.underlying5 Tryd.underlying9 hsd)
      clear hrow hsl er hsd
      obtain ⟨Q, hQ⟩ : ∃ Q : ByteArray, Q = strOf (List.replicate k 48) := ⟨_, rfl⟩
      rw [← hQ] at HK HKD
      have HQL : Hid (Q.data.toList = List.replicate k 48) := Lib.hid (by rw [hQ]; exact rep_str k)
      have hQs : Q.size = k := by
        have := congrArg List.length HQL.out
        simpa using this
      clear hQ
      rw [← h6] at hbel
      replace hB := hB.trans (hbel.mono hB.size)
      replace hA := hA.step hbel
      clear hbel h6
      have hk := HK.out
      have hkd := HKD.out
      obtain ⟨p0, p1⟩ := hA.cells M1.out
      cases n5
      · go_wp2_with fail
        obtain ⟨T, hT⟩ : ∃ T : ByteArray, T = ⟨#[43]⟩ ++ Q ++ S := ⟨_, rfl⟩
        rw [← hT]
        have hTl : T.data.toList = [43] ++ List.replicate k 48 ++ S.data.toList := by rw [hT, ← HQL.out]; simp
        have hTs : T.size = 1 + k + S.size := by rw [hT, ByteArray.size_append, ByteArray.size_append, hQs]; rfl
        obtain ⟨d1, d2, d3⟩ := back_plus k SN.out HSL.out hTl
        clear hTl hT
        refine (parse_any T _ (by omega)).mono ?_
        rintro e V7 ⟨v7, n7, r7, o7, rfl, ⟨sv7, rfl, hs7⟩, hb, hr7⟩
        obtain ⟨e1, e2, e3⟩ := parse_back SN.out d1 d2 d3 hr7
        subst e1; subst e2; subst e3
        clear d1 d2 d3 hr7 p0 p1 HK hk HKD hkd
        replace hB := hB.trans (hb.mono hB.size)
        replace hA := hA.step hb
        clear hb
        have HS7 := Lib.hid hs7
        obtain ⟨q1, ao7, cap7, rfl, q2, q3⟩ := hs7
        clear q1 q2 q3
        replace hA := hA.push (n := false) HS7.out
        replace hB := hB.alloc hB.size (.cells #[.bool false, .slice ao7 r7.length cap7] 24)
        have M3 := Lib.hid (List.mem_cons_self (a := (V7.heap.size, false, Value.slice ao7 r7.length cap7, r7)) (l := [(V5.heap.size, false, Value.slice ao5 r7.length cap5, r7), (w.heap.size, false, Value.slice a1 r7.length c1, r7)]))
        replace M1 := Lib.hid (List.mem_cons_of_mem (V7.heap.size, false, Value.slice ao7 r7.length cap7, r7) M1.out)
        replace M2 := Lib.hid (List.mem_cons_of_mem (V7.heap.size, false, Value.slice ao7 r7.length cap7, r7) M2.out)
        clear HS7
        obtain ⟨p0, p1⟩ := hA.cells M1.out
        obtain ⟨p2, p3⟩ := hA.cells M2.out
        go_wp2_with fail
        refine (same_any false false _ _ r7 r7 _ (hA.sl M2.out) (hA.sl M1.out)).mono ?_
        rintro e V8 ⟨rfl, hb⟩
        rw [sameB_true ⟨rfl, rfl⟩]
        replace hB := hB.trans (hb.mono hB.size)
        replace hA := hA.step hb
        clear hb p0 p1 p2 p3
        obtain ⟨p0, p1⟩ := hA.cells M1.out
        obtain ⟨p2, p3⟩ := hA.cells M3.out
        go_wp2_with fail
        refine (same_any false false _ _ r7 r7 _ (hA.sl M3.out) (hA.sl M1.out)).mono ?_
        rintro e V9 ⟨rfl, hb⟩
        rw [sameB_true ⟨rfl, rfl⟩]
        replace hB := hB.trans (hb.mono hB.size)
        clear hb p0 p1 p2 p3
        go_wp2
        go_ret
        exact ⟨rfl, hB⟩
      · go_wp2_with fail
        go_region
        have HU := Lib.hid (Lib.extract_to_end S 1)
        have hUs : (S.extract 1 S.size).size = S.size - 1 := by simp [ByteArray.size_extract]
        generalize S.extract 1 S.size = U at *
        obtain ⟨T, hT⟩ : ∃ T : ByteArray, T = ⟨#[45]⟩ ++ Q ++ U := ⟨_, rfl⟩
        rw [← hT]
        have hTl : T.data.toList = [45] ++ List.replicate k 48 ++ U.data.toList := by rw [hT, ← HQL.out]; simp
        have hTs : T.size = 1 + k + U.size := by rw [hT, ByteArray.size_append, ByteArray.size_append, hQs]; rfl
        obtain ⟨d1, d2, d3⟩ := back_minus k SN.out HSL.out HU.out hTl
        clear hTl hT
        replace hA := hA.drew
        replace hB := hB.drew
        go_wp2_with fail
        refine (parse_any T _ (by omega)).mono ?_
        rintro e V7 ⟨v7, n7, r7, o7, rfl, ⟨sv7, rfl, hs7⟩, hb, hr7⟩
        obtain ⟨e1, e2, e3⟩ := parse_back SN.out d1 d2 d3 hr7
        subst e1; subst e2; subst e3
        clear d1 d2 d3 hr7 p0 p1 HK hk HKD hkd
        replace hB := hB.trans (hb.mono hB.size)
        replace hA := hA.step hb
        clear hb
        have HS7 := Lib.hid hs7
        obtain ⟨q1, ao7, cap7, rfl, q2, q3⟩ := hs7
        clear q1 q2 q3
        replace hA := hA.push (n := true) HS7.out
        replace hB := hB.alloc hB.size (.cells #[.bool true, .slice ao7 r7.length cap7] 24)
        have M3 := Lib.hid (List.mem_cons_self (a := (V7.heap.size, true, Value.slice ao7 r7.length cap7, r7)) (l := [(V5.heap.size, true, Value.slice ao5 r7.length cap5, r7), (w.heap.size, true, Value.slice a1 r7.length c1, r7)]))
        replace M1 := Lib.hid (List.mem_cons_of_mem (V7.heap.size, true, Value.slice ao7 r7.length cap7, r7) M1.out)
        replace M2 := Lib.hid (List.mem_cons_of_mem (V7.heap.size, true, Value.slice ao7 r7.length cap7, r7) M2.out)
        clear HS7
        obtain ⟨p0, p1⟩ := hA.cells M1.out
        obtain ⟨p2, p3⟩ := hA.cells M2.out
        go_wp2_with fail
        refine (same_any true true _ _ r7 r7 _ (hA.sl M2.out) (hA.sl M1.out)).mono ?_
        rintro e V8 ⟨rfl, hb⟩
        rw [sameB_true ⟨rfl, rfl⟩]
        replace hB := hB.trans (hb.mono hB.size)
        replace hA := hA.step hb
        clear hb p0 p1 p2 p3
        obtain ⟨p0, p1⟩ := hA.cells M1.out
        obtain ⟨p2, p3⟩ := hA.cells M3.out
        go_wp2_with fail
        refine (same_any true true _ _ r7 r7 _ (hA.sl M3.out) (hA.sl M1.out)).mono ?_
        rintro e V9 ⟨rfl, hb⟩
        rw [sameB_true ⟨rfl, rfl⟩]
        replace hB := hB.trans (hb.mono hB.size)
        clear hb p0 p1 p2 p3
        go_wp2
        go_ret
        exact ⟨rfl, hB⟩

/-- NumBack answers true, whatever it is given. -/
theorem back_any (n1 : Bool) (a1 : Option Addr) (c1 : Nat) (xs : List Nat) (z : Int) (w : World) (ht : Pow10 w)
    (hs1 : Sl .u32 w (.slice a1 xs.length c1) xs) (hx : ∀ i, limb xs i < 4294967296) (hz1 : 0 ≤ z) (hz2 : z ≤ 255) :
    Calls Tryd.prog 10 #[.agg #[.bool n1, .slice a1 xs.length c1], .int .u8 z] w (TrueP w) := by
  by_cases h : Snd n1 xs
  · obtain ⟨n, rfl⟩ := Int.eq_ofNat_of_zero_le hz1
    exact back_in n1 a1 c1 xs n w ht hs1 hx h (by omega)
  · exact back_out n1 a1 c1 xs z w ht hs1 hx h
end Go.Proofs.YtommakdomnaclaaDoor
