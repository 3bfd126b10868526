/- UtfDecodes, walked -/
import Derived.Test.YtmbhkhjoibibnaaDoorUChars
import Derived.Test.YtmbhkhjoibibnaaDoorUAns
import Derived.Test.YtmbhkhjoibibnaaDoorUSame
import Derived.Test.YtmbhkhjoibibnaaDoorApp
import Derived.Test.YtmbhkhjoibibnaaDoorUMath2
namespace Go.Proofs.YtmbhkhjoibibnaaDoor
open Go.RowKit

/-- An empty row of one's own. -/
theorem owns_empty (w : World) (e : TypeId) : (w.alloc (.cells #[] e)).ownsRow w.heap.size e 1 (.slice (some ⟨w.heap.size, 0, none⟩) 0 0) 0 [] := by
  have := World.ownsRow_made (base := w.heap.size) (e := e) (size := 1) w #[] 0 (by simp) (by simp) (by simp)
  simpa using this
theorem grown_own {w w1 : World} {v : Value} {base n : Nat} {e : TypeId} {ys : List Value} (hg : w.grownBy w1 v.ownBlock) (ho : w.ownsRow base e 1 v n ys) {B : Nat} {w0 : World} (hb : Below B w0 w) (hB : B ≤ base) (hs : B ≤ w.heap.size) : Below B w0 w1 :=
  hb.grown hg hs fun k hk => Nat.le_trans hB (ho.lt k hk).1

theorem decA_four {bs : List Nat} {cs : List Nat} {k e : Nat} (h : decA bs = (cs, k, e)) (he : e = 4) : k < bs.length ∧ bs.length ≤ 65536 ∧ cs = [] ∧ ∃ ds, chars (bs.take k) 0 = (ds, none) := by
  unfold decA at h
  split at h
  · simp only [Prod.mk.injEq] at h; omega
  · split at h
    · simp only [Prod.mk.injEq] at h; omega
    · rename_i ds m hm
      simp only [Prod.mk.injEq] at h
      obtain ⟨h1, rfl, _⟩ := h
      have h2 : (chars bs 0).2 = some m := by rw [hm]
      obtain ⟨_, h3, _⟩ := chars_some _ 0 (Nat.le_refl _) h2
      exact ⟨h3, by omega, h1.symm, _, chars_take _ 0 (Nat.le_refl _) h2⟩
theorem decA_not {bs : List Nat} {cs : List Nat} {k e : Nat} (h : decA bs = (cs, k, e)) (he : e ≠ 4) : k = 0 := by
  unfold decA at h
  split at h
  · simp only [Prod.mk.injEq] at h; omega
  · split at h
    · simp only [Prod.mk.injEq] at h; omega
    · simp only [Prod.mk.injEq] at h; omega
theorem decA_e {bs : List Nat} {cs : List Nat} {k e : Nat} (h : decA bs = (cs, k, e)) : e ≤ 6 := by
  unfold decA at h
  split at h
  · simp only [Prod.mk.injEq] at h; omega
  · split at h
    · simp only [Prod.mk.injEq] at h; omega
    · simp only [Prod.mk.injEq] at h; omega
theorem Sl.cut {k : IntKind} {w : World} {b off cap n : Nat} {xs : List Nat} (h : Sl k w (.slice (some ⟨b, off, none⟩) xs.length cap) xs) (hn : n ≤ xs.length) (cap' : Nat) (hc : n ≤ cap') : Sl k w (.slice (some ⟨b, off, none⟩) n cap') (xs.take n) := by
  obtain ⟨hm, ao, c, hv, _, h⟩ := h
  simp only [Value.slice.injEq, true_and] at hv
  obtain ⟨rfl, rfl⟩ := hv
  have e : (xs.take n).length = n := by simp; omega
  refine ⟨by omega, _, _, by rw [e], by omega, ?_⟩
  rcases h with ⟨rfl, hz⟩ | ⟨b', off', he, hb, hcell⟩
  · exact .inl ⟨by simp, fun h => by cases h⟩
  · refine .inr ⟨b', off', he, hb, fun j hj => ?_⟩
    rw [hcell j (by omega)]
    simp [limb, show j < n by omega]

/-- What a law comes to. -/
def TruePost (w : World) (e : Ending) (w' : World) : Prop := e = .returned (.bool true) ∧ Below w.heap.size w w'

set_option maxRecDepth 100000 in
set_option maxHeartbeats 4000000 in
theorem decodes_any (sv : Value) (bs : List Nat) (w : World) (hs : Sl .u8 w sv bs) (hby : By bs) (ht : Tabs w) (hr : bs.length ≤ 140737488351232) :
    Calls Tryd.prog 3 #[sv] w (TruePost w) := by
  obtain ⟨i0, hi, hz0, hz1, hz2⟩ := info_parts infoB
  have HS := Lib.hid hs
  have HY := Lib.hid hby; clear hby
  have HT := Lib.hid ht; clear ht
  have HR := Lib.hid hr
  obtain ⟨hm, ao, cap, rfl, hcap, h⟩ := hs
  clear h hm
  have hown0 := owns_empty w 5
  have hb0 := below1 w (.cells #[] 5)
  have HO0 := Lib.hid hown0; clear hown0
  have HS0 := Lib.hid (HS.out.below hb0)
  go_enter Tryd.func3, Tryd.ntmps3
  go_wp2_with (at_builtin; go_loud (refine wpList_append_sl rfl _ _ 22 rfl w.heap.size 5 i0 (.int .u8 0) 1 Tryd.underlying22 hi hz0 hz1 hz2 rfl _ 0 [] rfl HO0.out .u8 _ bs rfl HS0.out (by unfold maxLen; omega) (by omega) (by simp) ?_); intro v' w1 hown1 hgrow)
  have hb1 := grown_own hgrow HO0.out hb0 (Nat.le_refl _) hb0.size
  have hs1 : Sl .u8 w1 v' bs := owns_sl (base := w.heap.size) (n := 0 + bs.length) (e := 5) hown1
  have HS1 := Lib.hid (HS.out.below hb1)
  clear hown1 hgrow HO0 HS0 hb0
  refine (decode_any v' bs w1 hs1 HY.out (HT.out.below hb1 (Nat.le_refl _))).mono ?_
  rintro e w2 ⟨v2, rfl, hs2, hb2⟩
  replace hb2 := hb1.trans (hb2.mono hb1.size)
  obtain ⟨cs, k, er, hA⟩ : ∃ cs k er, decA bs = (cs, k, er) := ⟨_, _, _, rfl⟩
  rw [hA] at hs2 ⊢
  have HS2 := Lib.hid hs2
  have HS3 := Lib.hid (HS.out.below hb2)
  clear hs1 hs2 hb1 HS1
  go_wp2_with fail
  refine (rdecode_any _ bs w2 HS3.out HY.out).mono ?_
  rintro e w3 ⟨v3, rfl, hs3, hb3⟩
  replace HS2 := Lib.hid (HS2.out.below hb3)
  replace hb3 := hb2.trans (hb3.mono hb2.size)
  rw [hA] at hs3 ⊢
  have HS4 := Lib.hid hs3
  clear hs3 hb2 HS3
  have HA := Lib.hid hA
  have he6 := decA_e hA
  clear hA
  go_wp2_with fail
  refine (answers_any _ (HT.out.below hb3 (Nat.le_refl _))).mono ?_
  rintro e w4 ⟨rfl, hb4⟩
  replace HS2 := Lib.hid (HS2.out.below hb4)
  replace HS4 := Lib.hid (HS4.out.below hb4)
  replace hb4 := hb3.trans (hb4.mono hb3.size)
  clear hb3
  go_wp2_with fail
  refine (sameints_any _ _ cs cs _ HS2.out HS4.out).mono ?_
  rintro e w5 ⟨rfl, hb5⟩
  rw [sameL_true rfl]
  replace hb5 := hb4.trans (hb5.mono hb4.size)
  clear hb4 HS2 HS4
  have hk1 : ((k : Int) != (k : Int)) = false := by simp
  have hk2 : ((er : Int) != (er : Int)) = false := by simp
  by_cases h4 : er = 4
  · obtain ⟨q1, q2, q3, ds, q4⟩ := decA_four HA.out h4
    subst h4
    obtain ⟨hm, ao', cap', hv, hcap', hh⟩ := HS.out
    simp only [Value.slice.injEq, true_and] at hv
    obtain ⟨rfl, rfl⟩ := hv
    rcases hh with ⟨hh, _⟩ | ⟨b, off, rfl, _, _⟩
    · rw [hh] at q1; simp at q1
    have HD := Lib.hid q4
    clear q4
    have hkc : k ≤ cap := by omega
    have HO0 := Lib.hid (owns_empty w5 5)
    have hb6 := below1 w5 (.cells #[] 5)
    have HT5 := Lib.hid ((HS.out.below hb5).cut (n := k) (by omega) cap hkc)
    have hlt : (bs.take k).length = k := by simp; omega
    have HT6 := Lib.hid (HT5.out.below hb6)
    have HLT := Lib.hid hlt
    clear hlt hm
    go_wp2_with (at_builtin; go_loud (refine wpList_append_sl rfl _ _ 22 rfl w5.heap.size 5 i0 (.int .u8 0) 1 Tryd.underlying22 hi hz0 hz1 hz2 rfl _ 0 [] rfl HO0.out .u8 _ (bs.take k) rfl HT6.out (by rw [HLT.out]; unfold maxLen; omega) (by rw [HLT.out]; omega) (by simp) ?_); intro v' w6 hown1 hgrow)
    have hb7 := grown_own hgrow HO0.out hb6 (Nat.le_refl _) hb6.size
    have hs7 : Sl .u8 w6 v' (bs.take k) := owns_sl (base := w5.heap.size) (n := 0 + (bs.take k).length) (e := 5) hown1
    have HT7 := Lib.hid (HT5.out.below hb7)
    have hb8 := hb5.trans (hb7.mono hb5.size)
    clear hown1 hgrow HO0 HT6 HT5 hb6 hb5 hb7
    have hdec : decA (bs.take k) = (ds, 0, 0) := decA_ok (by rw [HLT.out]; omega) HD.out
    have hcha : chA (bs.take k) = (ds, -1) := chA_ok HD.out
    have HDE := Lib.hid hdec
    have HCA := Lib.hid hcha
    clear hdec hcha
    refine (decode_any v' (bs.take k) w6 hs7 (HY.out.take k) (HT.out.below hb8 (Nat.le_refl _))).mono ?_
    rintro e w7 ⟨v7, rfl, hs8, hb9⟩
    rw [HDE.out] at hs8 ⊢
    have HS8 := Lib.hid hs8
    replace HT7 := Lib.hid (HT7.out.below hb9)
    replace hb9 := hb8.trans (hb9.mono hb8.size)
    clear hs7 hs8 hb8
    go_wp2_with fail
    refine (rchars_any (.slice (some ⟨b, off, none⟩) k cap) (bs.take k) w7 HT7.out (HY.out.take k) (by rw [HLT.out]; omega)).mono ?_
    rintro e w8 ⟨v8, rfl, hs9, hb10⟩
    rw [HCA.out] at hs9 ⊢
    have HS9 := Lib.hid hs9
    replace HS8 := Lib.hid (HS8.out.below hb10)
    replace hb10 := hb9.trans (hb10.mono hb9.size)
    clear hs9 hb9
    go_wp2_with fail
    refine (sameints_any _ _ ds ds _ HS8.out HS9.out).mono ?_
    rintro e w9 ⟨rfl, hb11⟩
    rw [sameL_true rfl]
    replace hb11 := hb10.trans (hb11.mono hb10.size)
    go_wp2
    go_ret
    exact ⟨rfl, hb11⟩
  · obtain rfl : k = 0 := decA_not HA.out h4
    have h5 : ((er : Int) != 4) = true := by rw [bne_iff_ne]; omega
    clear h4
    go_wp2
    go_ret
    exact ⟨rfl, hb5⟩
end Go.Proofs.YtmbhkhjoibibnaaDoor
