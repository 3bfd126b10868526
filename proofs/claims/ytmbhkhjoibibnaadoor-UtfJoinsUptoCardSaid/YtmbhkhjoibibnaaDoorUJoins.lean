/- UtfJoins, walked -/
import Derived.Test.YtmbhkhjoibibnaaDoorUBack
import Derived.Test.YtmbhkhjoibibnaaDoorAppG
namespace Go.Proofs.YtmbhkhjoibibnaaDoor
open Go.RowKit

/-- Two texts, one behind the other. -/
theorem join_dec {a b : List Nat} {ca : List Nat} (ha : chars a 0 = (ca, none)) (hl : a.length + b.length ≤ 65536) :
    (∀ cb, chars b 0 = (cb, none) → decA (a ++ b) = (ca ++ cb, 0, 0)) ∧ (∀ cb k, chars b 0 = (cb, some k) → decA (a ++ b) = ([], a.length + k, 4)) := by
  have h := chars_app (a := a) b _ 0 ca (Nat.le_refl _) (Nat.zero_le _) ha
  have hlen : (a ++ b).length ≤ 65536 := by simp; omega
  refine ⟨fun cb hb => ?_, fun cb k hb => ?_⟩
  · rw [hb] at h
    exact decA_ok hlen h
  · rw [hb] at h
    exact decA_bad hlen (by rw [h]; rfl)

theorem decA_err {bs : List Nat} {cs : List Nat} {k e : Nat} (h : decA bs = (cs, k, e)) (hl : bs.length ≤ 65536) (he : e ≠ 0) : e = 4 ∧ cs = [] ∧ k ≤ bs.length ∧ ∃ ds, chars bs 0 = (ds, some k) := by
  unfold decA at h
  rw [if_neg (by omega)] at h
  split at h
  · simp only [Prod.mk.injEq] at h; omega
  · rename_i ds m hm
    simp only [Prod.mk.injEq] at h
    obtain ⟨rfl, rfl, rfl⟩ := h
    have := chars_some (bs := bs) (k := m) _ 0 (Nat.le_refl _) (by rw [hm])
    exact ⟨rfl, rfl, by omega, ds, hm⟩

set_option maxRecDepth 100000 in
set_option maxHeartbeats 4000000 in
theorem joins_any (sv tv : Value) (xs bs : List Nat) (w : World) (hs : Sl .u8 w sv xs) (ht' : Sl .u8 w tv bs) (hay : By xs) (hby : By bs) (ht : Tabs w) (hra : xs.length ≤ 1048576) (hrb : bs.length ≤ 1048576) :
    Calls Tryd.prog 8 #[sv, tv] w (TruePost w) := by
  obtain ⟨i0, hi, hz0, hz1, hz2⟩ := info_parts infoInt
  obtain ⟨j0, hj, hy0, hy1, hy2⟩ := info_parts infoB
  have HA := Lib.hid hs
  have HB := Lib.hid ht'
  have AY := Lib.hid hay; clear hay
  have BY := Lib.hid hby; clear hby
  have HT := Lib.hid ht; clear ht
  obtain ⟨hm, ao, cap, rfl, hcap, h⟩ := hs
  obtain ⟨hm2, ao2, cap2, rfl, hcap2, h2⟩ := ht'
  clear h hm h2 hm2
  have hb0 := below1 w (.cells #[] 5)
  have HO0 := Lib.hid (owns_empty w 5)
  have HA0 := Lib.hid (HA.out.below hb0)
  go_enter Tryd.func8, Tryd.ntmps8
  go_wp2_with (at_builtin; go_loud (refine wpList_append_sl rfl _ _ 22 rfl w.heap.size 5 j0 (.int .u8 0) 1 Tryd.underlying22 hj hy0 hy1 hy2 rfl _ 0 [] rfl HO0.out .u8 _ xs rfl HA0.out (by unfold maxLen; omega) (by omega) (by simp) ?_); intro v1 w1 hown1 hgrow)
  have hb1 := grown_own hgrow HO0.out hb0 (Nat.le_refl _) hb0.size
  have hs1 : Sl .u8 w1 v1 xs := owns_sl (base := w.heap.size) (n := 0 + xs.length) (e := 5) hown1
  clear hown1 hgrow HO0 HA0 hb0
  refine (decode_any v1 xs w1 hs1 AY.out (HT.out.below hb1 (Nat.le_refl _))).mono ?_
  rintro e w2 ⟨x, rfl, hx, hb2⟩
  replace hb2 := hb1.trans (hb2.mono hb1.size)
  clear hb1 hs1
  obtain ⟨ca, ka, ea, hA⟩ : ∃ cs k er, decA xs = (cs, k, er) := ⟨_, _, _, rfl⟩
  rw [hA] at hx ⊢
  have HX := Lib.hid hx; clear hx
  have hea := decA_e hA
  have HDA := Lib.hid hA; clear hA
  have hb3 := hb2.alloc hb2.size (.cells #[] 5)
  have HO1 := Lib.hid (owns_empty w2 5)
  have HB1 := Lib.hid (HB.out.below hb3)
  have hsz2 := hb2.size
  go_wp2_with (at_builtin; go_loud (refine wpList_append_sl rfl _ _ 22 rfl w2.heap.size 5 j0 (.int .u8 0) 1 Tryd.underlying22 hj hy0 hy1 hy2 rfl _ 0 [] rfl HO1.out .u8 _ bs rfl HB1.out (by unfold maxLen; omega) (by omega) (by simp) ?_); intro v3 w3 hown1 hgrow)
  have hgb := grown_own hgrow HO1.out (below1 w2 _) (Nat.le_refl _) (below1 w2 _).size
  have hb4 := grown_own hgrow HO1.out hb3 hsz2 hb3.size
  have hs3 : Sl .u8 w3 v3 bs := owns_sl (base := w2.heap.size) (n := 0 + bs.length) (e := 5) hown1
  replace HX := Lib.hid (HX.out.below hgb)
  clear hown1 hgrow HO1 HB1 hb3 hb2 hsz2 hgb
  refine (decode_any v3 bs w3 hs3 BY.out (HT.out.below hb4 (Nat.le_refl _))).mono ?_
  rintro e w4 ⟨y, rfl, hy, hb5⟩
  replace HX := Lib.hid (HX.out.below hb5)
  replace hb5 := hb4.trans (hb5.mono hb4.size)
  clear hb4 hs3
  obtain ⟨cb, kb, eb, hB⟩ : ∃ cs k er, decA bs = (cs, k, er) := ⟨_, _, _, rfl⟩
  rw [hB] at hy ⊢
  have HYY := Lib.hid hy; clear hy
  have heb := decA_e hB
  have HDB := Lib.hid hB; clear hB
  have hb6 := hb5.alloc hb5.size (.cells #[] 5)
  have HO2 := Lib.hid (owns_empty w4 5)
  have HA2 := Lib.hid (HA.out.below hb6)
  have hsz4 := hb5.size
  go_wp2_with (first
    | (at_builtin; refine wpList_append_sl rfl (.tmp 31) (.tmp 32) 22 rfl w4.heap.size 5 j0 (.int .u8 0) 1 Tryd.underlying22 hj hy0 hy1 hy2 rfl _ 0 [] rfl HO2.out .u8 _ xs rfl HA2.out (by unfold maxLen; omega) (by omega) (by simp) ?_; intro v5 w5 hown1 hgrow; have hb7 := grown_own hgrow HO2.out hb6 hsz4 hb6.size; have hgb := grown_own hgrow HO2.out (below1 w4 _) (Nat.le_refl _) (below1 w4 _).size; have HO3 := Lib.hid hown1; have HB3 := Lib.hid (HB.out.below hb7); have hsz7 : w4.heap.size ≤ w5.heap.size := hgb.size; clear hown1 hgrow HO2 HA2 hb6 hsz4)
    | (at_builtin; refine wpList_append_sl rfl (.tmp 33) (.tmp 34) 22 rfl w4.heap.size 5 j0 (.int .u8 0) 1 Tryd.underlying22 hj hy0 hy1 hy2 rfl _ (0 + xs.length) _ rfl HO3.out .u8 _ bs rfl HB3.out (by unfold maxLen; omega) (by omega) hsz7 ?_; intro v6 w6 hown2 hgrow2; have hb8 := grown_own hgrow2 HO3.out hb7 (hb5.size) hb7.size; have hgb2 := grown_own hgrow2 HO3.out hgb (Nat.le_refl _) hsz7))
  replace HX := Lib.hid (HX.out.below hgb2)
  replace HYY := Lib.hid (HYY.out.below hgb2)
  have hs6 : Sl .u8 w6 v6 (xs ++ bs) := by
    have e1 : [] ++ cellsOf .u8 xs ++ cellsOf .u8 bs = cellsOf .u8 (xs ++ bs) := by rw [cellsOf_append]; rfl
    rw [e1] at hown2
    exact owns_sl (base := w4.heap.size) (n := 0 + xs.length + bs.length) (e := 5) hown2
  clear hown2 hgrow2 hgb2 hgb hb7 HO3 HB3 hsz7 hb5
  refine (decode_any v6 (xs ++ bs) w6 hs6 (AY.out.app BY.out) (HT.out.below hb8 (Nat.le_refl _))).mono ?_
  rintro e w7 ⟨z, rfl, hz, hb9⟩
  replace HX := Lib.hid (HX.out.below hb9)
  replace HYY := Lib.hid (HYY.out.below hb9)
  replace hb9 := hb8.trans (hb9.mono hb8.size)
  clear hb8 hs6
  obtain ⟨cz, kz, ez, hC⟩ : ∃ cs k er, decA (xs ++ bs) = (cs, k, er) := ⟨_, _, _, rfl⟩
  rw [hC] at hz ⊢
  have HZ := Lib.hid hz; clear hz
  have HDC := Lib.hid hC; clear hC
  go_wp2_with fail
  refine (answers_any _ (HT.out.below hb9 (Nat.le_refl _))).mono ?_
  rintro e w8 ⟨rfl, hb10⟩
  replace HX := Lib.hid (HX.out.below hb10)
  replace HYY := Lib.hid (HYY.out.below hb10)
  replace HZ := Lib.hid (HZ.out.below hb10)
  replace hb10 := hb9.trans (hb10.mono hb9.size)
  clear hb9
  rcases (by omega : 1 ≤ ea ∨ ea < 1) with h0 | h0
  · have hne : ((ea : Int) != 0) = true := by rw [bne_iff_ne]; omega
    go_wp2_with fail
    refine (answers_any _ (HT.out.below hb10 (Nat.le_refl _))).mono ?_
    rintro e w9 ⟨rfl, hb11⟩
    go_wp2
    go_ret
    exact ⟨rfl, hb10.trans (hb11.mono hb10.size)⟩
  · obtain rfl : ea = 0 := by omega
    rcases (by omega : 65536 < xs.length + bs.length ∨ xs.length + bs.length ≤ 65536) with hl | hl
    · have hd : decide ((65536 : Int) < (xs.length : Int) + (bs.length : Int)) = true := by rw [decide_eq_true_iff]; omega
      clear hl
      go_wp2_with fail
      refine (answers_any _ (HT.out.below hb10 (Nat.le_refl _))).mono ?_
      rintro e w9 ⟨rfl, hb11⟩
      go_wp2
      go_ret
      exact ⟨rfl, hb10.trans (hb11.mono hb10.size)⟩
    · have hd : decide ((65536 : Int) < (xs.length : Int) + (bs.length : Int)) = false := by rw [decide_eq_false_iff_not]; omega
      have hca : chars xs 0 = (ca, none) := by
        rcases decA_cases HDA.out with ⟨_, _, _, h⟩ | ⟨h, _⟩
        · exact h
        · exact absurd rfl h
      obtain ⟨j1, j2⟩ := join_dec hca hl
      have J1 := Lib.hid j1
      have J2 := Lib.hid j2
      have hla := chars_len hca AY.out
      clear j1 j2 hca h0
      rcases (by omega : 1 ≤ eb ∨ eb < 1) with h1 | h1
      · obtain ⟨rfl, rfl, hkb, ds, hds⟩ := decA_err HDB.out (by omega) (by omega)
        have hj := J2.out ds kb hds
        rw [HDC.out] at hj
        simp only [Prod.mk.injEq] at hj
        obtain ⟨rfl, rfl, rfl⟩ := hj
        obtain ⟨p1, zo, zc, rfl, p2, p3⟩ := HZ.out
        have hkk : (((xs.length + kb : Nat) : Int) == (xs.length : Int) + (kb : Int)) = true := by rw [beq_iff_eq]; omega
        clear p1 p2 p3 hds h1 heb hea
        go_wp2
        go_ret
        exact ⟨rfl, hb10⟩
      · obtain rfl : eb = 0 := by omega
        have hcb : chars bs 0 = (cb, none) := by
          rcases decA_cases HDB.out with ⟨_, _, _, h⟩ | ⟨h, _⟩
          · exact h
          · exact absurd rfl h
        have hlb := chars_len hcb BY.out
        have hj := J1.out cb hcb
        rw [HDC.out] at hj
        simp only [Prod.mk.injEq] at hj
        obtain ⟨rfl, rfl, rfl⟩ := hj
        have hb11 := hb10.alloc hb10.size (.cells #[] 3)
        have HO4 := Lib.hid (owns_empty w8 3)
        have HX2 := Lib.hid (HX.out.below (below1 w8 (.cells #[] 3)))
        have hsz8 := hb10.size
        clear hcb h1 heb hea
        go_wp2_with (first
          | (at_builtin; refine wpList_append_slg rfl (.tmp 77) (.tmp 78) 23 rfl w8.heap.size 3 i0 (.int .i64 0) 8 Tryd.underlying23 hi hz0 hz1 hz2 rfl _ 0 [] rfl HO4.out .i64 _ ca rfl HX2.out (by unfold maxLen; omega) (by omega) (by simp) ?_; intro v9 w9 hown1 hgrow; have hgb := grown_own hgrow HO4.out (below1 w8 _) (Nat.le_refl _) (below1 w8 _).size; have HO5 := Lib.hid hown1; have HY5 := Lib.hid (HYY.out.below hgb); have hsz9 : w8.heap.size ≤ w9.heap.size := hgb.size; clear hown1 hgrow HO4 HX2 hb11)
          | (at_builtin; refine wpList_append_slg rfl (.tmp 79) (.tmp 80) 23 rfl w8.heap.size 3 i0 (.int .i64 0) 8 Tryd.underlying23 hi hz0 hz1 hz2 rfl _ (0 + ca.length) _ rfl HO5.out .i64 _ cb rfl HY5.out (by unfold maxLen; omega) (by omega) hsz9 ?_; intro v10 w10 hown2 hgrow2; have hgb2 := grown_own hgrow2 HO5.out hgb (Nat.le_refl _) hsz9))
        have hs11 : Sl .i64 w10 v10 (ca ++ cb) := by
          have e1 : [] ++ cellsOf .i64 ca ++ cellsOf .i64 cb = cellsOf .i64 (ca ++ cb) := by rw [cellsOf_append]; rfl
          rw [e1] at hown2
          exact owns_sl (base := w8.heap.size) (n := 0 + ca.length + cb.length) (e := 3) hown2
        refine (sameints_any _ _ (ca ++ cb) (ca ++ cb) _ (HZ.out.below hgb2) hs11).mono ?_
        rintro e w11 ⟨rfl, hb12⟩
        rw [sameL_true rfl]
        have hb13 := (hb10.trans (hgb2.mono hb10.size))
        clear hown2 hgrow2
        go_wp2
        go_ret
        exact ⟨rfl, hb13.trans (hb12.mono hb13.size)⟩
end Go.Proofs.YtmbhkhjoibibnaaDoor
