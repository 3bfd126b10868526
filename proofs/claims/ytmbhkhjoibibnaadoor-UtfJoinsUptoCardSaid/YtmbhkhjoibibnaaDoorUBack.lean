/- UtfBack, walked -/
import Derived.Test.YtmbhkhjoibibnaaDoorUBackMath
import Derived.Test.YtmbhkhjoibibnaaDoorUEncodes
import Derived.Deep.DeepCutAuto
namespace Go.Proofs.YtmbhkhjoibibnaaDoor
open Go.RowKit

theorem decA_cases {bs : List Nat} {cs : List Nat} {k e : Nat} (h : decA bs = (cs, k, e)) : (e = 0 ∧ k = 0 ∧ bs.length ≤ 65536 ∧ chars bs 0 = (cs, none)) ∨ (e ≠ 0 ∧ cs = []) := by
  unfold decA at h
  split at h
  · simp only [Prod.mk.injEq] at h; exact .inr ⟨by omega, h.1.symm⟩
  · split at h
    · rename_i ds hm
      simp only [Prod.mk.injEq] at h
      obtain ⟨rfl, rfl, rfl⟩ := h
      exact .inl ⟨rfl, rfl, by omega, hm⟩
    · simp only [Prod.mk.injEq] at h; exact .inr ⟨by omega, h.1.symm⟩
theorem chars_len {bs cs : List Nat} (h : chars bs 0 = (cs, none)) (hby : By bs) : cs.length ≤ bs.length := by
  obtain ⟨h1, _⟩ := enc_chars hby _ 0 cs (Nat.le_refl _) (Nat.zero_le _) h
  have : ∀ l : List Nat, l.length ≤ (encL l).length := by
    intro l
    induction l with
    | nil => simp
    | cons c l ih =>
      have e : encL (c :: l) = encN c ++ encL l := by simp [encL]
      rw [e, List.length_append, encN_len]
      have := blen_le c
      simp only [List.length_cons]
      omega
  have := this cs
  rw [h1] at this
  simpa using this

set_option maxRecDepth 100000 in
set_option maxHeartbeats 4000000 in
theorem back_any (sv tv : Value) (zs : List Int) (bs : List Nat) (w : World) (hs : SlV w sv (intCells zs)) (ht' : Sl .u8 w tv bs) (hby : By bs) (ht : Tabs w) (hr : bs.length ≤ 140737488351232) :
    Calls Tryd.prog 5 #[sv, tv] w (TruePost w) := by
  obtain ⟨i0, hi, hz0, hz1, hz2⟩ := info_parts infoInt
  obtain ⟨j0, hj, hy0, hy1, hy2⟩ := info_parts infoB
  have HS := Lib.hid hs
  have HB := Lib.hid ht'
  have HY := Lib.hid hby; clear hby
  have HT := Lib.hid ht; clear ht
  obtain ⟨hm, ao, cap, rfl, hcap, h⟩ := hs
  obtain ⟨hm2, ao2, cap2, rfl, hcap2, h2⟩ := ht'
  have hlen := intCells_len zs
  clear h hm h2 hm2
  rcases (by omega : 5000 < zs.length ∨ zs.length ≤ 5000) with hl | hl
  · have hd : decide ((5000 : Int) < ((intCells zs).length : Int)) = true := by simp; omega
    clear hl hlen
    go_enter Tryd.func5, Tryd.ntmps5
    go_wp2_with fail
    refine (answers_any _ HT.out).mono ?_
    rintro e w4 ⟨rfl, hb4⟩
    go_wp2_with fail
    refine (answers_any _ (HT.out.below hb4 (Nat.le_refl _))).mono ?_
    rintro e w5 ⟨rfl, hb5⟩
    go_wp2
    go_ret
    exact ⟨rfl, hb4.trans (hb5.mono hb4.size)⟩
  · have hd : decide ((5000 : Int) < ((intCells zs).length : Int)) = false := by simp; omega
    have hl5 : (intCells zs).length ≤ 5000 := by omega
    have HLEN := Lib.hid hlen; clear hlen
    go_enter Tryd.func5, Tryd.ntmps5
    go_wp2_with fail
    refine (answers_any _ HT.out).mono ?_
    rintro e w0 ⟨rfl, hb⟩
    have hb0 := hb.alloc hb.size (.cells #[] 3)
    have HO0 := Lib.hid (owns_empty w0 3)
    have HS0 := Lib.hid (HS.out.below hb0)
    have hsz0 := hb.size
    go_wp2_with (at_builtin; go_loud (refine wpList_append_slv rfl _ _ 23 rfl w0.heap.size 3 i0 (.int .i64 0) 8 Tryd.underlying23 hi hz0 hz1 hz2 rfl _ 0 [] rfl HO0.out _ (intCells zs) (intCells_one zs) rfl HS0.out (by unfold maxLen; omega) (by omega) (by simp) ?_); intro v' w1 hown1 hgrow)
    have hb1 := grown_own hgrow HO0.out hb0 hsz0 hb0.size
    have hs1 : SlV w1 v' (intCells zs) := owns_slv (base := w0.heap.size) (n := 0 + (intCells zs).length) (e := 3) hown1
    clear hown1 hgrow HO0 HS0 hb0 hb hsz0
    refine (encode_any v' zs w1 hs1 (by omega)).mono ?_
    rintro e w2 ⟨v2, rfl, hs2, hb2⟩
    replace hb2 := hb1.trans (hb2.mono hb1.size)
    have HS2 := Lib.hid hs2
    clear hs1 hs2 hb1
    have he1 := encA_err zs
    have HEA := Lib.hid (@encA_zero zs)
    obtain ⟨er, her⟩ : ∃ er, er = (encA zs).2 := ⟨_, rfl⟩
    rw [← her] at he1 ⊢
    have HER := Lib.hid her; clear her
    go_upto_if 31 with fail
    go_cut [7] (fun _ wx => Below w.heap.size w wx)
    case first =>
      rcases (by omega : er < 1 ∨ 1 ≤ er) with h0 | h0
      · obtain rfl : er = 0 := by omega
        obtain ⟨a1, a2, a3⟩ := HEA.out HER.out.symm
        rw [a1] at HS2
        have HSN := Lib.hid (nat_slv (HS.out.below hb2) a2)
        have hle := encL_len (zs.map Int.toNat)
        have hll : (zs.map Int.toNat).length = zs.length := by simp
        have HDA := Lib.hid (decA_ok (bs := encL (zs.map Int.toNat)) (by omega) (chars_enc _ a3))
        have HBY := Lib.hid (encL_by a3)
        clear a1 a2 a3 hle hll
        go_wp2_with fail
        refine (decode_any v2 _ w2 HS2.out HBY.out (HT.out.below hb2 (Nat.le_refl _))).mono ?_
        rintro e w3 ⟨v3, rfl, hs3, hb3⟩
        rw [HDA.out] at hs3 ⊢
        have HS3 := Lib.hid hs3
        replace HSN := Lib.hid (HSN.out.below hb3)
        replace hb3 := hb2.trans (hb3.mono hb2.size)
        clear hs3 hb2
        go_wp2_with fail
        refine (sameints_any _ _ _ _ _ HS3.out HSN.out).mono ?_
        rintro e w4 ⟨rfl, hb4⟩
        rw [sameL_true rfl]
        replace hb4 := hb3.trans (hb4.mono hb3.size)
        go_wp2_with fail
        go_meet
        exact hb4
      · have h1 : ((er : Int) == 0) = false := by rw [beq_eq_false_iff_ne]; omega
        go_wp2_with fail
        go_meet
        exact hb2
    case rest =>
      clear hb2 HS2 HEA HER he1
      have hb3 := hcut.alloc hcut.size (.cells #[] 5)
      have HO1 := Lib.hid (owns_empty wc 5)
      have HB1 := Lib.hid (HB.out.below hb3)
      have hsz1 := hcut.size
      go_wp2_with (at_builtin; go_loud (refine wpList_append_sl rfl _ _ 22 rfl wc.heap.size 5 j0 (.int .u8 0) 1 Tryd.underlying22 hj hy0 hy1 hy2 rfl _ 0 [] rfl HO1.out .u8 _ bs rfl HB1.out (by unfold maxLen; omega) (by omega) (by simp) ?_); intro v5 w3 hown1 hgrow)
      have hb4 := grown_own hgrow HO1.out hb3 hsz1 hb3.size
      have hs5 : Sl .u8 w3 v5 bs := owns_sl (base := wc.heap.size) (n := 0 + bs.length) (e := 5) hown1
      clear hown1 hgrow HO1 HB1 hb3 hcut hsz1
      refine (decode_any v5 bs w3 hs5 HY.out (HT.out.below hb4 (Nat.le_refl _))).mono ?_
      rintro e w4 ⟨v6, rfl, hs6, hb5⟩
      replace hb5 := hb4.trans (hb5.mono hb4.size)
      clear hb4 hs5
      obtain ⟨cs, k, er2, hA⟩ : ∃ cs k er2, decA bs = (cs, k, er2) := ⟨_, _, _, rfl⟩
      rw [hA] at hs6 ⊢
      rcases decA_cases hA with ⟨rfl, rfl, h65, hch⟩ | ⟨hne, rfl⟩
      · have hcl := chars_len hch HY.out
        obtain ⟨g1, g2⟩ := enc_chars HY.out _ 0 cs (Nat.le_refl _) (Nat.zero_le _) hch
        have HEN := Lib.hid (encA_nat g2)
        have HG1 := Lib.hid (show encL cs = bs from g1)
        have HS6 := Lib.hid (slv_nat hs6)
        obtain ⟨p1, ao6, cap6, rfl, p2, p3⟩ := hs6
        clear p1 p2 p3 g1 g2 hch hA
        go_wp2_with fail
        refine (encode_any _ (cs.map fun (x : Nat) => (x : Int)) w4 HS6.out (by rw [List.length_map]; omega)).mono ?_
        rintro e w5 ⟨v7, rfl, hs7, hb6⟩
        rw [HEN.out, HG1.out] at hs7
        rw [HEN.out]
        replace hb6 := hb5.trans (hb6.mono hb5.size)
        have k1 := conv_sl Tryd.underlying22 Tryd.underlying5 Tryd.underlying9 hs7
        have k2 := conv_sl Tryd.underlying22 Tryd.underlying5 Tryd.underlying9 (HB.out.below hb6)
        have HS7 := Lib.hid hs7
        clear hs7 hb5
        generalize strOf bs = S at *
        go_wp2
        go_ret
        exact ⟨rfl, hb6⟩
      · have h1 : ((er2 : Int) != 0) = true := by rw [bne_iff_ne]; omega
        obtain ⟨p1, ao6, cap6, rfl, p2, p3⟩ := hs6
        clear p1 p2 p3 hA hne
        go_wp2
        go_ret
        exact ⟨rfl, hb5⟩
end Go.Proofs.YtmbhkhjoibibnaaDoor
