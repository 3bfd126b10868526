/- The document's Join. -/
import Derived.Test.YtbfcbicbeagjkaaGreatDoorWpRSnd
import Derived.Test.YtbfcbicbeagjkaaGreatDoorWpCat
namespace Go.Proofs.YtbfcbicbeagjkaaGreatDoor
open Go.RowKit

/-- Not in the old blocks. -/
def Nw (B : Nat) (v : Value) : Prop := ∀ b, v.ownBlock = some b → B ≤ b
theorem Nw.nil (B : Nat) : Nw B (.slice none 0 0) := fun b h => by cases h
def RJPostP (w : World) (r : List Int × List Int × Int) : Ending → World → Prop := fun e w' => (∃ a b, e = .returned (.tuple #[a, b, .int .i64 r.2.2]) ∧ Iz w' a r.1 ∧ Iz w' b r.2.1 ∧ Nw w.heap.size a ∧ Nw w.heap.size b) ∧ Below w.heap.size w w'
theorem own_empty (w : World) (B : Nat) (hB : B ≤ w.heap.size) : (w.alloc (.cells #[] 3)).ownsRow B 3 1 (.slice (some ⟨w.heap.size, 0, none⟩) 0 0) 0 [] :=
  ⟨rfl, .inr ⟨w.heap.size, 0, #[], rfl, hB, heap_alloc_new w _, Nat.le_refl _, Nat.zero_le _, rfl, rfl⟩⟩
theorem Iz.row' {w : World} {v : Value} {zs : List Int} {k : Nat} (h : Iz w v zs) (hk : k = zs.length) : RowV w v k 1 (ic zs) := by subst hk; exact h

set_option maxRecDepth 100000 in
set_option maxHeartbeats 8000000 in
theorem rjoinP_any (mv sv nv tv : Value) (m s n t : List Int) (w : World) (hm : Iz w mv m) (hs : Iz w sv s) (hn : Iz w nv n) (ht : Iz w tv t) :
    Calls Tryz.prog 66 #[mv, sv, nv, tv] w (RJPostP w (wjA m s n t)) := by
  obtain ⟨i0, hi, hz0, hz1, hz2⟩ := info_parts infoIntW
  have HI := Lib.hid (And.intro hi (And.intro hz0 (And.intro hz1 hz2)))
  clear hi hz0 hz1 hz2
  have HM := Lib.hid hm
  have HS := Lib.hid hs
  have HN := Lib.hid hn
  have HT := Lib.hid ht
  obtain ⟨hml, ma, mc, rfl, hmc, hmr⟩ := hm.read
  obtain ⟨hsl, sa, sc, rfl, hsc, hsr⟩ := hs.read
  obtain ⟨hnl, na, nc, rfl, hnc, hnr⟩ := hn.read
  obtain ⟨htl, ta, tc, rfl, htc, htr⟩ := ht.read
  clear hm hs hn ht
  obtain ⟨ml, hml'⟩ : ∃ k, k = m.length := ⟨_, rfl⟩
  obtain ⟨sl, hsl'⟩ : ∃ k, k = s.length := ⟨_, rfl⟩
  obtain ⟨nl, hnl'⟩ : ∃ k, k = n.length := ⟨_, rfl⟩
  obtain ⟨tl, htl'⟩ : ∃ k, k = t.length := ⟨_, rfl⟩
  rw [← hml'] at HM hml hmc hmr ⊢
  rw [← hsl'] at HS hsl hsc hsr ⊢
  rw [← hnl'] at HN hnl hnc hnr ⊢
  rw [← htl'] at HT htl htc htr ⊢
  unfold maxLen at hml hsl hnl htl
  have HML := Lib.hid hml'
  have HSL := Lib.hid hsl'
  have HNL := Lib.hid hnl'
  have HTL := Lib.hid htl'
  have HMR := Lib.hid hmr
  have HSR := Lib.hid hsr
  have HNR := Lib.hid hnr
  have HTR := Lib.hid htr
  clear hml' hsl' hnl' htl' hmr hsr hnr htr
  cases h1 : sndW m s with
  | false =>
    have HV : Hid (wjA m s n t = ([], [], 2)) := Lib.hid (joinA_bad (by rw [h1]; rfl))
    go_enter Tryz.func66, Tryz.ntmps66
    go_wp2_with fail
    refine (wrsound_any _ _ m s w HM.out HS.out).mono ?_
    rintro e w2 ⟨rfl, rfl⟩
    rw [h1]
    go_wp2_with fail
    refine bodyPost_ret (v := .tuple #[.slice none 0 0, .slice none 0 0, .int .i64 2]) (by simp [results, Tryz.results66, go_sem]) rfl ?_
    rw [HV.out]
    exact ⟨⟨_, _, rfl, Iz.nil _, Iz.nil _, Nw.nil _, Nw.nil _⟩, Below.refl _ _⟩
  | true =>
    cases h2 : sndW n t with
    | false =>
      have HV : Hid (wjA m s n t = ([], [], 2)) := Lib.hid (joinA_bad (by rw [h2, Bool.and_false]))
      go_enter Tryz.func66, Tryz.ntmps66
      go_wp2_with fail
      refine (wrsound_any _ _ m s w HM.out HS.out).mono ?_
      rintro e w2 ⟨rfl, rfl⟩
      rw [h1]
      go_wp2_with fail
      refine (wrsound_any _ _ n t w HN.out HT.out).mono ?_
      rintro e w2 ⟨rfl, rfl⟩
      rw [h2]
      go_wp2_with fail
      refine bodyPost_ret (v := .tuple #[.slice none 0 0, .slice none 0 0, .int .i64 2]) (by simp [results, Tryz.results66, go_sem]) rfl ?_
      rw [HV.out]
      exact ⟨⟨_, _, rfl, Iz.nil _, Iz.nil _, Nw.nil _, Nw.nil _⟩, Below.refl _ _⟩
    | true =>
      have hl1 := sndW_len h1
      have hl2 := sndW_len h2
      have hl3 := sndS_le (sndW_snd h1)
      have hl4 := sndS_le (sndW_snd h2)
      rw [← HML.out, ← HSL.out] at hl1 hl3
      rw [← HNL.out, ← HTL.out] at hl2 hl4
      obtain ⟨hl11, hl12⟩ := hl1
      obtain ⟨hl21, hl22⟩ := hl2
      have HS1 := Lib.hid h1
      have HS2 := Lib.hid h2
      clear h1 h2
      have hcase : (endB m s && begB n t) = false ∧ (ml = 0 ∨ (0 < ml ∧ nl = 0) ∨ (0 < ml ∧ 0 < nl ∧ ((gz n 0 == -1) = false ∨ ((gz n 0 == -1) = true ∧ (gz m (ml - 1) != -1) = false) ∨ ((gz n 0 == -1) = true ∧ (gz m (ml - 1) != -1) = true ∧ (gz s (sl - 1) == 0) = false) ∨ ((gz n 0 == -1) = true ∧ (gz m (ml - 1) != -1) = true ∧ (gz s (sl - 1) == 0) = true ∧ (gz t 0 == 0) = false)))) ∨ (endB m s && begB n t) = true ∧ 0 < ml ∧ 0 < nl ∧ (gz n 0 == -1) = true ∧ (gz m (ml - 1) != -1) = true ∧ (gz s (sl - 1) == 0) = true ∧ (gz t 0 == 0) = true := by
        have hx := hl3
        unfold endB begB
        rw [← HML.out, ← HSL.out, ← HNL.out]
        by_cases k1 : ml = 0
        · left; rw [decide_eq_false (by omega)]; exact ⟨rfl, .inl k1⟩
        by_cases k2 : nl = 0
        · left; rw [decide_eq_false (show ¬ 0 < nl by omega), Bool.false_and, Bool.and_false]; exact ⟨rfl, .inr (.inl ⟨by omega, k2⟩)⟩
        rw [decide_eq_true (show 0 < ml by omega), decide_eq_true (show 0 < nl by omega)]
        have e1 : ∀ a b : Int, (a == b) = decide (a = b) := fun a b => by by_cases h : a = b <;> simp [h]
        have e2 : ∀ a b : Int, (a != b) = !decide (a = b) := fun a b => by by_cases h : a = b <;> simp [h]
        simp only [e1, e2]
        have hp : 0 < ml := by omega
        have hq : 0 < nl := by omega
        by_cases k3 : gz n 0 = -1
        · by_cases k4 : gz m (ml - 1) = -1
          · left; simp [k3, k4, hp, hq]
          · by_cases k5 : gz s (sl - 1) = 0
            · by_cases k6 : gz t 0 = 0
              · right; simp [k3, k4, k5, k6, hp, hq]
              · left; simp [k3, k4, k5, k6, hp, hq]
            · left; simp [k3, k4, k5, hp, hq]
        · left; simp [k3, hp, hq]
      rcases hcase with ⟨he, hc⟩ | ⟨he, hp, hq, hg1, hg2, hg3, hg4⟩
      · have HE := Lib.hid he
        clear he
        rcases hc with h0 | ⟨hp, h0⟩ | ⟨hp, hq, hg⟩
        · subst h0
          have c1 := True.intro
          have c2 := c1
          have c3 := c1
          have c4 := c1
          obtain ⟨hi, hz0, hz1, hz2⟩ := HI.out
          have HJ : Hid (wjA m s n t = closeA (m ++ n, s ++ t)) := Lib.hid (by rw [joinA_ok HS1.out HS2.out, HE.out]; rfl)
          have HO0 := Lib.hid (own_empty w w.heap.size (Nat.le_refl _))
          have HB0 := Lib.hid (below1 w (.cells #[] 3))
          go_enter Tryz.func66, Tryz.ntmps66
          go_wp2_with fail
          refine (wrsound_any _ _ m s w HM.out HS.out).mono ?_
          rintro e w2 ⟨rfl, rfl⟩
          rw [HS1.out]
          go_wp2_with fail
          refine (wrsound_any _ _ n t w HN.out HT.out).mono ?_
          rintro e w2 ⟨rfl, rfl⟩
          rw [HS2.out]
          go_upto_region 10 with fail
          clear c1 c2 c3 c4
          go_upto_region 11 with (first | (at_builtin; (refine wpList_append_row _ rfl _ _ 28 rfl w.heap.size 3 i0 (.int .i64 0) 1 8 Tryz.underlying28 hi hz0 hz1 hz2 rfl (by decide) _ 0 (ic (m)) rfl hown1 _ nl (ic (n)) rfl ((HN.out.below hba).row' HNL.out) (ic_one _) (by unfold maxLen; omega) (by omega) hba.size ?_); intro vb wb hown2 hgrow2 hmv2; rw [← ic_app] at hown2; obtain ⟨vb1, vbc, rfl⟩ := own_dslice hown2; have hbb := hba.grown hgrow2 hba.size (fun q hq => (hown1.lt q hq).1)) | (at_builtin; (refine wpList_append_row _ rfl _ _ 28 rfl w.heap.size 3 i0 (.int .i64 0) 1 8 Tryz.underlying28 hi hz0 hz1 hz2 rfl (by decide) _ 0 [] rfl HO0.out _ 0 (ic (m)) rfl ((HM.out.below HB0.out).row' HML.out) (ic_one _) (by unfold maxLen; omega) (by omega) (by simp) ?_); intro va wa hown1 hgrow1 hmv1; rw [Nat.zero_add, List.nil_append] at hown1; obtain ⟨va1, vac, rfl⟩ := own_dslice hown1; have hba := HB0.out.grown hgrow1 HB0.out.size (fun q hq => (HO0.out.lt q hq).1)))
          have HOB := Lib.hid hown2
          have HBB := Lib.hid hbb
          clear hown1 hown2 hgrow1 hgrow2 hmv1 hmv2 hba hbb HB0 HO0
          have HO1 := Lib.hid (own_empty wb wb.heap.size (Nat.le_refl _))
          have HB1 := Lib.hid (below1 wb (.cells #[] 3))
          have HX1 := Lib.hid (HS.out.below (HBB.out.trans (HB1.out.mono HBB.out.size)))
          have HX2 := Lib.hid (fun (W : World) (hW : Below wb.heap.size wb W) => HT.out.below (HBB.out.trans (hW.mono HBB.out.size)))
          go_upto_region 12 with (first | (at_builtin; (refine wpList_append_row _ rfl _ _ 28 rfl wb.heap.size 3 i0 (.int .i64 0) 1 8 Tryz.underlying28 hi hz0 hz1 hz2 rfl (by decide) _ sl (ic (s)) rfl hown3 _ tl (ic (t)) rfl ((HX2.out _ hbc).row' HTL.out) (ic_one _) (by unfold maxLen; omega) (by omega) hbc.size ?_); intro vd wd hown4 hgrow4 hmv4; rw [← ic_app] at hown4; obtain ⟨vd1, vdc, rfl⟩ := own_dslice hown4; have hbd := hbc.grown hgrow4 hbc.size (fun q hq => (hown3.lt q hq).1)) | (at_builtin; (refine wpList_append_row _ rfl _ _ 28 rfl wb.heap.size 3 i0 (.int .i64 0) 1 8 Tryz.underlying28 hi hz0 hz1 hz2 rfl (by decide) _ 0 [] rfl HO1.out _ sl (ic (s)) rfl (HX1.out.row' HSL.out) (ic_one _) (by unfold maxLen; omega) (by omega) (by simp) ?_); intro vc wc hown3 hgrow3 hmv3; rw [Nat.zero_add, List.nil_append] at hown3; obtain ⟨vc1, vcc, rfl⟩ := own_dslice hown3; have hbc := HB1.out.grown hgrow3 HB1.out.size (fun q hq => (HO1.out.lt q hq).1)))
          have HOD := Lib.hid (Iz.of_own hown4)
          have HOC := Lib.hid ((Iz.of_own HOB.out).below hbd)
          have HNW : Hid (Nw w.heap.size _ ∧ Nw w.heap.size _) := Lib.hid ⟨fun b h => (HOB.out.lt b h).1, fun b h => Nat.le_trans HBB.out.size (hown4.lt b h).1⟩
          try simp only [Nat.zero_add] at HNW
          have HBD := Lib.hid (HBB.out.trans (hbd.mono HBB.out.size))
          clear hown3 hown4 hgrow3 hgrow4 hmv3 hmv4 hbc hbd HB1 HO1 HOB HX1 HX2 HBB
          try simp only [Nat.zero_add] at HOD HOC
          have hlx : lrgB (m ++ n) (s ++ t) = (decide (256 < 0 + nl) || decide (256 < sl + tl)) := by unfold lrgB; rw [List.length_append, List.length_append, ← (HML.out), ← (HNL.out), ← (HSL.out), ← (HTL.out)]
          have HLX := Lib.hid hlx
          clear hlx
          try simp only [Nat.zero_add] at HLX
          by_cases hL1 : 256 < 0 + nl
          · exact absurd hL1 (by omega)
          by_cases hL2 : 256 < sl + tl
          · have HV := Lib.hid (HJ.out.trans (closeA_large (HLX.out.trans (by rw [decide_eq_true (show 256 < sl + tl by omega), Bool.or_true]))))
            go_wp2_with fail
            refine bodyPost_ret (v := .tuple #[.slice none 0 0, .slice none 0 0, .int .i64 6]) (by simp [results, Tryz.results66, go_sem]) rfl ?_
            rw [HV.out]
            exact ⟨⟨_, _, rfl, Iz.nil _, Iz.nil _, Nw.nil _, Nw.nil _⟩, HBD.out⟩
          have hL0 : (decide (256 < 0 + nl) || decide (256 < sl + tl)) = false := by rw [decide_eq_false hL1, decide_eq_false hL2]; rfl
          try simp only [Nat.zero_add] at hL0
          have HL0 := Lib.hid (HLX.out.trans hL0)
          clear hL0
          go_wp2_with fail
          refine (rsoundw_any _ _ _ _ _ HOC.out HOD.out).mono ?_
          rintro e we ⟨rfl, rfl⟩
          cases hss : sndS (m ++ n) (s ++ t) with
          | false =>
            have HV := Lib.hid (HJ.out.trans (closeA_bad HL0.out hss))
            go_wp2_with fail
            refine bodyPost_ret (v := .tuple #[.slice none 0 0, .slice none 0 0, .int .i64 2]) (by simp [results, Tryz.results66, go_sem]) rfl ?_
            rw [HV.out]
            exact ⟨⟨_, _, rfl, Iz.nil _, Iz.nil _, Nw.nil _, Nw.nil _⟩, HBD.out⟩
          | true =>
            have HV := Lib.hid (HJ.out.trans (closeA_ok HL0.out hss))
            go_wp2_with fail
            refine bodyPost_ret (v := .tuple #[.slice vb1 (0 + nl) vbc, .slice vd1 (sl + tl) vdc, .int .i64 0]) (by simp [results, Tryz.results66, go_sem]) rfl ?_
            rw [HV.out]
            try simp only [Nat.zero_add]
            exact ⟨⟨_, _, rfl, HOC.out, HOD.out, HNW.out.1, HNW.out.2⟩, HBD.out⟩
        · subst h0
          have c1 := True.intro
          have c2 := c1
          have c3 := c1
          have c4 := c1
          obtain ⟨hi, hz0, hz1, hz2⟩ := HI.out
          have HJ : Hid (wjA m s n t = closeA (m ++ n, s ++ t)) := Lib.hid (by rw [joinA_ok HS1.out HS2.out, HE.out]; rfl)
          have HO0 := Lib.hid (own_empty w w.heap.size (Nat.le_refl _))
          have HB0 := Lib.hid (below1 w (.cells #[] 3))
          go_enter Tryz.func66, Tryz.ntmps66
          go_wp2_with fail
          refine (wrsound_any _ _ m s w HM.out HS.out).mono ?_
          rintro e w2 ⟨rfl, rfl⟩
          rw [HS1.out]
          go_wp2_with fail
          refine (wrsound_any _ _ n t w HN.out HT.out).mono ?_
          rintro e w2 ⟨rfl, rfl⟩
          rw [HS2.out]
          go_upto_region 10 with fail
          clear c1 c2 c3 c4
          go_upto_region 11 with (first | (at_builtin; (refine wpList_append_row _ rfl _ _ 28 rfl w.heap.size 3 i0 (.int .i64 0) 1 8 Tryz.underlying28 hi hz0 hz1 hz2 rfl (by decide) _ ml (ic (m)) rfl hown1 _ 0 (ic (n)) rfl ((HN.out.below hba).row' HNL.out) (ic_one _) (by unfold maxLen; omega) (by omega) hba.size ?_); intro vb wb hown2 hgrow2 hmv2; rw [← ic_app] at hown2; obtain ⟨vb1, vbc, rfl⟩ := own_dslice hown2; have hbb := hba.grown hgrow2 hba.size (fun q hq => (hown1.lt q hq).1)) | (at_builtin; (refine wpList_append_row _ rfl _ _ 28 rfl w.heap.size 3 i0 (.int .i64 0) 1 8 Tryz.underlying28 hi hz0 hz1 hz2 rfl (by decide) _ 0 [] rfl HO0.out _ ml (ic (m)) rfl ((HM.out.below HB0.out).row' HML.out) (ic_one _) (by unfold maxLen; omega) (by omega) (by simp) ?_); intro va wa hown1 hgrow1 hmv1; rw [Nat.zero_add, List.nil_append] at hown1; obtain ⟨va1, vac, rfl⟩ := own_dslice hown1; have hba := HB0.out.grown hgrow1 HB0.out.size (fun q hq => (HO0.out.lt q hq).1)))
          have HOB := Lib.hid hown2
          have HBB := Lib.hid hbb
          clear hown1 hown2 hgrow1 hgrow2 hmv1 hmv2 hba hbb HB0 HO0
          have HO1 := Lib.hid (own_empty wb wb.heap.size (Nat.le_refl _))
          have HB1 := Lib.hid (below1 wb (.cells #[] 3))
          have HX1 := Lib.hid (HS.out.below (HBB.out.trans (HB1.out.mono HBB.out.size)))
          have HX2 := Lib.hid (fun (W : World) (hW : Below wb.heap.size wb W) => HT.out.below (HBB.out.trans (hW.mono HBB.out.size)))
          go_upto_region 12 with (first | (at_builtin; (refine wpList_append_row _ rfl _ _ 28 rfl wb.heap.size 3 i0 (.int .i64 0) 1 8 Tryz.underlying28 hi hz0 hz1 hz2 rfl (by decide) _ sl (ic (s)) rfl hown3 _ tl (ic (t)) rfl ((HX2.out _ hbc).row' HTL.out) (ic_one _) (by unfold maxLen; omega) (by omega) hbc.size ?_); intro vd wd hown4 hgrow4 hmv4; rw [← ic_app] at hown4; obtain ⟨vd1, vdc, rfl⟩ := own_dslice hown4; have hbd := hbc.grown hgrow4 hbc.size (fun q hq => (hown3.lt q hq).1)) | (at_builtin; (refine wpList_append_row _ rfl _ _ 28 rfl wb.heap.size 3 i0 (.int .i64 0) 1 8 Tryz.underlying28 hi hz0 hz1 hz2 rfl (by decide) _ 0 [] rfl HO1.out _ sl (ic (s)) rfl (HX1.out.row' HSL.out) (ic_one _) (by unfold maxLen; omega) (by omega) (by simp) ?_); intro vc wc hown3 hgrow3 hmv3; rw [Nat.zero_add, List.nil_append] at hown3; obtain ⟨vc1, vcc, rfl⟩ := own_dslice hown3; have hbc := HB1.out.grown hgrow3 HB1.out.size (fun q hq => (HO1.out.lt q hq).1)))
          have HOD := Lib.hid (Iz.of_own hown4)
          have HOC := Lib.hid ((Iz.of_own HOB.out).below hbd)
          have HNW : Hid (Nw w.heap.size _ ∧ Nw w.heap.size _) := Lib.hid ⟨fun b h => (HOB.out.lt b h).1, fun b h => Nat.le_trans HBB.out.size (hown4.lt b h).1⟩
          try simp only [Nat.zero_add] at HNW
          have HBD := Lib.hid (HBB.out.trans (hbd.mono HBB.out.size))
          clear hown3 hown4 hgrow3 hgrow4 hmv3 hmv4 hbc hbd HB1 HO1 HOB HX1 HX2 HBB
          try simp only [Nat.zero_add] at HOD HOC
          have hlx : lrgB (m ++ n) (s ++ t) = (decide (256 < ml + 0) || decide (256 < sl + tl)) := by unfold lrgB; rw [List.length_append, List.length_append, ← (HML.out), ← (HNL.out), ← (HSL.out), ← (HTL.out)]
          have HLX := Lib.hid hlx
          clear hlx
          try simp only [Nat.zero_add] at HLX
          by_cases hL1 : 256 < ml + 0
          · exact absurd hL1 (by omega)
          by_cases hL2 : 256 < sl + tl
          · have HV := Lib.hid (HJ.out.trans (closeA_large (HLX.out.trans (by rw [decide_eq_true (show 256 < sl + tl by omega), Bool.or_true]))))
            go_wp2_with fail
            refine bodyPost_ret (v := .tuple #[.slice none 0 0, .slice none 0 0, .int .i64 6]) (by simp [results, Tryz.results66, go_sem]) rfl ?_
            rw [HV.out]
            exact ⟨⟨_, _, rfl, Iz.nil _, Iz.nil _, Nw.nil _, Nw.nil _⟩, HBD.out⟩
          have hL0 : (decide (256 < ml + 0) || decide (256 < sl + tl)) = false := by rw [decide_eq_false hL1, decide_eq_false hL2]; rfl
          try simp only [Nat.zero_add] at hL0
          have HL0 := Lib.hid (HLX.out.trans hL0)
          clear hL0
          go_wp2_with fail
          refine (rsoundw_any _ _ _ _ _ HOC.out HOD.out).mono ?_
          rintro e we ⟨rfl, rfl⟩
          cases hss : sndS (m ++ n) (s ++ t) with
          | false =>
            have HV := Lib.hid (HJ.out.trans (closeA_bad HL0.out hss))
            go_wp2_with fail
            refine bodyPost_ret (v := .tuple #[.slice none 0 0, .slice none 0 0, .int .i64 2]) (by simp [results, Tryz.results66, go_sem]) rfl ?_
            rw [HV.out]
            exact ⟨⟨_, _, rfl, Iz.nil _, Iz.nil _, Nw.nil _, Nw.nil _⟩, HBD.out⟩
          | true =>
            have HV := Lib.hid (HJ.out.trans (closeA_ok HL0.out hss))
            go_wp2_with fail
            refine bodyPost_ret (v := .tuple #[.slice vb1 (ml + 0) vbc, .slice vd1 (sl + tl) vdc, .int .i64 0]) (by simp [results, Tryz.results66, go_sem]) rfl ?_
            rw [HV.out]
            try simp only [Nat.zero_add]
            exact ⟨⟨_, _, rfl, HOC.out, HOD.out, HNW.out.1, HNW.out.2⟩, HBD.out⟩
        · obtain ⟨b1, o1, rfl, _, c1⟩ := HMR.out (ml - 1) (by omega)
          obtain ⟨b2, o2, rfl, _, c2⟩ := HSR.out (sl - 1) (by omega)
          obtain ⟨b3, o3, rfl, _, c3⟩ := HNR.out 0 (by omega)
          obtain ⟨b4, o4, rfl, _, c4⟩ := HTR.out 0 (by omega)
          obtain ⟨i1, rfl⟩ : ∃ i, ml = i + 1 := ⟨ml - 1, by omega⟩
          obtain ⟨i2, rfl⟩ : ∃ i, sl = i + 1 := ⟨sl - 1, by omega⟩
          simp only [Nat.add_sub_cancel, Nat.add_zero] at c1 c2 c3 c4 hg
          have hw1 : ((i1 + 1 : Nat) : Int) - 1 = (i1 : Nat) := by omega
          have hw2 : ((i2 + 1 : Nat) : Int) - 1 = (i2 : Nat) := by omega
          rcases hg with g1 | ⟨g1, g2⟩ | ⟨g1, g2, g3⟩ | ⟨g1, g2, g3, g4⟩
          all_goals
            obtain ⟨hi, hz0, hz1, hz2⟩ := HI.out
            have HJ : Hid (wjA m s n t = closeA (m ++ n, s ++ t)) := Lib.hid (by rw [joinA_ok HS1.out HS2.out, HE.out]; rfl)
            have HO0 := Lib.hid (own_empty w w.heap.size (Nat.le_refl _))
            have HB0 := Lib.hid (below1 w (.cells #[] 3))
            go_enter Tryz.func66, Tryz.ntmps66
            go_wp2_with fail
            refine (wrsound_any _ _ m s w HM.out HS.out).mono ?_
            rintro e w2 ⟨rfl, rfl⟩
            rw [HS1.out]
            go_wp2_with fail
            refine (wrsound_any _ _ n t w HN.out HT.out).mono ?_
            rintro e w2 ⟨rfl, rfl⟩
            rw [HS2.out]
            go_upto_region 10 with fail
            clear c1 c2 c3 c4
            go_upto_region 11 with (first | (at_builtin; (refine wpList_append_row _ rfl _ _ 28 rfl w.heap.size 3 i0 (.int .i64 0) 1 8 Tryz.underlying28 hi hz0 hz1 hz2 rfl (by decide) _ (i1 + 1) (ic (m)) rfl hown1 _ nl (ic (n)) rfl ((HN.out.below hba).row' HNL.out) (ic_one _) (by unfold maxLen; omega) (by omega) hba.size ?_); intro vb wb hown2 hgrow2 hmv2; rw [← ic_app] at hown2; obtain ⟨vb1, vbc, rfl⟩ := own_dslice hown2; have hbb := hba.grown hgrow2 hba.size (fun q hq => (hown1.lt q hq).1)) | (at_builtin; (refine wpList_append_row _ rfl _ _ 28 rfl w.heap.size 3 i0 (.int .i64 0) 1 8 Tryz.underlying28 hi hz0 hz1 hz2 rfl (by decide) _ 0 [] rfl HO0.out _ (i1 + 1) (ic (m)) rfl ((HM.out.below HB0.out).row' HML.out) (ic_one _) (by unfold maxLen; omega) (by omega) (by simp) ?_); intro va wa hown1 hgrow1 hmv1; rw [Nat.zero_add, List.nil_append] at hown1; obtain ⟨va1, vac, rfl⟩ := own_dslice hown1; have hba := HB0.out.grown hgrow1 HB0.out.size (fun q hq => (HO0.out.lt q hq).1)))
            have HOB := Lib.hid hown2
            have HBB := Lib.hid hbb
            clear hown1 hown2 hgrow1 hgrow2 hmv1 hmv2 hba hbb HB0 HO0
            have HO1 := Lib.hid (own_empty wb wb.heap.size (Nat.le_refl _))
            have HB1 := Lib.hid (below1 wb (.cells #[] 3))
            have HX1 := Lib.hid (HS.out.below (HBB.out.trans (HB1.out.mono HBB.out.size)))
            have HX2 := Lib.hid (fun (W : World) (hW : Below wb.heap.size wb W) => HT.out.below (HBB.out.trans (hW.mono HBB.out.size)))
            go_upto_region 12 with (first | (at_builtin; (refine wpList_append_row _ rfl _ _ 28 rfl wb.heap.size 3 i0 (.int .i64 0) 1 8 Tryz.underlying28 hi hz0 hz1 hz2 rfl (by decide) _ (i2 + 1) (ic (s)) rfl hown3 _ tl (ic (t)) rfl ((HX2.out _ hbc).row' HTL.out) (ic_one _) (by unfold maxLen; omega) (by omega) hbc.size ?_); intro vd wd hown4 hgrow4 hmv4; rw [← ic_app] at hown4; obtain ⟨vd1, vdc, rfl⟩ := own_dslice hown4; have hbd := hbc.grown hgrow4 hbc.size (fun q hq => (hown3.lt q hq).1)) | (at_builtin; (refine wpList_append_row _ rfl _ _ 28 rfl wb.heap.size 3 i0 (.int .i64 0) 1 8 Tryz.underlying28 hi hz0 hz1 hz2 rfl (by decide) _ 0 [] rfl HO1.out _ (i2 + 1) (ic (s)) rfl (HX1.out.row' HSL.out) (ic_one _) (by unfold maxLen; omega) (by omega) (by simp) ?_); intro vc wc hown3 hgrow3 hmv3; rw [Nat.zero_add, List.nil_append] at hown3; obtain ⟨vc1, vcc, rfl⟩ := own_dslice hown3; have hbc := HB1.out.grown hgrow3 HB1.out.size (fun q hq => (HO1.out.lt q hq).1)))
            have HOD := Lib.hid (Iz.of_own hown4)
            have HOC := Lib.hid ((Iz.of_own HOB.out).below hbd)
            have HNW : Hid (Nw w.heap.size _ ∧ Nw w.heap.size _) := Lib.hid ⟨fun b h => (HOB.out.lt b h).1, fun b h => Nat.le_trans HBB.out.size (hown4.lt b h).1⟩
            try simp only [Nat.zero_add] at HNW
            have HBD := Lib.hid (HBB.out.trans (hbd.mono HBB.out.size))
            clear hown3 hown4 hgrow3 hgrow4 hmv3 hmv4 hbc hbd HB1 HO1 HOB HX1 HX2 HBB
            try simp only [Nat.zero_add] at HOD HOC
            have hlx : lrgB (m ++ n) (s ++ t) = (decide (256 < (i1 + 1) + nl) || decide (256 < (i2 + 1) + tl)) := by unfold lrgB; rw [List.length_append, List.length_append, ← (HML.out), ← (HNL.out), ← (HSL.out), ← (HTL.out)]
            have HLX := Lib.hid hlx
            clear hlx
            try simp only [Nat.zero_add] at HLX
            by_cases hL1 : 256 < (i1 + 1) + nl
            · have HV := Lib.hid (HJ.out.trans (closeA_large (HLX.out.trans (by rw [decide_eq_true (by omega)]; rfl))))
              go_wp2_with fail
              refine bodyPost_ret (v := .tuple #[.slice none 0 0, .slice none 0 0, .int .i64 6]) (by simp [results, Tryz.results66, go_sem]) rfl ?_
              rw [HV.out]
              exact ⟨⟨_, _, rfl, Iz.nil _, Iz.nil _, Nw.nil _, Nw.nil _⟩, HBD.out⟩
            by_cases hL2 : 256 < (i2 + 1) + tl
            · have HV := Lib.hid (HJ.out.trans (closeA_large (HLX.out.trans (by rw [decide_eq_true (show 256 < (i2 + 1) + tl by omega), Bool.or_true]))))
              go_wp2_with fail
              refine bodyPost_ret (v := .tuple #[.slice none 0 0, .slice none 0 0, .int .i64 6]) (by simp [results, Tryz.results66, go_sem]) rfl ?_
              rw [HV.out]
              exact ⟨⟨_, _, rfl, Iz.nil _, Iz.nil _, Nw.nil _, Nw.nil _⟩, HBD.out⟩
            have hL0 : (decide (256 < (i1 + 1) + nl) || decide (256 < (i2 + 1) + tl)) = false := by rw [decide_eq_false hL1, decide_eq_false hL2]; rfl
            try simp only [Nat.zero_add] at hL0
            have HL0 := Lib.hid (HLX.out.trans hL0)
            clear hL0
            go_wp2_with fail
            refine (rsoundw_any _ _ _ _ _ HOC.out HOD.out).mono ?_
            rintro e we ⟨rfl, rfl⟩
            cases hss : sndS (m ++ n) (s ++ t) with
            | false =>
              have HV := Lib.hid (HJ.out.trans (closeA_bad HL0.out hss))
              go_wp2_with fail
              refine bodyPost_ret (v := .tuple #[.slice none 0 0, .slice none 0 0, .int .i64 2]) (by simp [results, Tryz.results66, go_sem]) rfl ?_
              rw [HV.out]
              exact ⟨⟨_, _, rfl, Iz.nil _, Iz.nil _, Nw.nil _, Nw.nil _⟩, HBD.out⟩
            | true =>
              have HV := Lib.hid (HJ.out.trans (closeA_ok HL0.out hss))
              go_wp2_with fail
              refine bodyPost_ret (v := .tuple #[.slice vb1 ((i1 + 1) + nl) vbc, .slice vd1 ((i2 + 1) + tl) vdc, .int .i64 0]) (by simp [results, Tryz.results66, go_sem]) rfl ?_
              rw [HV.out]
              try simp only [Nat.zero_add]
              exact ⟨⟨_, _, rfl, HOC.out, HOD.out, HNW.out.1, HNW.out.2⟩, HBD.out⟩
      · have HE := Lib.hid he
        clear he
        obtain ⟨b1, o1, rfl, _, c1⟩ := HMR.out (ml - 1) (by omega)
        obtain ⟨b2, o2, rfl, _, c2⟩ := HSR.out (sl - 1) (by omega)
        obtain ⟨b3, o3, rfl, _, c3⟩ := HNR.out 0 (by omega)
        obtain ⟨b4, o4, rfl, _, c4⟩ := HTR.out 0 (by omega)
        obtain ⟨i1, rfl⟩ : ∃ i, ml = i + 1 := ⟨ml - 1, by omega⟩
        obtain ⟨i2, rfl⟩ : ∃ i, sl = i + 1 := ⟨sl - 1, by omega⟩
        obtain ⟨i3, rfl⟩ : ∃ i, nl = i + 1 := ⟨nl - 1, by omega⟩
        obtain ⟨i4, rfl⟩ : ∃ i, tl = i + 1 := ⟨tl - 1, by omega⟩
        simp only [Nat.add_sub_cancel, Nat.add_zero] at c1 c2 c3 c4 hg2 hg3
        have hw1 : ((i1 + 1 : Nat) : Int) - 1 = (i1 : Nat) := by omega
        have hw2 : ((i2 + 1 : Nat) : Int) - 1 = (i2 : Nat) := by omega
        have KM := Lib.hid HM.out.init
        have KS := Lib.hid HS.out.init
        simp only [Nat.add_sub_cancel] at KM KS
        have EM : Hid (i1 = m.dropLast.length) := Lib.hid (by rw [List.length_dropLast, ← HML.out]; rfl)
        have ES : Hid (i2 = s.dropLast.length) := Lib.hid (by rw [List.length_dropLast, ← HSL.out]; rfl)
        have EN : Hid (i3 = n.tail.length) := Lib.hid (by rw [List.length_tail, ← HNL.out]; rfl)
        have ET : Hid (i4 = t.tail.length) := Lib.hid (by rw [List.length_tail, ← HTL.out]; rfl)
        rcases HN.out.rest' with ⟨rfl, rfl, KN0⟩ | ⟨h3, KN0⟩ <;> rcases HT.out.rest' with ⟨rfl, rfl, KT0⟩ | ⟨h4, KT0⟩
        · have KN := Lib.hid KN0
          have KT := Lib.hid KT0
          clear KN0 KT0
          obtain ⟨hi, hz0, hz1, hz2⟩ := HI.out
          have HJ : Hid (wjA m s n t = closeA (m.dropLast ++ n.tail, s.dropLast ++ t.tail)) := Lib.hid (by rw [joinA_ok HS1.out HS2.out, HE.out]; rfl)
          have HO0 := Lib.hid (own_empty w w.heap.size (Nat.le_refl _))
          have HB0 := Lib.hid (below1 w (.cells #[] 3))
          go_enter Tryz.func66, Tryz.ntmps66
          go_wp2_with fail
          refine (wrsound_any _ _ m s w HM.out HS.out).mono ?_
          rintro e w2 ⟨rfl, rfl⟩
          rw [HS1.out]
          go_wp2_with fail
          refine (wrsound_any _ _ n t w HN.out HT.out).mono ?_
          rintro e w2 ⟨rfl, rfl⟩
          rw [HS2.out]
          go_upto_region 10 with fail
          clear c1 c2 c3 c4
          go_upto_region 11 with (first | (at_builtin; (refine wpList_append_row _ rfl _ _ 28 rfl w.heap.size 3 i0 (.int .i64 0) 1 8 Tryz.underlying28 hi hz0 hz1 hz2 rfl (by decide) _ i1 (ic (m.dropLast)) rfl hown1 _ 0 (ic (n.tail)) rfl ((KN.out.below hba).row' EN.out) (ic_one _) (by unfold maxLen; omega) (by omega) hba.size ?_); intro vb wb hown2 hgrow2 hmv2; rw [← ic_app] at hown2; obtain ⟨vb1, vbc, rfl⟩ := own_dslice hown2; have hbb := hba.grown hgrow2 hba.size (fun q hq => (hown1.lt q hq).1)) | (at_builtin; (refine wpList_append_row _ rfl _ _ 28 rfl w.heap.size 3 i0 (.int .i64 0) 1 8 Tryz.underlying28 hi hz0 hz1 hz2 rfl (by decide) _ 0 [] rfl HO0.out _ i1 (ic (m.dropLast)) rfl ((KM.out.below HB0.out).row' EM.out) (ic_one _) (by unfold maxLen; omega) (by omega) (by simp) ?_); intro va wa hown1 hgrow1 hmv1; rw [Nat.zero_add, List.nil_append] at hown1; obtain ⟨va1, vac, rfl⟩ := own_dslice hown1; have hba := HB0.out.grown hgrow1 HB0.out.size (fun q hq => (HO0.out.lt q hq).1)))
          have HOB := Lib.hid hown2
          have HBB := Lib.hid hbb
          clear hown1 hown2 hgrow1 hgrow2 hmv1 hmv2 hba hbb HB0 HO0
          have HO1 := Lib.hid (own_empty wb wb.heap.size (Nat.le_refl _))
          have HB1 := Lib.hid (below1 wb (.cells #[] 3))
          have HX1 := Lib.hid (KS.out.below (HBB.out.trans (HB1.out.mono HBB.out.size)))
          have HX2 := Lib.hid (fun (W : World) (hW : Below wb.heap.size wb W) => KT.out.below (HBB.out.trans (hW.mono HBB.out.size)))
          go_upto_region 12 with (first | (at_builtin; (refine wpList_append_row _ rfl _ _ 28 rfl wb.heap.size 3 i0 (.int .i64 0) 1 8 Tryz.underlying28 hi hz0 hz1 hz2 rfl (by decide) _ i2 (ic (s.dropLast)) rfl hown3 _ 0 (ic (t.tail)) rfl ((HX2.out _ hbc).row' ET.out) (ic_one _) (by unfold maxLen; omega) (by omega) hbc.size ?_); intro vd wd hown4 hgrow4 hmv4; rw [← ic_app] at hown4; obtain ⟨vd1, vdc, rfl⟩ := own_dslice hown4; have hbd := hbc.grown hgrow4 hbc.size (fun q hq => (hown3.lt q hq).1)) | (at_builtin; (refine wpList_append_row _ rfl _ _ 28 rfl wb.heap.size 3 i0 (.int .i64 0) 1 8 Tryz.underlying28 hi hz0 hz1 hz2 rfl (by decide) _ 0 [] rfl HO1.out _ i2 (ic (s.dropLast)) rfl (HX1.out.row' ES.out) (ic_one _) (by unfold maxLen; omega) (by omega) (by simp) ?_); intro vc wc hown3 hgrow3 hmv3; rw [Nat.zero_add, List.nil_append] at hown3; obtain ⟨vc1, vcc, rfl⟩ := own_dslice hown3; have hbc := HB1.out.grown hgrow3 HB1.out.size (fun q hq => (HO1.out.lt q hq).1)))
          have HOD := Lib.hid (Iz.of_own hown4)
          have HOC := Lib.hid ((Iz.of_own HOB.out).below hbd)
          have HNW : Hid (Nw w.heap.size _ ∧ Nw w.heap.size _) := Lib.hid ⟨fun b h => (HOB.out.lt b h).1, fun b h => Nat.le_trans HBB.out.size (hown4.lt b h).1⟩
          try simp only [Nat.zero_add] at HNW
          have HBD := Lib.hid (HBB.out.trans (hbd.mono HBB.out.size))
          clear hown3 hown4 hgrow3 hgrow4 hmv3 hmv4 hbc hbd HB1 HO1 HOB HX1 HX2 HBB
          try simp only [Nat.zero_add] at HOD HOC
          have hlx : lrgB (m.dropLast ++ n.tail) (s.dropLast ++ t.tail) = (decide (256 < i1 + 0) || decide (256 < i2 + 0)) := by unfold lrgB; rw [List.length_append, List.length_append, ← (EM.out), ← (EN.out), ← (ES.out), ← (ET.out)]
          have HLX := Lib.hid hlx
          clear hlx
          try simp only [Nat.zero_add] at HLX
          by_cases hL1 : 256 < i1 + 0
          · exact absurd hL1 (by omega)
          by_cases hL2 : 256 < i2 + 0
          · exact absurd hL2 (by omega)
          have hL0 : (decide (256 < i1 + 0) || decide (256 < i2 + 0)) = false := by rw [decide_eq_false hL1, decide_eq_false hL2]; rfl
          try simp only [Nat.zero_add] at hL0
          have HL0 := Lib.hid (HLX.out.trans hL0)
          clear hL0
          go_wp2_with fail
          refine (rsoundw_any _ _ _ _ _ HOC.out HOD.out).mono ?_
          rintro e we ⟨rfl, rfl⟩
          cases hss : sndS (m.dropLast ++ n.tail) (s.dropLast ++ t.tail) with
          | false =>
            have HV := Lib.hid (HJ.out.trans (closeA_bad HL0.out hss))
            go_wp2_with fail
            refine bodyPost_ret (v := .tuple #[.slice none 0 0, .slice none 0 0, .int .i64 2]) (by simp [results, Tryz.results66, go_sem]) rfl ?_
            rw [HV.out]
            exact ⟨⟨_, _, rfl, Iz.nil _, Iz.nil _, Nw.nil _, Nw.nil _⟩, HBD.out⟩
          | true =>
            have HV := Lib.hid (HJ.out.trans (closeA_ok HL0.out hss))
            go_wp2_with fail
            refine bodyPost_ret (v := .tuple #[.slice vb1 (i1 + 0) vbc, .slice vd1 (i2 + 0) vdc, .int .i64 0]) (by simp [results, Tryz.results66, go_sem]) rfl ?_
            rw [HV.out]
            try simp only [Nat.zero_add]
            exact ⟨⟨_, _, rfl, HOC.out, HOD.out, HNW.out.1, HNW.out.2⟩, HBD.out⟩
        · have KN := Lib.hid KN0
          have KT := Lib.hid KT0
          clear KN0 KT0
          obtain ⟨hi, hz0, hz1, hz2⟩ := HI.out
          have HJ : Hid (wjA m s n t = closeA (m.dropLast ++ n.tail, s.dropLast ++ t.tail)) := Lib.hid (by rw [joinA_ok HS1.out HS2.out, HE.out]; rfl)
          have HO0 := Lib.hid (own_empty w w.heap.size (Nat.le_refl _))
          have HB0 := Lib.hid (below1 w (.cells #[] 3))
          go_enter Tryz.func66, Tryz.ntmps66
          go_wp2_with fail
          refine (wrsound_any _ _ m s w HM.out HS.out).mono ?_
          rintro e w2 ⟨rfl, rfl⟩
          rw [HS1.out]
          go_wp2_with fail
          refine (wrsound_any _ _ n t w HN.out HT.out).mono ?_
          rintro e w2 ⟨rfl, rfl⟩
          rw [HS2.out]
          go_upto_region 10 with fail
          clear c1 c2 c3 c4
          go_upto_region 11 with (first | (at_builtin; (refine wpList_append_row _ rfl _ _ 28 rfl w.heap.size 3 i0 (.int .i64 0) 1 8 Tryz.underlying28 hi hz0 hz1 hz2 rfl (by decide) _ i1 (ic (m.dropLast)) rfl hown1 _ 0 (ic (n.tail)) rfl ((KN.out.below hba).row' EN.out) (ic_one _) (by unfold maxLen; omega) (by omega) hba.size ?_); intro vb wb hown2 hgrow2 hmv2; rw [← ic_app] at hown2; obtain ⟨vb1, vbc, rfl⟩ := own_dslice hown2; have hbb := hba.grown hgrow2 hba.size (fun q hq => (hown1.lt q hq).1)) | (at_builtin; (refine wpList_append_row _ rfl _ _ 28 rfl w.heap.size 3 i0 (.int .i64 0) 1 8 Tryz.underlying28 hi hz0 hz1 hz2 rfl (by decide) _ 0 [] rfl HO0.out _ i1 (ic (m.dropLast)) rfl ((KM.out.below HB0.out).row' EM.out) (ic_one _) (by unfold maxLen; omega) (by omega) (by simp) ?_); intro va wa hown1 hgrow1 hmv1; rw [Nat.zero_add, List.nil_append] at hown1; obtain ⟨va1, vac, rfl⟩ := own_dslice hown1; have hba := HB0.out.grown hgrow1 HB0.out.size (fun q hq => (HO0.out.lt q hq).1)))
          have HOB := Lib.hid hown2
          have HBB := Lib.hid hbb
          clear hown1 hown2 hgrow1 hgrow2 hmv1 hmv2 hba hbb HB0 HO0
          have HO1 := Lib.hid (own_empty wb wb.heap.size (Nat.le_refl _))
          have HB1 := Lib.hid (below1 wb (.cells #[] 3))
          have HX1 := Lib.hid (KS.out.below (HBB.out.trans (HB1.out.mono HBB.out.size)))
          have HX2 := Lib.hid (fun (W : World) (hW : Below wb.heap.size wb W) => KT.out.below (HBB.out.trans (hW.mono HBB.out.size)))
          go_upto_region 12 with (first | (at_builtin; (refine wpList_append_row _ rfl _ _ 28 rfl wb.heap.size 3 i0 (.int .i64 0) 1 8 Tryz.underlying28 hi hz0 hz1 hz2 rfl (by decide) _ i2 (ic (s.dropLast)) rfl hown3 _ i4 (ic (t.tail)) rfl ((HX2.out _ hbc).row' ET.out) (ic_one _) (by unfold maxLen; omega) (by omega) hbc.size ?_); intro vd wd hown4 hgrow4 hmv4; rw [← ic_app] at hown4; obtain ⟨vd1, vdc, rfl⟩ := own_dslice hown4; have hbd := hbc.grown hgrow4 hbc.size (fun q hq => (hown3.lt q hq).1)) | (at_builtin; (refine wpList_append_row _ rfl _ _ 28 rfl wb.heap.size 3 i0 (.int .i64 0) 1 8 Tryz.underlying28 hi hz0 hz1 hz2 rfl (by decide) _ 0 [] rfl HO1.out _ i2 (ic (s.dropLast)) rfl (HX1.out.row' ES.out) (ic_one _) (by unfold maxLen; omega) (by omega) (by simp) ?_); intro vc wc hown3 hgrow3 hmv3; rw [Nat.zero_add, List.nil_append] at hown3; obtain ⟨vc1, vcc, rfl⟩ := own_dslice hown3; have hbc := HB1.out.grown hgrow3 HB1.out.size (fun q hq => (HO1.out.lt q hq).1)))
          have HOD := Lib.hid (Iz.of_own hown4)
          have HOC := Lib.hid ((Iz.of_own HOB.out).below hbd)
          have HNW : Hid (Nw w.heap.size _ ∧ Nw w.heap.size _) := Lib.hid ⟨fun b h => (HOB.out.lt b h).1, fun b h => Nat.le_trans HBB.out.size (hown4.lt b h).1⟩
          try simp only [Nat.zero_add] at HNW
          have HBD := Lib.hid (HBB.out.trans (hbd.mono HBB.out.size))
          clear hown3 hown4 hgrow3 hgrow4 hmv3 hmv4 hbc hbd HB1 HO1 HOB HX1 HX2 HBB
          try simp only [Nat.zero_add] at HOD HOC
          have hlx : lrgB (m.dropLast ++ n.tail) (s.dropLast ++ t.tail) = (decide (256 < i1 + 0) || decide (256 < i2 + i4)) := by unfold lrgB; rw [List.length_append, List.length_append, ← (EM.out), ← (EN.out), ← (ES.out), ← (ET.out)]
          have HLX := Lib.hid hlx
          clear hlx
          try simp only [Nat.zero_add] at HLX
          by_cases hL1 : 256 < i1 + 0
          · exact absurd hL1 (by omega)
          by_cases hL2 : 256 < i2 + i4
          · have HV := Lib.hid (HJ.out.trans (closeA_large (HLX.out.trans (by rw [decide_eq_true (show 256 < i2 + i4 by omega), Bool.or_true]))))
            go_wp2_with fail
            refine bodyPost_ret (v := .tuple #[.slice none 0 0, .slice none 0 0, .int .i64 6]) (by simp [results, Tryz.results66, go_sem]) rfl ?_
            rw [HV.out]
            exact ⟨⟨_, _, rfl, Iz.nil _, Iz.nil _, Nw.nil _, Nw.nil _⟩, HBD.out⟩
          have hL0 : (decide (256 < i1 + 0) || decide (256 < i2 + i4)) = false := by rw [decide_eq_false hL1, decide_eq_false hL2]; rfl
          try simp only [Nat.zero_add] at hL0
          have HL0 := Lib.hid (HLX.out.trans hL0)
          clear hL0
          go_wp2_with fail
          refine (rsoundw_any _ _ _ _ _ HOC.out HOD.out).mono ?_
          rintro e we ⟨rfl, rfl⟩
          cases hss : sndS (m.dropLast ++ n.tail) (s.dropLast ++ t.tail) with
          | false =>
            have HV := Lib.hid (HJ.out.trans (closeA_bad HL0.out hss))
            go_wp2_with fail
            refine bodyPost_ret (v := .tuple #[.slice none 0 0, .slice none 0 0, .int .i64 2]) (by simp [results, Tryz.results66, go_sem]) rfl ?_
            rw [HV.out]
            exact ⟨⟨_, _, rfl, Iz.nil _, Iz.nil _, Nw.nil _, Nw.nil _⟩, HBD.out⟩
          | true =>
            have HV := Lib.hid (HJ.out.trans (closeA_ok HL0.out hss))
            go_wp2_with fail
            refine bodyPost_ret (v := .tuple #[.slice vb1 (i1 + 0) vbc, .slice vd1 (i2 + i4) vdc, .int .i64 0]) (by simp [results, Tryz.results66, go_sem]) rfl ?_
            rw [HV.out]
            try simp only [Nat.zero_add]
            exact ⟨⟨_, _, rfl, HOC.out, HOD.out, HNW.out.1, HNW.out.2⟩, HBD.out⟩
        · have KN := Lib.hid KN0
          have KT := Lib.hid KT0
          clear KN0 KT0
          obtain rfl : i3 = 0 := by omega
          obtain ⟨hi, hz0, hz1, hz2⟩ := HI.out
          have HJ : Hid (wjA m s n t = closeA (m.dropLast ++ n.tail, s.dropLast ++ t.tail)) := Lib.hid (by rw [joinA_ok HS1.out HS2.out, HE.out]; rfl)
          have HO0 := Lib.hid (own_empty w w.heap.size (Nat.le_refl _))
          have HB0 := Lib.hid (below1 w (.cells #[] 3))
          go_enter Tryz.func66, Tryz.ntmps66
          go_wp2_with fail
          refine (wrsound_any _ _ m s w HM.out HS.out).mono ?_
          rintro e w2 ⟨rfl, rfl⟩
          rw [HS1.out]
          go_wp2_with fail
          refine (wrsound_any _ _ n t w HN.out HT.out).mono ?_
          rintro e w2 ⟨rfl, rfl⟩
          rw [HS2.out]
          go_upto_region 10 with fail
          clear c1 c2 c3 c4
          go_upto_region 11 with (first | (at_builtin; (refine wpList_append_row _ rfl _ _ 28 rfl w.heap.size 3 i0 (.int .i64 0) 1 8 Tryz.underlying28 hi hz0 hz1 hz2 rfl (by decide) _ i1 (ic (m.dropLast)) rfl hown1 _ 0 (ic (n.tail)) rfl ((KN.out.below hba).row' EN.out) (ic_one _) (by unfold maxLen; omega) (by omega) hba.size ?_); intro vb wb hown2 hgrow2 hmv2; rw [← ic_app] at hown2; obtain ⟨vb1, vbc, rfl⟩ := own_dslice hown2; have hbb := hba.grown hgrow2 hba.size (fun q hq => (hown1.lt q hq).1)) | (at_builtin; (refine wpList_append_row _ rfl _ _ 28 rfl w.heap.size 3 i0 (.int .i64 0) 1 8 Tryz.underlying28 hi hz0 hz1 hz2 rfl (by decide) _ 0 [] rfl HO0.out _ i1 (ic (m.dropLast)) rfl ((KM.out.below HB0.out).row' EM.out) (ic_one _) (by unfold maxLen; omega) (by omega) (by simp) ?_); intro va wa hown1 hgrow1 hmv1; rw [Nat.zero_add, List.nil_append] at hown1; obtain ⟨va1, vac, rfl⟩ := own_dslice hown1; have hba := HB0.out.grown hgrow1 HB0.out.size (fun q hq => (HO0.out.lt q hq).1)))
          have HOB := Lib.hid hown2
          have HBB := Lib.hid hbb
          clear hown1 hown2 hgrow1 hgrow2 hmv1 hmv2 hba hbb HB0 HO0
          have HO1 := Lib.hid (own_empty wb wb.heap.size (Nat.le_refl _))
          have HB1 := Lib.hid (below1 wb (.cells #[] 3))
          have HX1 := Lib.hid (KS.out.below (HBB.out.trans (HB1.out.mono HBB.out.size)))
          have HX2 := Lib.hid (fun (W : World) (hW : Below wb.heap.size wb W) => KT.out.below (HBB.out.trans (hW.mono HBB.out.size)))
          go_upto_region 12 with (first | (at_builtin; (refine wpList_append_row _ rfl _ _ 28 rfl wb.heap.size 3 i0 (.int .i64 0) 1 8 Tryz.underlying28 hi hz0 hz1 hz2 rfl (by decide) _ i2 (ic (s.dropLast)) rfl hown3 _ 0 (ic (t.tail)) rfl ((HX2.out _ hbc).row' ET.out) (ic_one _) (by unfold maxLen; omega) (by omega) hbc.size ?_); intro vd wd hown4 hgrow4 hmv4; rw [← ic_app] at hown4; obtain ⟨vd1, vdc, rfl⟩ := own_dslice hown4; have hbd := hbc.grown hgrow4 hbc.size (fun q hq => (hown3.lt q hq).1)) | (at_builtin; (refine wpList_append_row _ rfl _ _ 28 rfl wb.heap.size 3 i0 (.int .i64 0) 1 8 Tryz.underlying28 hi hz0 hz1 hz2 rfl (by decide) _ 0 [] rfl HO1.out _ i2 (ic (s.dropLast)) rfl (HX1.out.row' ES.out) (ic_one _) (by unfold maxLen; omega) (by omega) (by simp) ?_); intro vc wc hown3 hgrow3 hmv3; rw [Nat.zero_add, List.nil_append] at hown3; obtain ⟨vc1, vcc, rfl⟩ := own_dslice hown3; have hbc := HB1.out.grown hgrow3 HB1.out.size (fun q hq => (HO1.out.lt q hq).1)))
          have HOD := Lib.hid (Iz.of_own hown4)
          have HOC := Lib.hid ((Iz.of_own HOB.out).below hbd)
          have HNW : Hid (Nw w.heap.size _ ∧ Nw w.heap.size _) := Lib.hid ⟨fun b h => (HOB.out.lt b h).1, fun b h => Nat.le_trans HBB.out.size (hown4.lt b h).1⟩
          try simp only [Nat.zero_add] at HNW
          have HBD := Lib.hid (HBB.out.trans (hbd.mono HBB.out.size))
          clear hown3 hown4 hgrow3 hgrow4 hmv3 hmv4 hbc hbd HB1 HO1 HOB HX1 HX2 HBB
          try simp only [Nat.zero_add] at HOD HOC
          have hlx : lrgB (m.dropLast ++ n.tail) (s.dropLast ++ t.tail) = (decide (256 < i1 + 0) || decide (256 < i2 + 0)) := by unfold lrgB; rw [List.length_append, List.length_append, ← (EM.out), ← (EN.out), ← (ES.out), ← (ET.out)]
          have HLX := Lib.hid hlx
          clear hlx
          try simp only [Nat.zero_add] at HLX
          by_cases hL1 : 256 < i1 + 0
          · exact absurd hL1 (by omega)
          by_cases hL2 : 256 < i2 + 0
          · exact absurd hL2 (by omega)
          have hL0 : (decide (256 < i1 + 0) || decide (256 < i2 + 0)) = false := by rw [decide_eq_false hL1, decide_eq_false hL2]; rfl
          try simp only [Nat.zero_add] at hL0
          have HL0 := Lib.hid (HLX.out.trans hL0)
          clear hL0
          go_wp2_with fail
          refine (rsoundw_any _ _ _ _ _ HOC.out HOD.out).mono ?_
          rintro e we ⟨rfl, rfl⟩
          cases hss : sndS (m.dropLast ++ n.tail) (s.dropLast ++ t.tail) with
          | false =>
            have HV := Lib.hid (HJ.out.trans (closeA_bad HL0.out hss))
            go_wp2_with fail
            refine bodyPost_ret (v := .tuple #[.slice none 0 0, .slice none 0 0, .int .i64 2]) (by simp [results, Tryz.results66, go_sem]) rfl ?_
            rw [HV.out]
            exact ⟨⟨_, _, rfl, Iz.nil _, Iz.nil _, Nw.nil _, Nw.nil _⟩, HBD.out⟩
          | true =>
            have HV := Lib.hid (HJ.out.trans (closeA_ok HL0.out hss))
            go_wp2_with fail
            refine bodyPost_ret (v := .tuple #[.slice vb1 (i1 + 0) vbc, .slice vd1 (i2 + 0) vdc, .int .i64 0]) (by simp [results, Tryz.results66, go_sem]) rfl ?_
            rw [HV.out]
            try simp only [Nat.zero_add]
            exact ⟨⟨_, _, rfl, HOC.out, HOD.out, HNW.out.1, HNW.out.2⟩, HBD.out⟩
        · have KN := Lib.hid KN0
          have KT := Lib.hid KT0
          clear KN0 KT0
          obtain ⟨hi, hz0, hz1, hz2⟩ := HI.out
          have HJ : Hid (wjA m s n t = closeA (m.dropLast ++ n.tail, s.dropLast ++ t.tail)) := Lib.hid (by rw [joinA_ok HS1.out HS2.out, HE.out]; rfl)
          have HO0 := Lib.hid (own_empty w w.heap.size (Nat.le_refl _))
          have HB0 := Lib.hid (below1 w (.cells #[] 3))
          go_enter Tryz.func66, Tryz.ntmps66
          go_wp2_with fail
          refine (wrsound_any _ _ m s w HM.out HS.out).mono ?_
          rintro e w2 ⟨rfl, rfl⟩
          rw [HS1.out]
          go_wp2_with fail
          refine (wrsound_any _ _ n t w HN.out HT.out).mono ?_
          rintro e w2 ⟨rfl, rfl⟩
          rw [HS2.out]
          go_upto_region 10 with fail
          clear c1 c2 c3 c4
          go_upto_region 11 with (first | (at_builtin; (refine wpList_append_row _ rfl _ _ 28 rfl w.heap.size 3 i0 (.int .i64 0) 1 8 Tryz.underlying28 hi hz0 hz1 hz2 rfl (by decide) _ i1 (ic (m.dropLast)) rfl hown1 _ i3 (ic (n.tail)) rfl ((KN.out.below hba).row' EN.out) (ic_one _) (by unfold maxLen; omega) (by omega) hba.size ?_); intro vb wb hown2 hgrow2 hmv2; rw [← ic_app] at hown2; obtain ⟨vb1, vbc, rfl⟩ := own_dslice hown2; have hbb := hba.grown hgrow2 hba.size (fun q hq => (hown1.lt q hq).1)) | (at_builtin; (refine wpList_append_row _ rfl _ _ 28 rfl w.heap.size 3 i0 (.int .i64 0) 1 8 Tryz.underlying28 hi hz0 hz1 hz2 rfl (by decide) _ 0 [] rfl HO0.out _ i1 (ic (m.dropLast)) rfl ((KM.out.below HB0.out).row' EM.out) (ic_one _) (by unfold maxLen; omega) (by omega) (by simp) ?_); intro va wa hown1 hgrow1 hmv1; rw [Nat.zero_add, List.nil_append] at hown1; obtain ⟨va1, vac, rfl⟩ := own_dslice hown1; have hba := HB0.out.grown hgrow1 HB0.out.size (fun q hq => (HO0.out.lt q hq).1)))
          have HOB := Lib.hid hown2
          have HBB := Lib.hid hbb
          clear hown1 hown2 hgrow1 hgrow2 hmv1 hmv2 hba hbb HB0 HO0
          have HO1 := Lib.hid (own_empty wb wb.heap.size (Nat.le_refl _))
          have HB1 := Lib.hid (below1 wb (.cells #[] 3))
          have HX1 := Lib.hid (KS.out.below (HBB.out.trans (HB1.out.mono HBB.out.size)))
          have HX2 := Lib.hid (fun (W : World) (hW : Below wb.heap.size wb W) => KT.out.below (HBB.out.trans (hW.mono HBB.out.size)))
          go_upto_region 12 with (first | (at_builtin; (refine wpList_append_row _ rfl _ _ 28 rfl wb.heap.size 3 i0 (.int .i64 0) 1 8 Tryz.underlying28 hi hz0 hz1 hz2 rfl (by decide) _ i2 (ic (s.dropLast)) rfl hown3 _ i4 (ic (t.tail)) rfl ((HX2.out _ hbc).row' ET.out) (ic_one _) (by unfold maxLen; omega) (by omega) hbc.size ?_); intro vd wd hown4 hgrow4 hmv4; rw [← ic_app] at hown4; obtain ⟨vd1, vdc, rfl⟩ := own_dslice hown4; have hbd := hbc.grown hgrow4 hbc.size (fun q hq => (hown3.lt q hq).1)) | (at_builtin; (refine wpList_append_row _ rfl _ _ 28 rfl wb.heap.size 3 i0 (.int .i64 0) 1 8 Tryz.underlying28 hi hz0 hz1 hz2 rfl (by decide) _ 0 [] rfl HO1.out _ i2 (ic (s.dropLast)) rfl (HX1.out.row' ES.out) (ic_one _) (by unfold maxLen; omega) (by omega) (by simp) ?_); intro vc wc hown3 hgrow3 hmv3; rw [Nat.zero_add, List.nil_append] at hown3; obtain ⟨vc1, vcc, rfl⟩ := own_dslice hown3; have hbc := HB1.out.grown hgrow3 HB1.out.size (fun q hq => (HO1.out.lt q hq).1)))
          have HOD := Lib.hid (Iz.of_own hown4)
          have HOC := Lib.hid ((Iz.of_own HOB.out).below hbd)
          have HNW : Hid (Nw w.heap.size _ ∧ Nw w.heap.size _) := Lib.hid ⟨fun b h => (HOB.out.lt b h).1, fun b h => Nat.le_trans HBB.out.size (hown4.lt b h).1⟩
          try simp only [Nat.zero_add] at HNW
          have HBD := Lib.hid (HBB.out.trans (hbd.mono HBB.out.size))
          clear hown3 hown4 hgrow3 hgrow4 hmv3 hmv4 hbc hbd HB1 HO1 HOB HX1 HX2 HBB
          try simp only [Nat.zero_add] at HOD HOC
          have hlx : lrgB (m.dropLast ++ n.tail) (s.dropLast ++ t.tail) = (decide (256 < i1 + i3) || decide (256 < i2 + i4)) := by unfold lrgB; rw [List.length_append, List.length_append, ← (EM.out), ← (EN.out), ← (ES.out), ← (ET.out)]
          have HLX := Lib.hid hlx
          clear hlx
          try simp only [Nat.zero_add] at HLX
          by_cases hL1 : 256 < i1 + i3
          · have HV := Lib.hid (HJ.out.trans (closeA_large (HLX.out.trans (by rw [decide_eq_true (by omega)]; rfl))))
            go_wp2_with fail
            refine bodyPost_ret (v := .tuple #[.slice none 0 0, .slice none 0 0, .int .i64 6]) (by simp [results, Tryz.results66, go_sem]) rfl ?_
            rw [HV.out]
            exact ⟨⟨_, _, rfl, Iz.nil _, Iz.nil _, Nw.nil _, Nw.nil _⟩, HBD.out⟩
          by_cases hL2 : 256 < i2 + i4
          · have HV := Lib.hid (HJ.out.trans (closeA_large (HLX.out.trans (by rw [decide_eq_true (show 256 < i2 + i4 by omega), Bool.or_true]))))
            go_wp2_with fail
            refine bodyPost_ret (v := .tuple #[.slice none 0 0, .slice none 0 0, .int .i64 6]) (by simp [results, Tryz.results66, go_sem]) rfl ?_
            rw [HV.out]
            exact ⟨⟨_, _, rfl, Iz.nil _, Iz.nil _, Nw.nil _, Nw.nil _⟩, HBD.out⟩
          have hL0 : (decide (256 < i1 + i3) || decide (256 < i2 + i4)) = false := by rw [decide_eq_false hL1, decide_eq_false hL2]; rfl
          try simp only [Nat.zero_add] at hL0
          have HL0 := Lib.hid (HLX.out.trans hL0)
          clear hL0
          go_wp2_with fail
          refine (rsoundw_any _ _ _ _ _ HOC.out HOD.out).mono ?_
          rintro e we ⟨rfl, rfl⟩
          cases hss : sndS (m.dropLast ++ n.tail) (s.dropLast ++ t.tail) with
          | false =>
            have HV := Lib.hid (HJ.out.trans (closeA_bad HL0.out hss))
            go_wp2_with fail
            refine bodyPost_ret (v := .tuple #[.slice none 0 0, .slice none 0 0, .int .i64 2]) (by simp [results, Tryz.results66, go_sem]) rfl ?_
            rw [HV.out]
            exact ⟨⟨_, _, rfl, Iz.nil _, Iz.nil _, Nw.nil _, Nw.nil _⟩, HBD.out⟩
          | true =>
            have HV := Lib.hid (HJ.out.trans (closeA_ok HL0.out hss))
            go_wp2_with fail
            refine bodyPost_ret (v := .tuple #[.slice vb1 (i1 + i3) vbc, .slice vd1 (i2 + i4) vdc, .int .i64 0]) (by simp [results, Tryz.results66, go_sem]) rfl ?_
            rw [HV.out]
            try simp only [Nat.zero_add]
            exact ⟨⟨_, _, rfl, HOC.out, HOD.out, HNW.out.1, HNW.out.2⟩, HBD.out⟩
end Go.Proofs.YtbfcbicbeagjkaaGreatDoor
