/- Datums' texts tell them apart; the law PrintApart, at any world. -/
import Derived.Test.YtpahfhjgcflifaaDoorPrTxt
namespace Go.Proofs.YtpahfhjgcflifaaDoor
open Go.RowKit

/-- Datums that are the same have one text. -/
theorem strip_tg (g : Int → List Nat → Bool → List Nat → List Nat) : ∀ (m : Nat) (D E : Dm), D.sz ≤ m → D.strip = E.strip → D.tg g = E.tg g := by
  intro m
  induction m with
  | zero => intro D E h; have := sz_pos D; omega
  | succ m ih =>
    intro D E hm h
    obtain ⟨k, t, n, r, l, a⟩ := D
    obtain ⟨k', t', n', r', l', a'⟩ := E
    rw [strip_mk, strip_mk] at h
    simp only [Dm.mk.injEq, and_true] at h
    obtain ⟨rfl, rfl, rfl, rfl, hl⟩ := h
    rw [tg_mk, tg_mk]
    have hll : l.map (Dm.tg g) = l'.map (Dm.tg g) := by
      have hlen : l.length = l'.length := by simpa using congrArg List.length hl
      refine List.ext_getElem (by simpa using hlen) fun i h1 h2 => ?_
      rw [List.length_map] at h1 h2
      rw [List.getElem_map, List.getElem_map]
      refine ih _ _ (by have := Dm.sz_mem (d := .mk k t n r l a) (x := l[i]'h1) (List.getElem_mem h1); omega) ?_
      have := congrArg (·[i]?) hl
      simpa [h1, h2] using this
    rw [hll]
/-- A text has one datum. -/
theorem tx_inj {D E : Dm} (h1 : okD 64 D = true) (h2 : plainA D = true) (h3 : DBy D) (s1 : D.sz ≤ 8192) (k1 : okD 64 E = true) (k2 : plainA E = true) (k3 : DBy E) (s2 : E.sz ≤ 8192) (h : D.tb = E.tb) : D.strip = E.strip := by
  obtain ⟨a1, a2, _⟩ := tx_enc _ D (Nat.le_refl _) 64 h1 h2 h3
  obtain ⟨b1, b2, _⟩ := tx_enc _ E (Nat.le_refl _) 64 k1 k2 k3
  have hx : D.tx = E.tx := by
    have e1 := chars_enc D.tx a1
    have e2 := chars_enc E.tx b1
    rw [a2, h, ← b2, e2] at e1
    exact (Prod.mk.inj e1).1.symm
  obtain ⟨ws, p1, r1⟩ := reads_dm _ D (Nat.le_refl _) 64 h1 h2 h3 D.tx 0 ⟨[], by simp⟩ (.inl (by simp))
  obtain ⟨vs, p2, r2⟩ := reads_dm _ E (Nat.le_refl _) 64 k1 k2 k3 D.tx 0 ⟨[], by rw [hx]; simp⟩ (.inl (by rw [hx]; simp))
  rw [Nat.zero_add] at p1 p2
  rw [hx] at p1 p2
  have q1 := scanW_of p1
  have q2 := scanW_of p2
  rw [q1] at q2
  have hw : ws = vs := congrArg Prod.fst q2
  subst hw
  obtain ⟨d, hd, g1⟩ := (words_of r1 64 0).1 ⟨h1, s1⟩
  obtain ⟨e, he, g2⟩ := (words_of r2 64 0).1 ⟨k1, s2⟩
  rw [g1] at g2
  have he2 : d = e := by simpa using congrArg Prod.fst g2
  rw [← hd, ← he, he2]

/-- Two objects laid one behind the other. -/
theorem two_alloc (w : World) (o1 o2 : Obj) (W0 : World) (h : W0 = (w.alloc o1).alloc o2) : W0.heap[w.heap.size]? = some o1 ∧ W0.heap[w.heap.size + 1]? = some o2 ∧ Below w.heap.size w W0 ∧ w.heap.size + 1 < W0.heap.size := by
  subst h
  have b1 := below1 w o1
  refine ⟨?_, ?_, b1.trans ((below1 (w.alloc o1) o2).mono b1.size), by simp⟩
  · rw [Below.heap_alloc _ _ _ (by simp)]
    exact heap_alloc_new w _
  · have := heap_alloc_new (w.alloc o1) o2
    simpa using this
set_option maxRecDepth 100000 in
set_option maxHeartbeats 8000000 in
theorem papart_any (D G : Dm) (us vs : List Value) (w : World) (h1 : Lay w D us) (h2 : Lay w G vs) (hsA : Sm 1048576 D) (hsB : Sm 1048576 G) (ht : PrT w) :
    Calls Tryd.prog 6 #[.agg us.toArray, .agg vs.toArray] w (TrueP w) := by
  have hlen : us.length = 6 := by cases h1; rfl
  have hlen2 : vs.length = 6 := by cases h2; rfl
  obtain ⟨u0, u1, u2, u3, u4, u5, rfl⟩ : ∃ u0 u1 u2 u3 u4 u5, us = [u0, u1, u2, u3, u4, u5] := by
    match us, hlen with
    | [a, b, c, d, e, f], _ => exact ⟨a, b, c, d, e, f, rfl⟩
  obtain ⟨v0, v1, v2, v3, v4, v5, rfl⟩ : ∃ u0 u1 u2 u3 u4 u5, vs = [u0, u1, u2, u3, u4, u5] := by
    match vs, hlen2 with
    | [a, b, c, d, e, f], _ => exact ⟨a, b, c, d, e, f, rfl⟩
  have HLA := Lib.hid h1
  have HLB := Lib.hid h2
  have HSA := Lib.hid (hsA.mono (show 1048576 ≤ 1100000 by omega))
  have HSB := Lib.hid (hsB.mono (show 1048576 ≤ 1100000 by omega))
  have HSAO := Lib.hid hsA
  have HSBO := Lib.hid hsB
  have HT := Lib.hid ht
  clear h1 h2 hsA hsB ht hlen hlen2
  show Calls Tryd.prog 6 #[.agg #[u0, u1, u2, u3, u4, u5], .agg #[v0, v1, v2, v3, v4, v5]] w _
  go_enter Tryd.func6, Tryd.ntmps6
  go_wp2_with fail
  generalize hW0 : (w.alloc (.cells #[u0, u1, u2, u3, u4, u5] 33)).alloc (.cells #[v0, v1, v2, v3, v4, v5] 33) = W0
  obtain ⟨hx, hy, hb, hsz⟩ := two_alloc w _ _ W0 hW0.symm
  clear hW0
  have HX := Lib.hid hx
  have HY := Lib.hid hy
  have HB := Lib.hid hb
  clear hx hy hb
  refine (panswers_any _ (HT.out.below HB.out)).mono ?_
  rintro e w1 ⟨rfl, hb1⟩
  have HC := Lib.hid hb1
  clear hb1
  obtain ⟨c0, c1, c2, c3, c4, c5⟩ := row6 ((HC.out.block _ (by omega)).trans HX.out)
  have HLW := Lib.hid (HLA.out.keep (HB.out.trans (HC.out.mono HB.out.size)))
  go_wp2_with fail
  refine (light5_dm 100 D [u0, u1, u2, u3, u4, u5] _ 1 (by omega) (by omega) HLW.out).mono ?_
  rintro e wn ⟨rfl, hbn⟩
  replace HC := Lib.hid (HC.out.trans (hbn.mono HC.out.size))
  clear hbn HLW c0 c1 c2 c3 c4 c5
  cases hq1 : lightA 100 D
  case false =>
    go_wp2_with fail
    have hbf := HB.out.trans (HC.out.mono HB.out.size)
    refine (panswers_any _ (HT.out.below hbf)).mono ?_
    rintro e wf ⟨rfl, hbg⟩
    have HF := Lib.hid (hbf.trans (hbg.mono hbf.size))
    clear hbf hbg
    go_wp2_with fail
    go_ret
    exact ⟨rfl, HF.out⟩
  have HQ1 := Lib.hid hq1
  clear hq1
  obtain ⟨c0, c1, c2, c3, c4, c5⟩ := row6 ((HC.out.block _ (by omega)).trans HY.out)
  have HLW := Lib.hid (HLB.out.keep (HB.out.trans (HC.out.mono HB.out.size)))
  go_wp2_with fail
  refine (light5_dm 100 G [v0, v1, v2, v3, v4, v5] _ 1 (by omega) (by omega) HLW.out).mono ?_
  rintro e wn ⟨rfl, hbn⟩
  replace HC := Lib.hid (HC.out.trans (hbn.mono HC.out.size))
  clear hbn HLW c0 c1 c2 c3 c4 c5
  cases hq2 : lightA 100 G
  case false =>
    go_wp2_with fail
    have hbf := HB.out.trans (HC.out.mono HB.out.size)
    refine (panswers_any _ (HT.out.below hbf)).mono ?_
    rintro e wf ⟨rfl, hbg⟩
    have HF := Lib.hid (hbf.trans (hbg.mono hbf.size))
    clear hbf hbg
    go_wp2_with fail
    go_ret
    exact ⟨rfl, HF.out⟩
  have HQ2 := Lib.hid hq2
  clear hq2
  obtain ⟨c0, c1, c2, c3, c4, c5⟩ := row6 ((HC.out.block _ (by omega)).trans HX.out)
  have HLW := Lib.hid (HLA.out.keep (HB.out.trans (HC.out.mono HB.out.size)))
  go_wp2_with fail
  refine (rdsound_any D [u0, u1, u2, u3, u4, u5] _ HLW.out HSA.out).mono ?_
  rintro e wn ⟨rfl, hbn⟩
  replace HC := Lib.hid (HC.out.trans (hbn.mono HC.out.size))
  clear hbn HLW c0 c1 c2 c3 c4 c5
  cases hq3 : sndD D
  case false =>
    go_wp2_with fail
    have hbf := HB.out.trans (HC.out.mono HB.out.size)
    refine (panswers_any _ (HT.out.below hbf)).mono ?_
    rintro e wf ⟨rfl, hbg⟩
    have HF := Lib.hid (hbf.trans (hbg.mono hbf.size))
    clear hbf hbg
    go_wp2_with fail
    go_ret
    exact ⟨rfl, HF.out⟩
  have HQ3 := Lib.hid hq3
  clear hq3
  obtain ⟨c0, c1, c2, c3, c4, c5⟩ := row6 ((HC.out.block _ (by omega)).trans HY.out)
  have HLW := Lib.hid (HLB.out.keep (HB.out.trans (HC.out.mono HB.out.size)))
  go_wp2_with fail
  refine (rdsound_any G [v0, v1, v2, v3, v4, v5] _ HLW.out HSB.out).mono ?_
  rintro e wn ⟨rfl, hbn⟩
  replace HC := Lib.hid (HC.out.trans (hbn.mono HC.out.size))
  clear hbn HLW c0 c1 c2 c3 c4 c5
  cases hq4 : sndD G
  case false =>
    go_wp2_with fail
    have hbf := HB.out.trans (HC.out.mono HB.out.size)
    refine (panswers_any _ (HT.out.below hbf)).mono ?_
    rintro e wf ⟨rfl, hbg⟩
    have HF := Lib.hid (hbf.trans (hbg.mono hbf.size))
    clear hbf hbg
    go_wp2_with fail
    go_ret
    exact ⟨rfl, HF.out⟩
  have HQ4 := Lib.hid hq4
  clear hq4
  obtain ⟨c0, c1, c2, c3, c4, c5⟩ := row6 ((HC.out.block _ (by omega)).trans HX.out)
  have HLW := Lib.hid (HLA.out.keep (HB.out.trans (HC.out.mono HB.out.size)))
  go_wp2_with fail
  refine (rothers_any _ D (Nat.le_refl _) [u0, u1, u2, u3, u4, u5] _ HLW.out).mono ?_
  rintro e wn ⟨rfl, hbn⟩
  replace HC := Lib.hid (HC.out.trans (hbn.mono HC.out.size))
  clear hbn HLW c0 c1 c2 c3 c4 c5
  cases hq5 : hasK 11 D
  case true =>
    go_wp2_with fail
    have hbf := HB.out.trans (HC.out.mono HB.out.size)
    refine (panswers_any _ (HT.out.below hbf)).mono ?_
    rintro e wf ⟨rfl, hbg⟩
    have HF := Lib.hid (hbf.trans (hbg.mono hbf.size))
    clear hbf hbg
    go_wp2_with fail
    go_ret
    exact ⟨rfl, HF.out⟩
  have HQ5 := Lib.hid hq5
  clear hq5
  obtain ⟨c0, c1, c2, c3, c4, c5⟩ := row6 ((HC.out.block _ (by omega)).trans HX.out)
  have HLW := Lib.hid (HLA.out.keep (HB.out.trans (HC.out.mono HB.out.size)))
  go_wp2_with fail
  refine (rvoids_any _ D (Nat.le_refl _) [u0, u1, u2, u3, u4, u5] _ HLW.out).mono ?_
  rintro e wn ⟨rfl, hbn⟩
  replace HC := Lib.hid (HC.out.trans (hbn.mono HC.out.size))
  clear hbn HLW c0 c1 c2 c3 c4 c5
  cases hq6 : hasK 10 D
  case true =>
    go_wp2_with fail
    have hbf := HB.out.trans (HC.out.mono HB.out.size)
    refine (panswers_any _ (HT.out.below hbf)).mono ?_
    rintro e wf ⟨rfl, hbg⟩
    have HF := Lib.hid (hbf.trans (hbg.mono hbf.size))
    clear hbf hbg
    go_wp2_with fail
    go_ret
    exact ⟨rfl, HF.out⟩
  have HQ6 := Lib.hid hq6
  clear hq6
  obtain ⟨c0, c1, c2, c3, c4, c5⟩ := row6 ((HC.out.block _ (by omega)).trans HY.out)
  have HLW := Lib.hid (HLB.out.keep (HB.out.trans (HC.out.mono HB.out.size)))
  go_wp2_with fail
  refine (rothers_any _ G (Nat.le_refl _) [v0, v1, v2, v3, v4, v5] _ HLW.out).mono ?_
  rintro e wn ⟨rfl, hbn⟩
  replace HC := Lib.hid (HC.out.trans (hbn.mono HC.out.size))
  clear hbn HLW c0 c1 c2 c3 c4 c5
  cases hq7 : hasK 11 G
  case true =>
    go_wp2_with fail
    have hbf := HB.out.trans (HC.out.mono HB.out.size)
    refine (panswers_any _ (HT.out.below hbf)).mono ?_
    rintro e wf ⟨rfl, hbg⟩
    have HF := Lib.hid (hbf.trans (hbg.mono hbf.size))
    clear hbf hbg
    go_wp2_with fail
    go_ret
    exact ⟨rfl, HF.out⟩
  have HQ7 := Lib.hid hq7
  clear hq7
  obtain ⟨c0, c1, c2, c3, c4, c5⟩ := row6 ((HC.out.block _ (by omega)).trans HY.out)
  have HLW := Lib.hid (HLB.out.keep (HB.out.trans (HC.out.mono HB.out.size)))
  go_wp2_with fail
  refine (rvoids_any _ G (Nat.le_refl _) [v0, v1, v2, v3, v4, v5] _ HLW.out).mono ?_
  rintro e wn ⟨rfl, hbn⟩
  replace HC := Lib.hid (HC.out.trans (hbn.mono HC.out.size))
  clear hbn HLW c0 c1 c2 c3 c4 c5
  cases hq8 : hasK 10 G
  case true =>
    go_wp2_with fail
    have hbf := HB.out.trans (HC.out.mono HB.out.size)
    refine (panswers_any _ (HT.out.below hbf)).mono ?_
    rintro e wf ⟨rfl, hbg⟩
    have HF := Lib.hid (hbf.trans (hbg.mono hbf.size))
    clear hbf hbg
    go_wp2_with fail
    go_ret
    exact ⟨rfl, HF.out⟩
  have HQ8 := Lib.hid hq8
  clear hq8
  have HWD : Hid (okD 64 D = true ∧ D.sz ≤ 8192 ∧ plainA D = true ∧ DBy D) := Lib.hid (by
    have h := HQ3.out
    unfold sndD at h
    rw [Bool.and_eq_true, decide_eq_true_iff] at h
    exact ⟨h.1, h.2, by unfold plainA; rw [HQ5.out, HQ6.out]; rfl, HLA.out.dby⟩)
  have HWG : Hid (okD 64 G = true ∧ G.sz ≤ 8192 ∧ plainA G = true ∧ DBy G) := Lib.hid (by
    have h := HQ4.out
    unfold sndD at h
    rw [Bool.and_eq_true, decide_eq_true_iff] at h
    exact ⟨h.1, h.2, by unfold plainA; rw [HQ7.out, HQ8.out]; rfl, HLB.out.dby⟩)
  have HBN := Lib.hid (HB.out.trans (HC.out.mono HB.out.size))
  clear HQ1 HQ2 HQ5 HQ6 HQ7 HQ8
  obtain ⟨c0, c1, c2, c3, c4, c5⟩ := row6 ((HC.out.block _ (by omega)).trans HX.out)
  go_wp2_with fail
  clear c0 c1 c2 c3 c4 c5
  refine (own5_dm 1048576 (by omega) _ D (Nat.le_refl _) HSAO.out [u0, u1, u2, u3, u4, u5] _ (HLA.out.keep HBN.out)).mono ?_
  rintro e w2 ⟨us2, rfl, hl2, hb⟩
  have HC2 := Lib.hid (HC.out.trans (hb.mono HC.out.size))
  clear hb
  obtain ⟨k3, t3, n3, p3, q3, r3, p4, q4, r4, a3, rfl⟩ := hl2.lay.slots
  have HL2 := Lib.hid hl2.lay
  clear hl2
  go_wp2_with fail
  refine (print_any D [.int .i64 k3, .string t3, .bool n3, .slice p3 q3 r3, .slice p4 q4 r4, .int .i64 a3] w2 HL2.out HSA.out (HT.out.below (HB.out.trans (HC2.out.mono HB.out.size)))).mono ?_
  rintro e w3 ⟨⟨_, rfl⟩ | ⟨hq, _⟩, hb⟩
  case inr => rw [HQ3.out] at hq; cases hq
  have HC3 := Lib.hid (HC2.out.trans (hb.mono HC2.out.size))
  clear hb HL2 HC2
  obtain ⟨S, hS⟩ : ∃ S, S = mkB D.tb := ⟨_, rfl⟩
  rw [← hS]
  have HS := Lib.hid hS
  clear hS
  obtain ⟨c0, c1, c2, c3, c4, c5⟩ := row6 ((HC3.out.block _ (by omega)).trans HY.out)
  go_wp2_with fail
  clear c0 c1 c2 c3 c4 c5
  refine (own5_dm 1048576 (by omega) _ G (Nat.le_refl _) HSBO.out [v0, v1, v2, v3, v4, v5] _ (HLB.out.keep (HB.out.trans (HC3.out.mono HB.out.size)))).mono ?_
  rintro e w4 ⟨us4, rfl, hl4, hb⟩
  have HC4 := Lib.hid (HC3.out.trans (hb.mono HC3.out.size))
  clear hb
  obtain ⟨k5, t5, n5, p5, q5, r5, p6, q6, r6, a5, rfl⟩ := hl4.lay.slots
  have HL4 := Lib.hid hl4.lay
  clear hl4
  go_wp2_with fail
  refine (print_any G [.int .i64 k5, .string t5, .bool n5, .slice p5 q5 r5, .slice p6 q6 r6, .int .i64 a5] w4 HL4.out HSB.out (HT.out.below (HB.out.trans (HC4.out.mono HB.out.size)))).mono ?_
  rintro e w5 ⟨⟨_, rfl⟩ | ⟨hq, _⟩, hb⟩
  case inr => rw [HQ4.out] at hq; cases hq
  have HC5 := Lib.hid (HC4.out.trans (hb.mono HC4.out.size))
  clear hb HL4 HC4
  obtain ⟨U, hU⟩ : ∃ U, U = mkB G.tb := ⟨_, rfl⟩
  rw [← hU]
  have HU := Lib.hid hU
  clear hU
  have HB5 := Lib.hid (HB.out.trans (HC5.out.mono HB.out.size))
  by_cases c1 : 65536 < S.size
  · have i1 : (65536 : Int) < ((S.size : Nat) : Int) := by omega
    go_wp2_with fail
    go_ret
    exact ⟨rfl, HB5.out⟩
  have i1 : ¬ (65536 : Int) < ((S.size : Nat) : Int) := by omega
  have HEQ : Hid ((S.toList == U.toList) = sameA D G) := Lib.hid (by
    have hkey : S = U ↔ D.strip = G.strip := by
      rw [HS.out, HU.out]
      constructor
      · intro h
        have e1 := congrArg byt h
        rw [byt_mk (tb_by _ D (Nat.le_refl _) 64 HWD.out.1 HWD.out.2.2.2).1, byt_mk (tb_by _ G (Nat.le_refl _) 64 HWG.out.1 HWG.out.2.2.2).1] at e1
        exact tx_inj HWD.out.1 HWD.out.2.2.1 HWD.out.2.2.2 HWD.out.2.1 HWG.out.1 HWG.out.2.2.1 HWG.out.2.2.2 HWG.out.2.1 e1
      · intro h
        rw [show D.tb = G.tb from strip_tg leafB _ D G (Nat.le_refl _) h]
    by_cases h : D.strip = G.strip
    · rw [hkey.2 h, sameA_true h]; simp
    · have h2 : ¬ byt S = U.toList.map UInt8.toNat := fun e => by
        have e3 : U.toList.map UInt8.toNat = byt U := by unfold byt; rw [ByteArray.toList_eq]
        rw [e3] at e
        refine h (hkey.1 ?_)
        rw [← byt_mkB S, ← byt_mkB U, e]
      rw [lit_iff, decide_eq_false h2, sameA_false h])
  obtain ⟨c0, c1, c2, c3, c4, c5⟩ := row6 ((HC5.out.block _ (by omega)).trans HX.out)
  obtain ⟨d0, d1, d2, d3, d4, d5⟩ := row6 ((HC5.out.block _ (by omega)).trans HY.out)
  go_wp2_with fail
  clear c0 c1 c2 c3 c4 c5 d0 d1 d2 d3 d4 d5
  refine (rsame_dm _ D G (Nat.le_refl _) [u0, u1, u2, u3, u4, u5] [v0, v1, v2, v3, v4, v5] _ (HLA.out.keep HB5.out) (HLB.out.keep HB5.out)).mono ?_
  rintro e w6 ⟨rfl, hb⟩
  have H6 := Lib.hid (HB5.out.trans (hb.mono HB5.out.size))
  clear hb
  rw [← HEQ.out]
  go_wp2_with fail
  go_ret
  exact ⟨by simp, H6.out⟩
end Go.Proofs.YtpahfhjgcflifaaDoor
