/- StoreNames -/
import Derived.Test.YthkbggakgcejoaaStLaw
import Derived.Test.YthkbggakgcejoaaStNm
import Derived.Laws.StructEq
namespace Go.Proofs.Ythkbggakgcejoaa
open Go.RowKit

theorem srow_at {w : World} {lv : Value} {l : List ByteArray} (h : RowV w lv l.length 1 (l.map Value.string)) {k : Nat} (hk : k < l.length) : ∃ b off cap, lv = .slice (some ⟨b, off, none⟩) l.length cap ∧ b < w.heap.size ∧ w.cell? ⟨b, off + k, none⟩ = some (.string (l[k]'hk)) := by
  obtain ⟨_, _, ao, cap, rfl, _, h⟩ := h
  rcases h with ⟨h0, _⟩ | ⟨b, off, rfl, hb, hc⟩
  · omega
  · exact ⟨b, off, cap, rfl, hb, hc _ _ (by simp [hk])⟩
theorem nodup_inj {ns : List ByteArray} (h : ns.Nodup) {i j : Nat} (hi : i < ns.length) (hj : j < ns.length) (e : ns[i]'hi = ns[j]'hj) : i = j := by
  rcases Nat.lt_trichotomy i j with h1 | h1 | h1
  · exact absurd e (List.pairwise_iff_getElem.1 h i j hi hj h1)
  · exact h1
  · exact absurd e.symm (List.pairwise_iff_getElem.1 h j i hj hi h1)
def sN (ns : List ByteArray) : St := ⟨0, 0, [], ns⟩
theorem sN_col (ns : List ByteArray) : (sN ns).col [] = sN ns := rfl
/-- What the first names have: their values, and the names that the store has. -/
def SyR (l0 : List ByteArray) (ns : List ByteArray) (l : List (Int × Int)) : Prop := ns.length ≤ l.length ∧ ∀ j (h : j < l0.length), j < l.length → (1 ≤ (l0[j]'h).size ∧ (l0[j]'h).size ≤ 64) → ∃ m, ∃ hm : m < ns.length, l[j]? = some (6, ((m : Nat) : Int)) ∧ ns[m]'hm = l0[j]'h
theorem SyR.step {l0 ns : List ByteArray} {l : List (Int × Int)} (h : SyR l0 ns l) (hi : l.length < l0.length) {r : (Int × Int) × Int} {s' : St} (hs : SymR (sN ns) (l0[l.length]'hi) r s') : ∃ ns', s' = sN ns' ∧ SyR l0 ns' (l ++ [r.1]) := by
  have old : ∀ ns', ns.length ≤ ns'.length → (∀ m (hm : m < ns.length) (hm' : m < ns'.length), ns'[m]'hm' = ns[m]'hm) → ns'.length ≤ l.length + 1 → ((1 ≤ (l0[l.length]'hi).size ∧ (l0[l.length]'hi).size ≤ 64) → ∃ m, ∃ hm : m < ns'.length, r.1 = (6, ((m : Nat) : Int)) ∧ ns'[m]'hm = l0[l.length]'hi) → SyR l0 ns' (l ++ [r.1]) := by
    intro ns' h1 h2 h3 h4
    refine ⟨by simpa using h3, fun j hj hjl hg => ?_⟩
    rw [List.length_append, List.length_singleton] at hjl
    rcases Nat.lt_or_ge j l.length with hlt | hge
    · obtain ⟨m, hm, e1, e2⟩ := h.2 j hj hlt hg
      exact ⟨m, by omega, by rw [List.getElem?_append_left hlt]; exact e1, (h2 m hm (by omega)).trans e2⟩
    · obtain rfl : j = l.length := by omega
      obtain ⟨m, hm, e1, e2⟩ := h4 hg
      exact ⟨m, hm, by rw [List.getElem?_append_right (Nat.le_refl _), Nat.sub_self, e1]; rfl, e2⟩
  have hl := h.1
  rcases hs with ⟨hb, _, rfl⟩ | ⟨_, j, hj, hr, hjt, rfl | rfl⟩
  · exact ⟨ns, rfl, old ns (Nat.le_refl _) (fun _ _ _ => rfl) (by omega) fun hg => by omega⟩
  · exact ⟨ns, rfl, old ns (Nat.le_refl _) (fun _ _ _ => rfl) (by omega) fun _ => ⟨j, hj, by rw [hr], hjt⟩⟩
  · exact ⟨ns ++ [l0[l.length]'hi], rfl, old _ (by simp) (fun m hm _ => List.getElem_append_left hm) (by simp; omega) fun _ => ⟨j, hj, by rw [hr], hjt⟩⟩
theorem qsym {w0 w : World} {g : Nat} {R : Nat → Nat} {s : St} {t : ByteArray} (h : StQ w0 w g R s) (hn : s.ns.length < 1000000) :
    Calls Try.prog 25 #[.pointer (some ⟨g, 0, none⟩), .string t] w fun e w' => ∃ r s', e = .returned (.tuple #[.agg #[.int .i64 r.1.1, .int .i64 r.1.2], .int .i64 r.2]) ∧ SymR s t r s' ∧ QPost w0 w g R s' w' :=
  (stsymbol_any g R s t w h.st hn).mono fun _ _ ⟨r, s', h1, h2, h3⟩ => ⟨r, s', h1, h2, h.step h3⟩
theorem qname {w0 w : World} {g : Nat} {R : Nat → Nat} {ns : List ByteArray} {t : ByteArray} {m : Nat} (h : StQ w0 w g R (sN ns)) (hm : m < ns.length) (ht : ns[m]'hm = t) (hz : t.size ≤ 1000) :
    Calls Try.prog 26 #[.pointer (some ⟨g, 0, none⟩), .agg #[.int .i64 6, .int .i64 (m : Nat)]] w fun e w' => e = .returned (.tuple #[.string t, .int .i64 0]) ∧ Below w.heap.size w w' :=
  (stname_ok g R (sN ns) m w h.st hm (by show (ns[m]'hm).size ≤ 1000; rw [ht]; exact hz)).mono fun _ _ ⟨h1, h2⟩ => ⟨h1.trans (by show Ending.returned (.tuple #[.string (ns[m]'hm), _]) = _; rw [ht]), h2⟩

set_option maxRecDepth 100000 in
set_option maxHeartbeats 8000000 in
theorem storenames_any (v0 : Value) (l0 : List ByteArray) (w : World) (s0 : RowV w v0 l0.length 1 (l0.map Value.string)) :
    Calls Try.prog 7 #[v0] w fun e w' => e = .returned (.bool true) ∧ Below w.heap.size w w' := by
  obtain ⟨i0, hi, hz0, hz1, hz2⟩ := info_parts infoVal
  have HI := Lib.hid (And.intro hi (And.intro hz0 (And.intro hz1 hz2)))
  clear hi hz0 hz1 hz2
  have HV1 := Lib.hid vrow1
  have HS0 := Lib.hid s0
  obtain ⟨xo, xc, rfl⟩ : ∃ xo xc, v0 = .slice xo l0.length xc := by obtain ⟨_, _, a, c, e, _⟩ := s0; exact ⟨a, c, e⟩
  clear s0
  have HNEW := Lib.hid (qnew 0 w w (Below.refl _ _) (by omega))
  rw [show ((0 : Nat) : Int) = 0 from rfl] at HNEW
  go_enter Try.func7, Try.ntmps7
  go_wp2_with fail
  refine HNEW.out.mono ?_
  rintro e w1 ⟨g, hg, rfl, hq, hb⟩
  have HQ1 : Hid (StQ w w1 g (Rnew g) (sN [])) := Lib.hid hq
  clear hq hb hg HNEW
  go_wp2_with fail
  refine (answers6_any _).mono ?_
  rintro e w2 ⟨rfl, hb2⟩
  have HQ2 := Lib.hid (HQ1.out.below hb2)
  clear hb2
  go_wp2_with fail
  go_loopw [5, 6] (fun c v wr => ∃ (R : Nat → Nat) (ns : List ByteArray) (l : List (Int × Int)), l.length ≤ l0.length ∧ l.length ≤ 60 ∧ v = .int .i64 ((l.length : Nat) : Int) ∧ StQ w wr g R (sN ns) ∧ Own w wr R c l ∧ SyR l0 ns l) (fun _ v _ => 60 - (intOf v).toNat)
  case atStart => exact ⟨_, [], [], Nat.zero_le _, Nat.zero_le _, rfl, HQ2.out, Own.nil _ _ _, by simp, fun j h hj => by simp at hj⟩
  case round =>
    obtain ⟨R, ns, l, hl0, hl60, rfl, hq, how, hsy⟩ := hrel
    have HQ := Lib.hid hq
    have HOW := Lib.hid how
    have HSY := Lib.hid hsy
    obtain ⟨ao, ac, hav⟩ := own_dslice how.row
    subst hav
    clear hq how hsy
    by_cases hc : l.length < l0.length ∧ l.length < 60
    · obtain ⟨hlt, h60⟩ := hc
      have hii : ((l.length : Nat) : Int) < ((l0.length : Nat) : Int) := by omega
      have h6i : ((l.length : Nat) : Int) < 60 := by omega
      obtain ⟨xb, xoff, xcap, e, _, c0⟩ := srow_at (HS0.out.below HQ.out.bel) hlt
      simp only [Value.slice.injEq, true_and] at e
      obtain ⟨rfl, rfl⟩ := e
      obtain ⟨t, ht⟩ : ∃ t, t = l0[l.length]'hlt := ⟨_, rfl⟩
      rw [← ht] at c0
      have HT := Lib.hid ht
      clear ht
      go_wp2_with fail
      refine (qsym HQ.out (by have := HSY.out.1; show ns.length < 1000000; omega)).mono ?_
      rintro e w4 ⟨⟨⟨tg, nm⟩, ec⟩, s', rfl, hsym, R4, hq4, hf4, hr4⟩
      have HQ4 := Lib.hid hq4
      have HOW4 := Lib.hid (HOW.out.keep hf4 hr4)
      have HSM := Lib.hid hsym
      clear hq4 hf4 hr4 c0
      obtain ⟨xb1, xoff1, xcap1, e, hxb, c0⟩ := srow_at (HS0.out.below HQ4.out.bel) hlt
      simp only [Value.slice.injEq, true_and, Option.some.injEq, Addr.mk.injEq, and_true] at e
      obtain ⟨⟨rfl, rfl⟩, rfl⟩ := e
      rw [← HT.out] at c0
      have hcs : (¬ (1 : Int) ≤ (t.size : Int) ∧ ec = 1) ∨ ((1 : Int) ≤ (t.size : Int) ∧ ¬ (t.size : Int) ≤ 64 ∧ ec = 1) ∨ ((1 : Int) ≤ (t.size : Int) ∧ (t.size : Int) ≤ 64 ∧ ec = 0) := by
        rcases hsym with ⟨hb, he, _⟩ | ⟨hg, _, _, he, _⟩
        · simp only [Prod.mk.injEq] at he
          rcases hb with hb | hb
          · exact .inl ⟨by omega, he.2⟩
          · exact .inr (.inl ⟨by omega, by omega, he.2⟩)
        · simp only [Prod.mk.injEq] at he
          exact .inr (.inr ⟨by omega, by omega, he.2⟩)
      clear hsym
      simp only
      rcases hcs with ⟨h1, rfl⟩ | ⟨h1, h2, rfl⟩ | ⟨h1, h2, rfl⟩
      all_goals go_upto_region 11 with fail
      all_goals
        have HQ5 := Lib.hid (HQ4.out.alloc (.cells #[.int .i64 tg, .int .i64 nm] 35))
        have HOW5 := Lib.hid (HOW4.out.below (below1 w4 (.cells #[.int .i64 tg, .int .i64 nm] 35)))
        obtain ⟨b0, b1, _⟩ := row2 (box1 w4 #[.int .i64 tg, .int .i64 nm] 35)
        clear c0 h1 hii h6i
        generalize w4.alloc (.cells #[.int .i64 tg, .int .i64 nm] 35) = w5 at *
        have HOW7 := Lib.hid ((HOW5.out.below (below1 w5 (.cells #[.int .i64 tg, .int .i64 nm] 35))).row)
        have hi0 := HI.out.1
        have hz0 := HI.out.2.1
        have hz1 := HI.out.2.2.1
        have hz2 := HI.out.2.2.2
        go_wp2_with (at_builtin; go_loud (refine wpList_append_row _ rfl _ _ 33 rfl w.heap.size 35 i0 _ 2 16 Try.underlying33 hi0 hz0 hz1 hz2 rfl (by decide) (.slice ao l.length ac) l.length (vcs l) rfl HOW7.out _ 1 (vcs [(tg, nm)]) rfl (HV1.out _ (tg, nm)) (vcs_one _) (by unfold maxLen; omega) (by omega) (by have := HQ5.out.bel.size; simp; omega) ?_); go_loud (intro v' w7 hown7 hgrow7 hmv7; rw [← vcs_append] at hown7; have HO7 := Lib.hid hown7; have HG7 := Lib.hid hgrow7; have HM7 := Lib.hid hmv7; clear hown7 hgrow7 hmv7 hi0 hz0 hz1 hz2))
        go_roundw
        case measure => simp only [intOf]; omega
        case rel =>
          have hof : ∀ b, (Value.slice ao l.length ac).ownBlock = some b → w.heap.size ≤ b ∧ R4 b = 0 := fun b hb => ⟨(HOW5.out.row.lt b hb).1, HOW5.out.free b hb⟩
          obtain ⟨ns', rfl, hsy'⟩ := HSY.out.step hlt (HT.out ▸ HSM.out)
          have hq7 := (HQ5.out.alloc (.cells #[.int .i64 tg, .int .i64 nm] 35)).grown HG7.out fun b hb => hof b hb
          refine ⟨R4, ns', l ++ [(tg, nm)], by simp; omega, by simp; omega, by rw [List.length_append]; go_num, hq7, ⟨by rw [List.length_append]; exact HO7.out, fun b hb => ?_⟩, hsy'⟩
          rcases HM7.out with e | ⟨b2, e, hge⟩
          · exact (hof b (e ▸ hb)).2
          · rw [e] at hb
            injection hb with hb
            subst hb
            exact HQ5.out.new_zero (by simp at hge; omega)
    · have hexit : (¬ ((l.length : Nat) : Int) < ((l0.length : Nat) : Int)) ∨ (((l.length : Nat) : Int) < ((l0.length : Nat) : Int) ∧ ¬ ((l.length : Nat) : Int) < 60) := by omega
      clear hc
      rcases hexit with h1 | ⟨h1, h2⟩
      all_goals
        go_wp2_with fail
        refine (qcol (rs := []) HQ.out (vrow0 _) (by simp) (fun b h _ => absurd rfl h) rfl).mono ?_
        rintro e w4 ⟨cv, rfl, _, R4, hq4, hf4, hr4⟩
        rw [sN_col] at hq4
        have HQ4 := Lib.hid hq4
        have HOW4 := Lib.hid (HOW.out.keep hf4 hr4)
        clear hq4 hf4 hr4 h1
        go_wp2_with fail
        go_loopw [9] (fun v wr => ∃ i : Nat, i ≤ l.length ∧ v = .int .i64 (i : Nat) ∧ StQ w wr g R4 (sN ns) ∧ Own w wr R4 (.slice ao l.length ac) l) (fun v _ => l.length - (intOf v).toNat)
        case atStart => exact ⟨0, Nat.zero_le _, rfl, HQ4.out, HOW4.out⟩
        case round =>
          obtain ⟨i, hi, rfl, hq, how⟩ := hrel
          have HQ5 := Lib.hid hq
          have HOW5 := Lib.hid how
          clear hq how
          by_cases hlt : i < l.length
          · have hii : ((i : Nat) : Int) < ((l.length : Nat) : Int) := by omega
            have hlt0 : i < l0.length := by omega
            have hii0 : ((i : Nat) : Int) < ((l0.length : Nat) : Int) := by omega
            obtain ⟨xb, xoff, xcap, e, hxb, c0⟩ := srow_at (HS0.out.below HQ5.out.bel) hlt0
            simp only [Value.slice.injEq, true_and] at e
            obtain ⟨rfl, rfl⟩ := e
            obtain ⟨t, ht⟩ : ∃ t, t = l0[i]'hlt0 := ⟨_, rfl⟩
            rw [← ht] at c0
            have HT := Lib.hid ht
            clear ht
            by_cases hg : 1 ≤ t.size ∧ t.size ≤ 64
            · obtain ⟨m, hm, hlm, hnm⟩ := HSY.out.2 i hlt0 hlt (by rw [← HT.out]; exact hg)
              have hgt : l[i] = (6, ((m : Nat) : Int)) := (List.getElem?_eq_some_iff.1 hlm).2
              obtain ⟨lb, loff, lcap, e, _, d0, d1⟩ := vrow_at HOW5.out.rowV hlt
              simp only [Value.slice.injEq, true_and] at e
              obtain ⟨rfl, rfl⟩ := e
              rw [hgt] at d0 d1
              simp only at d0 d1
              have h1 : ¬ (t.size : Int) < 1 := by omega
              have h2 : ¬ (64 : Int) < (t.size : Int) := by omega
              have HG := Lib.hid hg
              have HNM := Lib.hid (hnm.trans HT.out.symm)
              clear hg hlm hnm hgt
              go_wp2_with fail
              refine (qname HQ5.out hm HNM.out (by have := HG.out.2; omega)).mono ?_
              rintro e w6 ⟨rfl, hb6⟩
              have HQ6 := Lib.hid (HQ5.out.below hb6)
              have HOW6 := Lib.hid (HOW5.out.below hb6)
              clear hb6 c0 d0 d1 hxb
              obtain ⟨xb1, xoff1, xcap1, e, hxb, c0⟩ := srow_at (HS0.out.below HQ6.out.bel) hlt0
              simp only [Value.slice.injEq, true_and, Option.some.injEq, Addr.mk.injEq, and_true] at e
              obtain ⟨⟨rfl, rfl⟩, rfl⟩ := e
              rw [← HT.out] at c0
              go_wp2_with fail
              go_loopw [12] (fun v wr => ∃ k : Nat, k ≤ i ∧ v = .int .i64 (k : Nat) ∧ StQ w wr g R4 (sN ns) ∧ Own w wr R4 (.slice (some ⟨lb, loff, none⟩) l.length ac) l) (fun v _ => i - (intOf v).toNat)
              case atStart => exact ⟨0, Nat.zero_le _, rfl, HQ6.out, HOW6.out⟩
              case round =>
                obtain ⟨k, hk, rfl, hq, how⟩ := hrel
                have HQ7 := Lib.hid hq
                have HOW7 := Lib.hid how
                clear hq how c0 hxb
                by_cases hki : k < i
                · have hkk : ((k : Nat) : Int) < ((i : Nat) : Int) := by omega
                  have hk0 : k < l0.length := by omega
                  have hkl : k < l.length := by omega
                  have hkk0 : ((k : Nat) : Int) < ((l0.length : Nat) : Int) := by omega
                  have hkkl : ((k : Nat) : Int) < ((l.length : Nat) : Int) := by omega
                  obtain ⟨xb1, xoff1, xcap1, e, _, c0⟩ := srow_at (HS0.out.below HQ7.out.bel) hlt0
                  simp only [Value.slice.injEq, true_and, Option.some.injEq, Addr.mk.injEq, and_true] at e
                  obtain ⟨⟨rfl, rfl⟩, rfl⟩ := e
                  rw [← HT.out] at c0
                  obtain ⟨xb2, xoff2, xcap2, e, _, c1⟩ := srow_at (HS0.out.below HQ7.out.bel) hk0
                  simp only [Value.slice.injEq, true_and, Option.some.injEq, Addr.mk.injEq, and_true] at e
                  obtain ⟨⟨rfl, rfl⟩, rfl⟩ := e
                  obtain ⟨u, hu⟩ : ∃ u, u = l0[k]'hk0 := ⟨_, rfl⟩
                  rw [← hu] at c1
                  have HU := Lib.hid hu
                  clear hu
                  have hcs : (decide ((1 : Int) ≤ (u.size : Int)) = false) ∨ (decide ((1 : Int) ≤ (u.size : Int)) = true ∧ decide ((u.size : Int) ≤ 64) = false) ∨ (decide ((1 : Int) ≤ (u.size : Int)) = true ∧ decide ((u.size : Int) ≤ 64) = true) := by
                    simp only [decide_eq_true_iff, decide_eq_false_iff_not]
                    omega
                  rcases hcs with hA | ⟨hA, hB⟩ | ⟨hA, hB⟩
                  · go_wp2_with fail
                    go_quiet (fail)
                    go_wp2_with fail
                    go_roundw
                    case measure => simp only [intOf]; omega
                    case rel => exact ⟨k + 1, by omega, by go_num, HQ7.out.below (below_drewN (Below.refl _ _) _), HOW7.out.below (below_drewN (Below.refl _ _) _)⟩
                  · go_wp2_with fail
                    go_quiet (fail)
                    go_wp2_with fail
                    go_roundw
                    case measure => simp only [intOf]; omega
                    case rel => exact ⟨k + 1, by omega, by go_num, HQ7.out.below (below_drewN (Below.refl _ _) _), HOW7.out.below (below_drewN (Below.refl _ _) _)⟩
                  · obtain ⟨n, hn, hln, hnn⟩ := HSY.out.2 k hk0 hkl (by rw [← HU.out]; simp only [decide_eq_true_iff] at hA hB; omega)
                    have hgk : l[k] = (6, ((n : Nat) : Int)) := (List.getElem?_eq_some_iff.1 hln).2
                    have hgi : l[i] = (6, ((m : Nat) : Int)) := by obtain ⟨m', hm', e1, e2⟩ := HSY.out.2 i hlt0 hlt (by rw [← HT.out]; exact HG.out); have h5 := (List.getElem?_eq_some_iff.1 e1).2; rw [h5]; have h6 : m' = m := nodup_inj HQ7.out.ok.nd hm' hm (e2.trans (HT.out.symm.trans HNM.out.symm)); rw [h6]
                    obtain ⟨lb1, loff1, lcap1, e, _, d0, d1⟩ := vrow_at HOW7.out.rowV hlt
                    simp only [Value.slice.injEq, true_and, Option.some.injEq, Addr.mk.injEq, and_true] at e
                    obtain ⟨⟨rfl, rfl⟩, rfl⟩ := e
                    obtain ⟨lb2, loff2, lcap2, e, _, q0, q1⟩ := vrow_at HOW7.out.rowV hkl
                    simp only [Value.slice.injEq, true_and, Option.some.injEq, Addr.mk.injEq, and_true] at e
                    obtain ⟨⟨rfl, rfl⟩, rfl⟩ := e
                    rw [hgi] at d0 d1
                    rw [hgk] at q0 q1
                    simp only at d0 d1 q0 q1
                    have hmn : m = n ↔ t = u := by
                      rw [← HNM.out, HU.out, ← hnn]
                      exact ⟨fun e => by subst e; rfl, fun e => nodup_inj HQ7.out.ok.nd hm hn e⟩
                    clear hln hnn hgk hgi
                    by_cases htu : t = u
                    · obtain rfl := hmn.2 htu
                      subst htu
                      clear hmn
                      go_wp2_with fail
                      go_quiet (fail)
                      go_wp2_with fail
                      go_roundw
                      case measure => simp only [intOf]; omega
                      case rel => exact ⟨k + 1, by omega, by go_num, HQ7.out.below (below_drewN (Below.refl _ _) _), HOW7.out.below (below_drewN (Below.refl _ _) _)⟩
                    · have hne : (((m : Nat) : Int) == ((n : Nat) : Int)) = false := by rw [beq_eq_false_iff_ne]; intro e; exact htu (hmn.1 (by omega))
                      clear hmn
                      have hs1 : ¬ t.toList = u.toList := fun e => htu (by rw [ByteArray.toList_eq, ByteArray.toList_eq] at e; exact Go.WideShapes.bytes_inj e)
                      have hs2 : (t.toList == u.toList) = false := by rw [beq_eq_false_iff_ne]; exact hs1
                      go_wp2_with fail
                      go_quiet (fail)
                      go_wp2_with fail
                      go_roundw
                      case measure => simp only [intOf]; omega
                      case rel => exact ⟨k + 1, by omega, by go_num, HQ7.out.below (below_drewN (Below.refl _ _) _), HOW7.out.below (below_drewN (Below.refl _ _) _)⟩
                · obtain rfl : k = i := by omega
                  have hkk : ¬ ((k : Nat) : Int) < ((k : Nat) : Int) := by omega
                  go_wp2_with fail
                  go_roundw
                  case measure => simp only [intOf]; omega
                  case rel => exact ⟨k + 1, by omega, by go_num, HQ7.out, HOW7.out⟩
            · have hcs : ((t.size : Int) < 1) ∨ (¬ (t.size : Int) < 1 ∧ (64 : Int) < (t.size : Int)) := by omega
              clear hg
              rcases hcs with h1 | ⟨h1, h2⟩
              all_goals
                go_wp2_with fail
                go_roundw
                case measure => simp only [intOf]; omega
                case rel => exact ⟨i + 1, by omega, by go_num, HQ5.out, HOW5.out⟩
          · obtain rfl : i = l.length := by omega
            have hii : ¬ ((l.length : Nat) : Int) < ((l.length : Nat) : Int) := by omega
            go_wp2_with fail
            refine (qused HQ5.out).mono ?_
            rintro e w6 ⟨rfl, hb6⟩
            have HQ6 := Lib.hid (HQ5.out.below hb6)
            clear hb6
            rw [show (sN ns).U = 0 from rfl]
            go_wp2_with fail
            go_ret
            exact ⟨rfl, HQ6.out.bel⟩
end Go.Proofs.Ythkbggakgcejoaa
