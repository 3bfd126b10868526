/- The list of objects: Eqv. -/
import Derived.Test.YtimnhbndokfgnaaRsRead
import Derived.Test.YtimnhbndokfgnaaSmEqv2
namespace Go.Proofs.Ytimnhbndokfgnaa
open Go.RowKit

theorem slots_len (s : St) (v : Int × Int) : (s.slots v).length = s.len v := by
  unfold St.slots St.len
  cases s.obj v <;> rfl
theorem slots_get (s : St) (v : Int × Int) (i : Nat) : (s.get v ((i : Nat) : Int)).1 = ((s.slots v)[i]?).getD (0, 0) := by
  unfold St.get St.slots
  cases s.obj v with
  | none => simp
  | some o =>
    simp only
    rw [if_pos (by omega), Int.toNat_natCast]
    cases o.s[i]? <;> rfl
theorem slotsEq_slots (s : St) (a b : Int × Int) : s.slotsEq a b = decide (s.slots a = s.slots b) := by
  unfold St.slotsEq
  rw [decide_eq_decide]
  constructor
  · intro h
    refine List.ext_getElem (by rw [slots_len, slots_len]; exact h.1) fun i h1 h2 => ?_
    have := h.2 i (by rw [← slots_len]; exact h1)
    rw [slots_get, slots_get, List.getElem?_eq_getElem h1, List.getElem?_eq_getElem h2] at this
    exact this
  · intro h
    exact ⟨by rw [← slots_len, h, slots_len], fun i _ => by rw [slots_get, slots_get, h]⟩
theorem row_pair {W : World} {v : Value} {n : Nat} {l : List (Int × Int)} (h : RowV W v n 2 (vcs l)) (hn : n = l.length) {i : Nat} (hi : i < l.length) :
    ∃ b off cap, v = .slice (some ⟨b, off, none⟩) n cap ∧ b < W.heap.size ∧ W.cell? ⟨b, off + i * 2, none⟩ = some (.int .i64 (l[i]'hi).1) ∧ W.cell? ⟨b, off + i * 2 + 1, none⟩ = some (.int .i64 (l[i]'hi).2) := by
  obtain ⟨_, _, ao, cap, rfl, _, hr⟩ := h
  rcases hr with ⟨h0, _⟩ | ⟨b, off, rfl, hb, hc⟩
  · omega
  · have h2 := vcs_get l i hi
    have k1 := hc _ _ h2.1
    have k2 := hc _ _ h2.2
    exact ⟨b, off, cap, rfl, hb, k1, k2⟩

set_option maxRecDepth 100000 in
set_option maxHeartbeats 8000000 in
theorem reqv_any4 (g : Nat) (R : Nat → Nat) (s : St) (a0 a1 b0 b1 : Int) (w : World) (h : RsW w g R s) :
    Calls Try.prog 33 #[.pointer (some ⟨g, 0, none⟩), .agg #[.int .i64 a0, .int .i64 a1], .agg #[.int .i64 b0, .int .i64 b1]] w fun e w' => e = .returned (.bool (s.eqvA (a0, a1) (b0, b1))) ∧ Below w.heap.size w w' := by
  have HS := Lib.hid h
  have HB2 := Lib.hid (below2 w (.cells #[.int .i64 a0, .int .i64 a1] 35) (.cells #[.int .i64 b0, .int .i64 b1] 35))
  obtain ⟨n0, n1⟩ := @news2 w (.cells #[.int .i64 a0, .int .i64 a1] 35) (.cells #[.int .i64 b0, .int .i64 b1] 35)
  have HN0 := Lib.hid n0
  have HN1 := Lib.hid n1
  obtain ⟨p0, p1, _⟩ := row2 n0
  obtain ⟨q0, q1, _⟩ := row2 n1
  obtain ⟨ka, hka⟩ : ∃ ka, ka = s.kind (a0, a1) := ⟨_, rfl⟩
  obtain ⟨kb, hkb⟩ : ∃ kb, kb = s.kind (b0, b1) := ⟨_, rfl⟩
  have HKA : Hid (∀ W, RsW W g R s → Calls Try.prog 50 #[.pointer (some ⟨g, 0, none⟩), .agg #[.int .i64 a0, .int .i64 a1]] W fun e w' => e = .returned (.int .i64 ka) ∧ Below W.heap.size W w') := Lib.hid fun W hW => by rw [hka]; exact rkind_any g R s (a0, a1) W hW
  have HKB : Hid (∀ W, RsW W g R s → Calls Try.prog 50 #[.pointer (some ⟨g, 0, none⟩), .agg #[.int .i64 b0, .int .i64 b1]] W fun e w' => e = .returned (.int .i64 kb) ∧ Below W.heap.size W w') := Lib.hid fun W hW => by rw [hkb]; exact rkind_any g R s (b0, b1) W hW
  have HEA := Lib.hid hka
  have HEB := Lib.hid hkb
  clear h n0 n1 hka hkb
  by_cases hab : ((a0, a1) : Int × Int) = (b0, b1)
  · have HE := Lib.hid (eqvA_same (s := s) hab)
    obtain ⟨rfl, rfl⟩ := Prod.mk.inj hab
    go_enter Try.func33, Try.ntmps33
    go_wp2_with fail
    go_ret
    exact ⟨ret_bl HE.out.symm, HB2.out⟩
  · have HAB := Lib.hid hab
    have hne : (a0 == b0) = false ∨ (a1 == b1) = false := by
      by_cases h1 : a0 = b0
      · refine .inr ?_
        rw [beq_eq_false_iff_ne]
        intro h2
        exact hab (by rw [h1, h2])
      · exact .inl (by rw [beq_eq_false_iff_ne]; exact h1)
    clear hab
    have hl1 : w.heap.size + 1 < ((w.alloc (.cells #[.int .i64 a0, .int .i64 a1] 35)).alloc (.cells #[.int .i64 b0, .int .i64 b1] 35)).heap.size := by simp
    have HL1 := Lib.hid hl1
    clear hl1
    rcases hne with hne | hne
    all_goals
      go_enter Try.func33, Try.ntmps33
      go_upto_region 1 with fail
      generalize (w.alloc (.cells #[.int .i64 a0, .int .i64 a1] 35)).alloc (.cells #[.int .i64 b0, .int .i64 b1] 35) = w1 at *
      go_wp2_with fail
      refine (HKA.out _ (HS.out.below HB2.out)).mono ?_
      rintro e w2 ⟨rfl, hb2⟩
      have HB3 := Lib.hid (HB2.out.trans (hb2.mono HB2.out.size))
      have HM0 := Lib.hid ((hb2.block w.heap.size (by have := HL1.out; omega)).trans HN0.out)
      have HM1 := Lib.hid ((hb2.block (w.heap.size + 1) HL1.out).trans HN1.out)
      clear hb2 p0 p1 q0 q1 hne
      by_cases h5 : ka = 5
      · have HEA5 := Lib.hid (HEA.out.symm.trans h5)
        subst h5
        obtain ⟨p0, p1, _⟩ := row2 HM0.out
        obtain ⟨q0, q1, _⟩ := row2 HM1.out
        go_wp2_with fail
        refine (HKB.out _ (HS.out.below HB3.out)).mono ?_
        rintro e w3 ⟨rfl, hb3⟩
        have HB4 := Lib.hid (HB3.out.trans (hb3.mono HB3.out.size))
        have HO0 := Lib.hid ((hb3.block w.heap.size (Array.getElem?_eq_some_iff.1 HM0.out).1).trans HM0.out)
        have HO1 := Lib.hid ((hb3.block (w.heap.size + 1) (Array.getElem?_eq_some_iff.1 HM1.out).1).trans HM1.out)
        clear hb3 p0 p1 q0 q1
        by_cases h6 : kb = 5
        · have HEB5 := Lib.hid (HEB.out.symm.trans h6)
          subst h6
          have HEQ := Lib.hid ((eqvA_big HAB.out HEA5.out HEB5.out).trans (slotsEq_slots s (a0, a1) (b0, b1)))
          obtain ⟨p0, p1, _⟩ := row2 HO0.out
          go_wp2_with fail
          refine (rslots_any g R s (a0, a1) _ (HS.out.below HB4.out)).mono ?_
          rintro e w4 ⟨lv, rfl, hb4, hr4, _⟩
          have HB5 := Lib.hid (HB4.out.trans (hb4.mono HB4.out.size))
          have HP1 := Lib.hid ((hb4.block (w.heap.size + 1) (Array.getElem?_eq_some_iff.1 HO1.out).1).trans HO1.out)
          clear hb4 p0 p1
          have hnb : (s.slots (a0, a1)).length ≤ 1048576 := by rw [slots_len]; exact HS.out.ok.lenv _
          obtain ⟨la, hla⟩ : ∃ la, s.slots (a0, a1) = la := ⟨_, rfl⟩
          rw [hla] at hr4 HEQ hnb
          obtain ⟨n, hn⟩ : ∃ n, n = la.length := ⟨_, rfl⟩
          rw [← hn] at hnb
          have HNB2 := Lib.hid hnb
          clear hnb
          rw [← hn] at hr4
          obtain ⟨ao, ac, rfl⟩ : ∃ ao ac, lv = .slice ao n ac := by obtain ⟨_, _, ao, c, e, _⟩ := hr4; exact ⟨ao, c, e⟩
          have HR4 := Lib.hid hr4
          have HNA := Lib.hid hn
          clear hla hr4 hn
          obtain ⟨q0, q1, _⟩ := row2 HP1.out
          go_wp2_with fail
          refine (rslots_any g R s (b0, b1) _ (HS.out.below HB5.out)).mono ?_
          rintro e w5 ⟨lv, rfl, hb5, hr5, _⟩
          have HB6 := Lib.hid (HB5.out.trans (hb5.mono HB5.out.size))
          have HRA := Lib.hid (HR4.out.below hb5)
          clear hb5 q0 q1 HR4
          obtain ⟨lb, hlb⟩ : ∃ lb, s.slots (b0, b1) = lb := ⟨_, rfl⟩
          rw [hlb] at hr5 HEQ
          obtain ⟨m, hm⟩ : ∃ m, m = lb.length := ⟨_, rfl⟩
          rw [← hm] at hr5
          obtain ⟨bo, bc, rfl⟩ : ∃ ao ac, lv = .slice ao m ac := by obtain ⟨_, _, ao, c, e, _⟩ := hr5; exact ⟨ao, c, e⟩
          have HRB := Lib.hid hr5
          have HNB := Lib.hid hm
          clear hlb hr5 hm
          by_cases hnm : n = m
          · subst hnm
            go_upto_region 9 with fail
            go_wp2_with fail
            go_loopw [9] (fun v wr => ∃ i : Nat, i ≤ n ∧ v = .int .i64 (i : Nat) ∧ Below w5.heap.size w5 wr ∧ ∀ j, j < i → la[j]? = lb[j]?) (fun v _ => n - (intOf v).toNat)
            case atStart => exact ⟨0, Nat.zero_le _, rfl, Below.refl _ _, fun j hj => absurd hj (Nat.not_lt_zero _)⟩
            case round =>
              obtain ⟨i, hi, rfl, hbr, heq⟩ := hrel
              have HBR := Lib.hid hbr
              have HJ := Lib.hid heq
              clear hbr heq
              by_cases hlt : i < n
              · have hii : ((i : Nat) : Int) < ((n : Nat) : Int) := by omega
                have hib3 : ((i : Nat) : Int) < 1048576 := by have := HNB2.out; omega
                have hia : i < la.length := by rw [← HNA.out]; exact hlt
                have hib : i < lb.length := by rw [← HNB.out]; exact hlt
                obtain ⟨ab, af, ac2, e1, _, c0, c1⟩ := row_pair (HRA.out.below HBR.out) HNA.out hia
                obtain ⟨bb, bf, bc2, e2, _, d0, d1⟩ := row_pair (HRB.out.below HBR.out) HNB.out hib
                have HIA := Lib.hid (List.getElem?_eq_getElem hia)
                have HIB := Lib.hid (List.getElem?_eq_getElem hib)
                generalize la[i]'hia = x at *
                generalize lb[i]'hib = y at *
                obtain ⟨x0, x1⟩ := x
                obtain ⟨y0, y1⟩ := y
                simp only at c0 c1 d0 d1
                injection e1 with e11 _ e13
                injection e2 with e21 _ e23
                subst e11 e13 e21 e23
                clear hia hib
                by_cases hxy : x0 = y0 ∧ x1 = y1
                · obtain ⟨rfl, rfl⟩ := hxy
                  go_upto_region 12 with fail
                  go_region
                  go_wp2_with fail
                  go_roundw
                  case measure => simp only [intOf]; omega
                  case rel => exact ⟨i + 1, by omega, by go_num, (by first | exact HBR.out | exact below_drewN HBR.out _ | exact HBR.out.drew), fun j hj => by
                    rcases Nat.lt_or_ge j i with h | h
                    · exact HJ.out j h
                    · obtain rfl : j = i := by omega
                      exact HIA.out.trans HIB.out.symm⟩
                · have hne : (x0 == y0) = false ∨ (x1 == y1) = false := by
                    by_cases h1 : x0 = y0
                    · refine .inr ?_
                      rw [beq_eq_false_iff_ne]
                      exact fun h2 => hxy ⟨h1, h2⟩
                    · exact .inl (by rw [beq_eq_false_iff_ne]; exact h1)
                  have HNE := Lib.hid hxy
                  clear hxy
                  rcases hne with hne | hne
                  all_goals
                    go_upto_region 12 with fail
                    go_region
                    go_wp2_with fail
                    go_ret
                    refine ⟨ret_bl (HEQ.out.trans (by
                      rw [decide_eq_false_iff_not]
                      intro h
                      subst h
                      have := HIA.out.symm.trans HIB.out
                      injection this with this
                      exact HNE.out (Prod.mk.inj this))).symm, ?_⟩
                    have hB := HB6.out.trans (HBR.out.mono HB6.out.size)
                    first | exact hB | exact below_drewN hB _ | exact hB.drew
              · have hge : ¬ ((i : Nat) : Int) < ((n : Nat) : Int) := by omega
                go_wp2_with fail
                go_ret
                refine ⟨ret_bl (HEQ.out.trans (by
                  rw [decide_eq_true_iff]
                  refine List.ext_getElem? fun j => ?_
                  rcases Nat.lt_or_ge j i with h | h
                  · exact HJ.out j h
                  · rw [List.getElem?_eq_none (by have := HNA.out; omega), List.getElem?_eq_none (by have := HNB.out; omega)])).symm, HB6.out.trans (HBR.out.mono HB6.out.size)⟩
          · have hnm2 : (((n : Nat) : Int) == ((m : Nat) : Int)) = false := by rw [beq_eq_false_iff_ne]; omega
            have HNM := Lib.hid hnm
            clear hnm
            go_wp2_with fail
            go_ret
            exact ⟨ret_bl (HEQ.out.trans (by rw [decide_eq_false_iff_not]; intro h; exact HNM.out (by rw [HNA.out, HNB.out, h]))).symm, HB6.out⟩
        · have h6b : (kb == 5) = false := by rw [beq_eq_false_iff_ne]; exact h6
          go_wp2_with fail
          go_ret
          exact ⟨ret_bl (eqvA_no2 HAB.out (by rw [← HEB.out]; exact h6)).symm, HB4.out⟩
      · have h5b : (ka == 5) = false := by rw [beq_eq_false_iff_ne]; exact h5
        go_wp2_with fail
        go_ret
        exact ⟨ret_bl (eqvA_no1 HAB.out (by rw [← HEA.out]; exact h5)).symm, HB3.out⟩
theorem reqv_any (g : Nat) (R : Nat → Nat) (s : St) (a b : Int × Int) (w : World) (h : RsW w g R s) :
    Calls Try.prog 33 #[.pointer (some ⟨g, 0, none⟩), .agg #[.int .i64 a.1, .int .i64 a.2], .agg #[.int .i64 b.1, .int .i64 b.2]] w fun e w' => e = .returned (.bool (s.eqvA a b)) ∧ Below w.heap.size w w' :=
  reqv_any4 g R s a.1 a.2 b.1 b.2 w h
end Go.Proofs.Ytimnhbndokfgnaa
