/- The list of objects: Equal. -/
import Derived.Test.YtimnhbndokfgnaaRsEqv
import Derived.Test.YtimnhbndokfgnaaSmPure
import Derived.Test.YtimnhbndokfgnaaOrdW
namespace Go.Proofs.Ytimnhbndokfgnaa
open Go.RowKit

def stk (l : List Pr) : List (Int × Int) := l.reverse.flatMap fun p => [p.1, p.2]
theorem stk_cons (p : Pr) (l : List Pr) : stk (p :: l) = stk l ++ [p.1, p.2] := by simp [stk, List.flatMap_append]
theorem stk_len (l : List Pr) : (stk l).length = 2 * l.length := by
  induction l with
  | nil => rfl
  | cons p l ih => rw [stk_cons, List.length_append, ih]; simp; omega
def rR : Option (Bool × Nat) → Value
  | some (b, f) => .tuple #[.bool b, .int .i64 ((f : Nat) : Int)]
  | none => .tuple #[.bool false, .int .i64 (-1)]
theorem kid_slots (s : St) (p : Pr) (i : Nat) (h1 : i < (s.slots p.1).length) (h2 : i < (s.slots p.2).length) : s.kid p i = ((s.slots p.1)[i], (s.slots p.2)[i]) := by
  unfold St.kid
  rw [slots_get, slots_get, List.getElem?_eq_getElem h1, List.getElem?_eq_getElem h2]
  rfl
theorem row_old {w w4 W : World} {v : Value} {n : Nat} {us : List Value} (h : RowV w4 v n 2 us) (hp : InP (fun b => b < w.heap.size) n v) (h4 : Below w.heap.size w w4) (hW : Below w.heap.size w W) (hs : w4.heap.size ≤ W.heap.size) : RowV W v n 2 us :=
  h.move hp ⟨hs, fun b _ hP => (hW.block b hP).trans (h4.block b hP).symm⟩
theorem own_two (w : World) (u0 u1 u2 u3 : Value) {base : Nat} (hb : base ≤ w.heap.size) : (w.alloc (.cells #[u0, u1, u2, u3] 35)).ownsRow base 35 2 (.slice (some ⟨w.heap.size, 0, none⟩) 2 2) 2 [u0, u1, u2, u3] :=
  ⟨by simp, .inr ⟨w.heap.size, 2, #[u0, u1, u2, u3], rfl, hb, heap_alloc_new w _, Nat.le_refl _, by unfold maxLen; omega, by simp, by simp⟩⟩
theorem own_top {w : World} {B : Nat} {e : TypeId} {v : Value} {K : Nat} {us : List Value} {x0 x1 x2 x3 : Value} (h : w.ownsRow B e 2 v (K + 2) (us ++ [x0, x1, x2, x3])) (hu : us.length = K * 2) :
    ∃ gb cap, v = .slice (some ⟨gb, 0, none⟩) (K + 2) cap ∧ (B ≤ gb ∧ gb < w.heap.size) ∧ K + 2 ≤ cap ∧ w.cell? ⟨gb, K * 2, none⟩ = some x0 ∧ w.cell? ⟨gb, K * 2 + 1, none⟩ = some x1 ∧ w.cell? ⟨gb, (K + 1) * 2, none⟩ = some x2 ∧ w.cell? ⟨gb, (K + 1) * 2 + 1, none⟩ = some x3 := by
  obtain ⟨h1, h2⟩ := h
  rcases h2 with ⟨_, h3⟩ | ⟨g', cap', cur, rfl, hb, hc, hn, hm, hs, ht⟩
  · simp at h3
  · have hat : ∀ j u, (us ++ [x0, x1, x2, x3])[j]? = some u → w.cell? ⟨g', j, none⟩ = some u := fun j u hj => by
      rw [cell_of_row w g' j cur e (0, 0) hc, ← Array.getElem?_toList]
      rw [← ht, List.getElem?_take] at hj
      split at hj
      · exact hj
      · cases hj
    refine ⟨g', cap', rfl, ⟨hb, (Array.getElem?_eq_some_iff.1 hc).1⟩, hn, hat _ _ ?_, hat _ _ ?_, hat _ _ ?_, hat _ _ ?_⟩
    · rw [List.getElem?_append_right (by omega), show K * 2 - us.length = 0 by omega]; rfl
    · rw [List.getElem?_append_right (by omega), show K * 2 + 1 - us.length = 1 by omega]; rfl
    · rw [List.getElem?_append_right (by omega), show (K + 1) * 2 - us.length = 2 by omega]; rfl
    · rw [List.getElem?_append_right (by omega), show (K + 1) * 2 + 1 - us.length = 3 by omega]; rfl

set_option maxRecDepth 100000 in
set_option maxHeartbeats 16000000 in
theorem requal_any (g : Nat) (Q : Nat → Nat) (s : St) (a b : Int × Int) (F : Int) (w : World) (h : RsW w g Q s) (hF : F ≤ 3000) :
    Calls Try.prog 31 #[.pointer (some ⟨g, 0, none⟩), .agg #[.int .i64 a.1, .int .i64 a.2], .agg #[.int .i64 b.1, .int .i64 b.2], .int .i64 F] w fun e w' => e = .returned (rR (s.rEq F.toNat [(a, b)])) ∧ Below w.heap.size w w' := by
  obtain ⟨i0, hi, hz0, hz1, hz2⟩ := info_parts infoVal
  have HI := Lib.hid (And.intro hi (And.intro hz0 (And.intro hz1 hz2)))
  clear hi hz0 hz1 hz2
  obtain ⟨a0, a1⟩ := a
  obtain ⟨b0, b1⟩ := b
  simp only
  have HS := Lib.hid h
  have HF := Lib.hid hF
  have HB1 := Lib.hid (below2 w (.cells #[.int .i64 a0, .int .i64 a1] 35) (.cells #[.int .i64 b0, .int .i64 b1] 35))
  obtain ⟨n0, n1⟩ := @news2 w (.cells #[.int .i64 a0, .int .i64 a1] 35) (.cells #[.int .i64 b0, .int .i64 b1] 35)
  obtain ⟨p0, p1, _⟩ := row2 n0
  obtain ⟨q0, q1, _⟩ := row2 n1
  clear h hF n0 n1
  go_enter Try.func31, Try.ntmps31
  go_upto_region 1 with fail
  generalize (w.alloc (.cells #[.int .i64 a0, .int .i64 a1] 35)).alloc (.cells #[.int .i64 b0, .int .i64 b1] 35) = w1 at *
  have HO2 := Lib.hid (own_two w1 (.int .i64 a0) (.int .i64 a1) (.int .i64 b0) (.int .i64 b1) HB1.out.size)
  have HB2 := Lib.hid (HB1.out.trans ((below1 w1 (.cells #[.int .i64 a0, .int .i64 a1, .int .i64 b0, .int .i64 b1] 35)).mono HB1.out.size))
  go_upto_region 2 with fail
  generalize w1.alloc (.cells #[.int .i64 a0, .int .i64 a1, .int .i64 b0, .int .i64 b1] 35) = w2 at *
  generalize w1.heap.size = nb at *
  clear p0 p1 q0 q1 HB1
  go_loopw [3, 10] (fun f v wr => ∃ (F' : Int) (l : List Pr), f = .int .i64 F' ∧ wr.ownsRow w.heap.size 35 2 v (2 * l.length) (vcs (stk l)) ∧ Below w.heap.size w wr ∧ s.rEq F.toNat [((a0, a1), (b0, b1))] = s.rEq F'.toNat l ∧ (l = [] → 0 ≤ F') ∧ F' ≤ 3000 ∧ l.length + F'.toNat * 1048576 ≤ 1 + 3000 * 1048576) (fun f _ _ => (intOf f).toNat)
  case atStart => exact ⟨F, [((a0, a1), (b0, b1))], rfl, HO2.out, HB2.out, rfl, fun h => (by cases h), HF.out, by have := HF.out; simp only [List.length_cons, List.length_nil]; omega⟩
  case round =>
    clear HO2 HB2
    obtain ⟨F', l, rfl, hown, hb, hq, hz, hF', hbd⟩ := hrel
    have HQ := Lib.hid hq
    have HB := Lib.hid hb
    have HBD := Lib.hid hbd
    have HZ := Lib.hid hz
    clear hq hb hbd hz
    cases l with
    | nil =>
      simp only [List.length_nil, Nat.mul_zero] at hown
      obtain ⟨ao, c, rfl⟩ := own_dslice hown
      obtain ⟨k, rfl⟩ : ∃ k : Nat, F' = (k : Int) := ⟨F'.toNat, by have := HZ.out rfl; omega⟩
      clear hown
      go_wp2_with fail
      refine bodyPost_ret (v := .tuple #[.bool true, .int .i64 (k : Int)]) (by simp [results, Try.results31, go_sem]) rfl ⟨by rw [HQ.out, rEq_nil]; rfl, HB.out⟩
    | cons p l =>
      obtain ⟨⟨u0, u1⟩, v0, v1⟩ := p
      obtain ⟨K, hK⟩ : ∃ K, K = 2 * l.length := ⟨_, rfl⟩
      rw [stk_cons, vcs_append, show 2 * ((((u0, u1), v0, v1) : Pr) :: l).length = K + 2 by rw [hK, List.length_cons]; omega] at hown
      obtain ⟨gb, cap, rfl, hgb, hcap, c0, c1, c2, c3⟩ := own_top hown (by rw [vcs_len, stk_len, hK])
      have HK := Lib.hid hK
      clear hK
      by_cases hF0 : F' ≤ 0
      · have HF0 := Lib.hid hF0
        go_wp2_with fail
        refine bodyPost_ret (v := .tuple #[.bool false, .int .i64 (-1)]) (by simp [results, Try.results31, go_sem]) rfl ⟨by rw [HQ.out, show F'.toNat = 0 by have := HF0.out; omega]; rfl, HB.out⟩
      · obtain ⟨k, rfl⟩ : ∃ k : Nat, F' = (k : Int) + 1 := ⟨(F' - 1).toNat, by omega⟩
        have hkb : ((k : Nat) : Int) ≤ 2999 := by omega
        have hkp : ¬ ((k : Nat) : Int) + 1 ≤ 0 := by omega
        have HQ1 := Lib.hid (show s.rEq F.toNat [((a0, a1), (b0, b1))] = s.rEq (k + 1) (((u0, u1), (v0, v1)) :: l) by rw [HQ.out]; rfl)
        have HBD1 := Lib.hid (show l.length + 1 + (k + 1) * 1048576 ≤ 1 + 3000 * 1048576 by have := HBD.out; rw [List.length_cons, show ((k : Int) + 1).toNat = k + 1 by omega] at this; exact this)
        have hk1 : ((K : Nat) : Int) + 2 - 1 = ((K + 1 : Nat) : Int) := by omega
        have hKb : K ≤ 7000000000 := by have := HBD1.out; have := HK.out; omega
        clear HQ HZ HBD hF0 hF'
        have HWN := Lib.hid (below2 wr (.cells #[.int .i64 u0, .int .i64 u1] 35) (.cells #[.int .i64 v0, .int .i64 v1] 35))
        obtain ⟨n0, n1⟩ := @news2 wr (.cells #[.int .i64 u0, .int .i64 u1] 35) (.cells #[.int .i64 v0, .int .i64 v1] 35)
        have HN0 := Lib.hid n0
        have HN1 := Lib.hid n1
        have ht := ownsRow_take hown (k := K) (by omega)
        rw [List.take_left' (by rw [vcs_len, stk_len, HK.out])] at ht
        have HOT := Lib.hid ht
        have d2 := ((below1 wr (.cells #[.int .i64 u0, .int .i64 u1] 35)).cell (p := ⟨gb, (K + 1) * 2, none⟩) hgb.2).trans c2
        have d3 := ((below1 wr (.cells #[.int .i64 u0, .int .i64 u1] 35)).cell (p := ⟨gb, (K + 1) * 2 + 1, none⟩) hgb.2).trans c3
        have HGB := Lib.hid hgb
        clear n0 n1 hown ht hgb
        go_upto_region 10 with fail
        clear c0 c1 c2 c3 d2 d3
        generalize (wr.alloc (.cells #[.int .i64 u0, .int .i64 u1] 35)).alloc (.cells #[.int .i64 v0, .int .i64 v1] 35) = w3 at *
        have HB3 := Lib.hid (HB.out.trans (HWN.out.mono HB.out.size))
        have HO := Lib.hid (ownsRow_keep HOT.out (Keeps.of_below (P := fun _ => True) HWN.out) fun _ _ => trivial)
        have HX : Hid (∀ W, Below w3.heap.size w3 W → W.cell? ⟨wr.heap.size, 0, none⟩ = some (.int .i64 u0) ∧ W.cell? ⟨wr.heap.size, 1, none⟩ = some (.int .i64 u1) ∧ W.cell? ⟨wr.heap.size + 1, 0, none⟩ = some (.int .i64 v0) ∧ W.cell? ⟨wr.heap.size + 1, 1, none⟩ = some (.int .i64 v1)) := Lib.hid fun W hW => by
          obtain ⟨x0, x1, _⟩ := row2 ((hW.block _ (Array.getElem?_eq_some_iff.1 HN0.out).1).trans HN0.out)
          obtain ⟨y0, y1, _⟩ := row2 ((hW.block _ (Array.getElem?_eq_some_iff.1 HN1.out).1).trans HN1.out)
          exact ⟨x0, x1, y0, y1⟩
        clear HWN HN0 HN1 HOT HB HGB hk1
        generalize wr.heap.size = xb at *
        obtain ⟨p0, p1, p2, p3⟩ := HX.out w3 (Below.refl _ _)
        go_wp2_with fail
        refine (reqv_any g Q s (u0, u1) (v0, v1) w3 (HS.out.below HB3.out)).mono ?_
        rintro e w4 ⟨rfl, hb4⟩
        have HC4 := Lib.hid hb4
        clear hb4 p0 p1 p2 p3
        obtain ⟨p0, p1, p2, p3⟩ := HX.out w4 HC4.out
        obtain ⟨E, hE⟩ : ∃ E, s.eqvA (u0, u1) (v0, v1) = E := ⟨_, rfl⟩
        rw [hE]
        have HE := Lib.hid hE
        clear hE
        cases E with
        | true =>
          go_wp2_with fail
          go_roundw
          case measure => simp only [intOf]; omega
          case rel =>
            refine ⟨(k : Int), l, by go_num, ?_, HB3.out.trans (HC4.out.mono HB3.out.size), by rw [HQ1.out, rEq_eqv HE.out]; rfl, fun _ => by omega, by omega, by have := HBD1.out; rw [Int.toNat_natCast]; omega⟩
            have := ownsRow_keep HO.out (Keeps.of_below (P := fun _ => True) HC4.out) fun _ _ => trivial
            rw [HK.out] at this ⊢
            exact this
        | false =>
          go_upto_region 11 with fail
          go_wp2_with fail
          refine (rkind_any g Q s (u0, u1) w4 (HS.out.below (HB3.out.trans (HC4.out.mono HB3.out.size)))).mono ?_
          rintro e w5 ⟨rfl, hb5⟩
          have HC5 := Lib.hid (HC4.out.trans (hb5.mono HC4.out.size))
          clear hb5 p0 p1 p2 p3 HC4
          obtain ⟨p0, p1, p2, p3⟩ := HX.out w5 HC5.out
          obtain ⟨ka, hka⟩ : ∃ ka, s.kind (u0, u1) = ka := ⟨_, rfl⟩
          rw [hka]
          have HKA := Lib.hid hka
          clear hka
          go_upto_region 12 with fail
          go_wp2_with fail
          refine (rkind_any g Q s (v0, v1) w5 (HS.out.below (HB3.out.trans (HC5.out.mono HB3.out.size)))).mono ?_
          rintro e w6 ⟨rfl, hb6⟩
          have HC6 := Lib.hid (HC5.out.trans (hb6.mono HC5.out.size))
          have HB6 := Lib.hid (HB3.out.trans (HC6.out.mono HB3.out.size))
          clear hb6 p0 p1 p2 p3 HC5
          obtain ⟨kb, hkb⟩ : ∃ kb, s.kind (v0, v1) = kb := ⟨_, rfl⟩
          rw [hkb]
          have HKB := Lib.hid hkb
          clear hkb
          by_cases hab : kb = ka
          · subst hab
            by_cases h14 : 1 ≤ kb ∧ kb ≤ 4
            · have h1 : ¬ kb < 1 := by omega
              have h4 : ¬ 4 < kb := by omega
              have H14 := Lib.hid h14
              clear h14
              obtain ⟨p0, p1, p2, p3⟩ := HX.out w6 HC6.out
              go_upto_region 14 with fail
              clear h1 h4
              go_wp2_with fail
              refine (rslots_any g Q s (u0, u1) w6 (HS.out.below HB6.out)).mono ?_
              rintro e wa ⟨lv, rfl, hba, hra, hpa⟩
              have HCA := Lib.hid (HC6.out.trans (hba.mono HC6.out.size))
              have HBA := Lib.hid (HB6.out.trans (hba.mono HB6.out.size))
              clear hba p0 p1 p2 p3
              have hla0 := Nat.le_trans (Nat.le_of_eq (slots_len s (u0, u1))) (HS.out.ok.lenv (u0, u1))
              obtain ⟨la, hla⟩ : ∃ la, s.slots (u0, u1) = la := ⟨_, rfl⟩
              rw [hla] at hra hpa hla0
              obtain ⟨n, hn⟩ : ∃ n, n = la.length := ⟨_, rfl⟩
              rw [← hn] at hra hpa hla0
              obtain ⟨ao, ac, rfl⟩ : ∃ ao ac, lv = .slice ao n ac := by obtain ⟨_, _, ao, c, e, _⟩ := hra; exact ⟨ao, c, e⟩
              have HRA := Lib.hid hra
              have HPA := Lib.hid (show InP (fun b => b < w.heap.size) n _ from fun b h1 h2 => HS.out.lt b (hpa b h1 h2))
              have HLA := Lib.hid hla
              have HNA := Lib.hid hn
              have HNL := Lib.hid hla0
              clear hra hpa hla hn hla0
              obtain ⟨p0, p1, p2, p3⟩ := HX.out wa HCA.out
              go_upto_region 15 with fail
              go_wp2_with fail
              refine (rslots_any g Q s (v0, v1) wa (HS.out.below HBA.out)).mono ?_
              rintro e w7 ⟨lv, rfl, hbb, hrb, hpb⟩
              have HC7 := Lib.hid (HCA.out.trans (hbb.mono HCA.out.size))
              have HB7 := Lib.hid (HBA.out.trans (hbb.mono HBA.out.size))
              have HS7 := Lib.hid hbb.size
              clear hbb p0 p1 p2 p3
              obtain ⟨lb, hlb⟩ : ∃ lb, s.slots (v0, v1) = lb := ⟨_, rfl⟩
              rw [hlb] at hrb hpb
              obtain ⟨m, hm⟩ : ∃ m, m = lb.length := ⟨_, rfl⟩
              rw [← hm] at hrb hpb
              obtain ⟨bo, bc, rfl⟩ : ∃ ao ac, lv = .slice ao m ac := by obtain ⟨_, _, ao, c, e, _⟩ := hrb; exact ⟨ao, c, e⟩
              have HRB := Lib.hid hrb
              have HPB := Lib.hid (show InP (fun b => b < w.heap.size) m _ from fun b h1 h2 => HS.out.lt b (hpb b h1 h2))
              have HLB := Lib.hid hlb
              have HMB := Lib.hid hm
              clear hrb hpb hlb hm
              by_cases hnm : n = m
              · subst hnm
                have hnl : ((n : Nat) : Int) ≤ 1048576 := by have := HNL.out; omega
                have HCO := Lib.hid (compA_yes (s := s) (a := (u0, u1)) (b := (v0, v1)) (by rw [HKA.out]; exact H14.out.1) (by rw [HKA.out]; exact H14.out.2) (by rw [HKA.out, HKB.out]) (by rw [← slots_len, ← slots_len, HLA.out, HLB.out, ← HNA.out, ← HMB.out]))
                have HO7 := Lib.hid (ownsRow_keep HO.out (Keeps.of_below (P := fun _ => True) HC7.out) fun _ _ => trivial)
                have HKL := Lib.hid (show (s.kids (((u0, u1), (v0, v1)) : Pr)).length = n by rw [kids_len, ← slots_len, HLA.out, HNA.out])
                clear HX HO HC6 HCA HB6 HC7
                go_upto_region 18 with fail
                go_wp2_with fail
                go_loopw [10, 17] (fun lv iv wr => ∃ j : Nat, j ≤ n ∧ iv = .int .i64 ((j : Int) - 1) ∧ wr.ownsRow w.heap.size 35 2 lv (2 * ((s.kids (((u0, u1), (v0, v1)) : Pr)).drop j ++ l).length) (vcs (stk ((s.kids (((u0, u1), (v0, v1)) : Pr)).drop j ++ l))) ∧ Below w.heap.size w wr ∧ w7.heap.size ≤ wr.heap.size) (fun _ iv _ => (intOf iv + 1).toNat)
                case atStart =>
                  refine ⟨n, Nat.le_refl _, by first | rfl | go_num, ?_, HB7.out, Nat.le_refl _⟩
                  rw [List.drop_of_length_le (by rw [HKL.out]; exact Nat.le_refl _), List.nil_append]
                  have := HO7.out
                  rw [HK.out] at this ⊢
                  exact this
                case round =>
                  clear HO7
                  obtain ⟨j, hj, rfl, ho, hbr, hsz⟩ := hrel
                  have HBR := Lib.hid hbr
                  have HSZ := Lib.hid hsz
                  clear hbr hsz
                  obtain ⟨N, hN⟩ : ∃ N, 2 * ((s.kids (((u0, u1), (v0, v1)) : Pr)).drop j ++ l).length = N := ⟨_, rfl⟩
                  rw [hN] at ho
                  obtain ⟨lo, lc, rfl⟩ := own_dslice ho
                  have HNE := Lib.hid hN
                  clear hN
                  cases j with
                  | zero =>
                    have HOW := Lib.hid ho
                    clear ho
                    have hz : ((0 : Nat) : Int) - 1 = -1 := rfl
                    go_wp2_with fail
                    go_roundw
                    case measure => simp only [intOf]; omega
                    case rel =>
                      refine ⟨(k : Int), s.kids (((u0, u1), (v0, v1)) : Pr) ++ l, by go_num, ?_, HBR.out, by rw [HQ1.out, rEq_in HE.out HCO.out]; rfl, fun _ => by omega, by omega, ?_⟩
                      · have h1 := HOW.out
                        have h2 := HNE.out
                        rw [List.drop_zero] at h1 h2
                        rw [h2]
                        exact h1
                      · have := HBD1.out
                        have := HNL.out
                        rw [List.length_append, HKL.out, Int.toNat_natCast]
                        omega
                  | succ j =>
                    have ej : ((j + 1 : Nat) : Int) - 1 = ((j : Nat) : Int) := by omega
                    rw [ej]
                    clear ej
                    have hjn : j < n := hj
                    have hji : ((j : Nat) : Int) < ((n : Nat) : Int) := by omega
                    have hj0 : 0 ≤ ((j : Nat) : Int) := by omega
                    have hja : j < la.length := by rw [← HNA.out]; exact hjn
                    have hjb : j < lb.length := by rw [← HMB.out]; exact hjn
                    have HNN := Lib.hid (show N ≤ 7000000000 by
                      have h1 := HNE.out
                      have h2 := HBD1.out
                      have h3 := HNL.out
                      rw [List.length_append, List.length_drop, HKL.out] at h1
                      omega)
                    have HLS := Lib.hid (show ∀ W, Below wr.heap.size wr W → W.ownsRow w.heap.size 35 2 (.slice lo N lc) N (vcs (stk ((s.kids (((u0, u1), (v0, v1)) : Pr)).drop (j + 1) ++ l))) from fun W hb => ownsRow_keep ho (Keeps.of_below (P := fun _ => True) hb) fun _ _ => trivial)
                    have HBG := Lib.hid (show ∀ W w5, Below wr.heap.size wr W → W.grownBy w5 (Value.slice lo N lc).ownBlock → Below w.heap.size w w5 ∧ w7.heap.size ≤ w5.heap.size from fun W w5 hb hg => ⟨(HBR.out.trans (hb.mono HBR.out.size)).grown hg (HBR.out.trans (hb.mono HBR.out.size)).size fun b e => (ho.lt b e).1, Nat.le_trans HSZ.out (Nat.le_trans hb.size (Keeps.of_grown (P := fun _ => False) hg fun _ _ h => h).1)⟩)
                    obtain ⟨ab, af, ac2, e1, l1, c0, c1⟩ := row_pair (row_old HRA.out HPA.out HBA.out HBR.out (Nat.le_trans HS7.out HSZ.out)) HNA.out hja
                    obtain ⟨bb, bf, bc2, e2, l2, d0, d1⟩ := row_pair (row_old HRB.out HPB.out HB7.out HBR.out HSZ.out) HMB.out hjb
                    have HKD := Lib.hid (show s.kid (((u0, u1), (v0, v1)) : Pr) j = (la[j]'hja, lb[j]'hjb) by
                      rw [kid_slots s (((u0, u1), (v0, v1)) : Pr) j (by rw [HLA.out]; exact hja) (by rw [HLB.out]; exact hjb)]
                      simp only [HLA.out, HLB.out])
                    generalize la[j]'hja = x at *
                    generalize lb[j]'hjb = y at *
                    obtain ⟨x0, x1⟩ := x
                    obtain ⟨y0, y1⟩ := y
                    simp only at c0 c1 d0 d1
                    injection e1 with e11 _ e13
                    injection e2 with e21 _ e23
                    subst e11 e13 e21 e23
                    have HXC := Lib.hid (show ∀ W, Below wr.heap.size wr W → W.cell? ⟨ab, af + j * 2, none⟩ = some (.int .i64 x0) ∧ W.cell? ⟨ab, af + j * 2 + 1, none⟩ = some (.int .i64 x1) ∧ W.cell? ⟨bb, bf + j * 2, none⟩ = some (.int .i64 y0) ∧ W.cell? ⟨bb, bf + j * 2 + 1, none⟩ = some (.int .i64 y1) from fun W hb => ⟨(hb.cell (p := ⟨ab, _, none⟩) l1).trans c0, (hb.cell (p := ⟨ab, _, none⟩) l1).trans c1, (hb.cell (p := ⟨bb, _, none⟩) l2).trans d0, (hb.cell (p := ⟨bb, _, none⟩) l2).trans d1⟩)
                    clear hja hjb ho c0 c1 d0 d1 l1 l2 hjn
                    generalize hus : vcs (stk ((s.kids (((u0, u1), (v0, v1)) : Pr)).drop (j + 1) ++ l)) = us at *
                    have HUS := Lib.hid hus
                    clear hus
                    go_upto_region 21 with fail
                    refine wp_region_valsW (fun L vals W => AllV [some (.slice lo N lc), some (.slice (some ⟨ab, af, none⟩) n ac), some (.int .i64 ((j : Nat) : Int)), some (.pointer (some ⟨ab, af + j * 2, none⟩)), some (.agg #[.int .i64 x0, .int .i64 x1]), some (.slice (some ⟨bb, bf, none⟩) n bc), some (.int .i64 ((j : Nat) : Int)), some (.pointer (some ⟨bb, bf + j * 2, none⟩)), some (.agg #[.int .i64 y0, .int .i64 y1]), none, none, none] L vals ∧ Ph 10 11 (fun W => Below wr.heap.size wr W) (fun v W => W.ownsRow w.heap.size 35 2 (v) (N + 2) (us ++ [.int .i64 x0, .int .i64 x1, .int .i64 y0, .int .i64 y1]) ∧ Below w.heap.size w W ∧ w7.heap.size ≤ W.heap.size) (fun _ _ => True) L vals W ∧ Ph 9 10 (fun _ => True) (fun v W => ∃ b, v = .slice (some ⟨b, 0, none⟩) 2 2 ∧ W.heap[b]? = some (.cells #[.int .i64 x0, .int .i64 x1, .int .i64 y0, .int .i64 y1] 35 (0, 0))) (fun _ _ => True) L vals W ∧ Ph 11 12 (fun _ => True) (fun v W => W.ownsRow w.heap.size 35 2 (v) (N + 2) (us ++ [.int .i64 x0, .int .i64 x1, .int .i64 y0, .int .i64 y1]) ∧ Below w.heap.size w W ∧ w7.heap.size ≤ W.heap.size) (fun v W => W.ownsRow w.heap.size 35 2 (v) (N + 2) (us ++ [.int .i64 x0, .int .i64 x1, .int .i64 y0, .int .i64 y1]) ∧ Below w.heap.size w W ∧ w7.heap.size ≤ W.heap.size) L vals W) (by kernel_rfl) ?_ (by kernel_rfl) (by kernel_rfl) ?_ ?_
                    · exact ⟨AllV.start _ _, Ph.start (Below.refl _ _).drew, Ph.start trivial, Ph.start trivial⟩
                    · refine AllOps.cons ?_ ?_
                      · intro L vals aa W hC hB hS hL hD hdep
                        obtain ⟨hV, hP0, hP1, hP2⟩ := hC
                        refine .inl ⟨rfl, ?_⟩
                        have b0 : aa.tmps.getD 10 undef = .slice lo N lc := hS 11 _ rfl (hD 11 (by kernel_rfl)) 10 rfl
                        refine goesV_value (v := .slice lo N lc) ?_ ⟨hV.fix rfl, hP0.idle (by decide) (by decide) _, hP1.idle (by decide) (by decide) _, hP2.idle (by decide) (by decide) _⟩
                        simp only [execOp, Act.eval, b0]
                        go_simp
                      refine AllOps.cons ?_ ?_
                      · intro L vals aa W hC hB hS hL hD hdep
                        obtain ⟨hV, hP0, hP1, hP2⟩ := hC
                        refine .inl ⟨rfl, ?_⟩
                        have b0 : aa.tmps.getD 15 undef = .slice (some ⟨ab, af, none⟩) n ac := hB.off 15 (by kernel_rfl)
                        refine goesV_value (v := .slice (some ⟨ab, af, none⟩) n ac) ?_ ⟨hV.fix rfl, hP0.idle (by decide) (by decide) _, hP1.idle (by decide) (by decide) _, hP2.idle (by decide) (by decide) _⟩
                        simp only [execOp, Act.eval, b0]
                        go_simp
                      refine AllOps.cons ?_ ?_
                      · intro L vals aa W hC hB hS hL hD hdep
                        obtain ⟨hV, hP0, hP1, hP2⟩ := hC
                        refine .inl ⟨rfl, ?_⟩
                        have b0 : aa.tmps.getD 17 undef = .int .i64 ((j : Nat) : Int) := hB.off 17 (by kernel_rfl)
                        refine goesV_value (v := .int .i64 ((j : Nat) : Int)) ?_ ⟨hV.fix rfl, hP0.idle (by decide) (by decide) _, hP1.idle (by decide) (by decide) _, hP2.idle (by decide) (by decide) _⟩
                        simp only [execOp, Act.eval, b0]
                        go_simp
                      refine AllOps.cons ?_ ?_
                      · intro L vals aa W hC hB hS hL hD hdep
                        obtain ⟨hV, hP0, hP1, hP2⟩ := hC
                        refine .inl ⟨rfl, ?_⟩
                        have e0 : aa.tmps.getD 85 undef = .slice (some ⟨ab, af, none⟩) n ac := hV.at (j := 1) rfl (hdep 1 85 (by kernel_rfl))
                        have e1 : aa.tmps.getD 86 undef = .int .i64 ((j : Nat) : Int) := hV.at (j := 2) rfl (hdep 2 86 (by kernel_rfl))
                        refine goesV_value (v := .pointer (some ⟨ab, af + j * 2, none⟩)) ?_ ⟨hV.fix rfl, hP0.idle (by decide) (by decide) _, hP1.idle (by decide) (by decide) _, hP2.idle (by decide) (by decide) _⟩
                        simp only [execOp, Act.eval, e0, e1]
                        go_simp
                      refine AllOps.cons ?_ ?_
                      · intro L vals aa W hC hB hS hL hD hdep
                        obtain ⟨hV, hP0, hP1, hP2⟩ := hC
                        refine .inl ⟨rfl, ?_⟩
                        have e0 : aa.tmps.getD 87 undef = .pointer (some ⟨ab, af + j * 2, none⟩) := hV.at (j := 3) rfl (hdep 3 87 (by kernel_rfl))
                        have hpre := hP0.pre (hD 10 (by kernel_rfl))
                        obtain ⟨c0, c1, d0, d1⟩ := HXC.out W hpre
                        refine goesV_value (v := .agg #[.int .i64 x0, .int .i64 x1]) ?_ ⟨hV.fix rfl, hP0.idle (by decide) (by decide) _, hP1.idle (by decide) (by decide) _, hP2.idle (by decide) (by decide) _⟩
                        simp only [execOp, Act.eval, e0]
                        go_simp
                      refine AllOps.cons ?_ ?_
                      · intro L vals aa W hC hB hS hL hD hdep
                        obtain ⟨hV, hP0, hP1, hP2⟩ := hC
                        refine .inl ⟨rfl, ?_⟩
                        have b0 : aa.tmps.getD 16 undef = .slice (some ⟨bb, bf, none⟩) n bc := hB.off 16 (by kernel_rfl)
                        refine goesV_value (v := .slice (some ⟨bb, bf, none⟩) n bc) ?_ ⟨hV.fix rfl, hP0.idle (by decide) (by decide) _, hP1.idle (by decide) (by decide) _, hP2.idle (by decide) (by decide) _⟩
                        simp only [execOp, Act.eval, b0]
                        go_simp
                      refine AllOps.cons ?_ ?_
                      · intro L vals aa W hC hB hS hL hD hdep
                        obtain ⟨hV, hP0, hP1, hP2⟩ := hC
                        refine .inl ⟨rfl, ?_⟩
                        have b0 : aa.tmps.getD 17 undef = .int .i64 ((j : Nat) : Int) := hB.off 17 (by kernel_rfl)
                        refine goesV_value (v := .int .i64 ((j : Nat) : Int)) ?_ ⟨hV.fix rfl, hP0.idle (by decide) (by decide) _, hP1.idle (by decide) (by decide) _, hP2.idle (by decide) (by decide) _⟩
                        simp only [execOp, Act.eval, b0]
                        go_simp
                      refine AllOps.cons ?_ ?_
                      · intro L vals aa W hC hB hS hL hD hdep
                        obtain ⟨hV, hP0, hP1, hP2⟩ := hC
                        refine .inl ⟨rfl, ?_⟩
                        have e0 : aa.tmps.getD 89 undef = .slice (some ⟨bb, bf, none⟩) n bc := hV.at (j := 5) rfl (hdep 5 89 (by kernel_rfl))
                        have e1 : aa.tmps.getD 90 undef = .int .i64 ((j : Nat) : Int) := hV.at (j := 6) rfl (hdep 6 90 (by kernel_rfl))
                        refine goesV_value (v := .pointer (some ⟨bb, bf + j * 2, none⟩)) ?_ ⟨hV.fix rfl, hP0.idle (by decide) (by decide) _, hP1.idle (by decide) (by decide) _, hP2.idle (by decide) (by decide) _⟩
                        simp only [execOp, Act.eval, e0, e1]
                        go_simp
                      refine AllOps.cons ?_ ?_
                      · intro L vals aa W hC hB hS hL hD hdep
                        obtain ⟨hV, hP0, hP1, hP2⟩ := hC
                        refine .inl ⟨rfl, ?_⟩
                        have e0 : aa.tmps.getD 91 undef = .pointer (some ⟨bb, bf + j * 2, none⟩) := hV.at (j := 7) rfl (hdep 7 91 (by kernel_rfl))
                        have hpre := hP0.pre (hD 10 (by kernel_rfl))
                        obtain ⟨c0, c1, d0, d1⟩ := HXC.out W hpre
                        refine goesV_value (v := .agg #[.int .i64 y0, .int .i64 y1]) ?_ ⟨hV.fix rfl, hP0.idle (by decide) (by decide) _, hP1.idle (by decide) (by decide) _, hP2.idle (by decide) (by decide) _⟩
                        simp only [execOp, Act.eval, e0]
                        go_simp
                      refine AllOps.cons ?_ ?_
                      · intro L vals aa W hC hB hS hL hD hdep
                        obtain ⟨hV, hP0, hP1, hP2⟩ := hC
                        refine .inl ⟨rfl, ?_⟩
                        have e0 : aa.tmps.getD 88 undef = .agg #[.int .i64 x0, .int .i64 x1] := hV.at (j := 4) rfl (hdep 4 88 (by kernel_rfl))
                        have e1 : aa.tmps.getD 92 undef = .agg #[.int .i64 y0, .int .i64 y1] := hV.at (j := 8) rfl (hdep 8 92 (by kernel_rfl))
                        have hpre := hP0.pre (hD 10 (by kernel_rfl))
                        refine goesV_world (v := .slice (some ⟨W.heap.size, 0, none⟩) 2 2) (w1 := W.alloc (.cells #[.int .i64 x0, .int .i64 x1, .int .i64 y0, .int .i64 y1] 35)) ?_ ⟨hV.free rfl, hP0.ahead (hD 10 (by kernel_rfl)) (by decide) (by decide) _ (hpre.trans ((below1 W _).mono hpre.size)), hP1.first hL (by decide) ⟨_, rfl, box1 W _ _⟩, hP2.ahead (hD 11 (by kernel_rfl)) (by decide) (by decide) _ trivial⟩
                        simp only [Array.getD_eq_getD_getElem?] at e0 e1
                        simp only [execOp]
                        go_simp
                      refine AllOps.cons ?_ ?_
                      · intro L vals aa W hC hB hS hL hD hdep
                        obtain ⟨hV, hP0, hP1, hP2⟩ := hC
                        refine .inl ⟨rfl, ?_⟩
                        have e0 : aa.tmps.getD 84 undef = .slice lo N lc := hV.at (j := 0) rfl (hdep 0 84 (by kernel_rfl))
                        obtain ⟨l1, e1⟩ := hdep 9 93 (by kernel_rfl)
                        have hpre := hP0.pre hL
                        obtain ⟨nb, hnb, hcells⟩ := hP1.mid l1 hL
                        rw [hnb] at e1
                        have hn : ∀ j u, ([.int .i64 x0, .int .i64 x1, .int .i64 y0, .int .i64 y1] : List Value)[j]? = some u → W.cell? ((⟨nb, 0, none⟩ : Addr).add j) = some u := World.news_of_block hcells
                        refine goesV_append _ _ 33 rfl w.heap.size 35 i0 _ 2 16 Try.underlying33 HI.out.1 HI.out.2.1 HI.out.2.2.1 HI.out.2.2.2 rfl (by decide) (.slice lo N lc) N us e0 (HLS.out W hpre) ⟨nb, 0, none⟩ 2 2 [.int .i64 x0, .int .i64 x1, .int .i64 y0, .int .i64 y1] e1 rfl hn (by intro u hu; simp at hu; rcases hu with rfl | rfl | rfl | rfl <;> rfl) (by have := HNN.out; unfold maxLen; omega) (by have := HNN.out; omega) (Nat.le_trans HBR.out.size hpre.size) ?_
                        intro v5 w5 hown5 hgrow5 hmv5
                        exact ⟨hV.free rfl, hP0.first hL (by decide) ⟨hown5, HBG.out W w5 hpre hgrow5⟩, Ph.last l1 (by decide) _ trivial, hP2.ahead (hD 11 (by kernel_rfl)) (by decide) (by decide) _ trivial⟩
                      refine AllOps.cons ?_ ?_
                      · intro L vals aa W hC hB hS hL hD hdep
                        obtain ⟨hV, hP0, hP1, hP2⟩ := hC
                        refine .inl ⟨rfl, ?_⟩
                        obtain ⟨l0, e0⟩ := hdep 10 94 (by kernel_rfl)
                        have hmid := hP0.mid l0 hL
                        refine goesV_value (v := vals 10) ?_ ⟨hV.free rfl, Ph.last l0 (by decide) _ trivial, hP1.idle (by decide) (by decide) _, hP2.first hL (by decide) hmid⟩
                        simp only [execOp, Act.eval, e0]
                        go_simp
                      exact trivial
                    · intro L vals aa w8 hC hLL hB hall
                      obtain ⟨hV, hP0, hP1, hP2⟩ := hC
                      have hv : ∀ p ∈ [((84 : Nat), (.slice lo N lc : Value)), ((85 : Nat), (.slice (some ⟨ab, af, none⟩) n ac : Value)), ((86 : Nat), (.int .i64 ((j : Nat) : Int) : Value)), ((87 : Nat), (.pointer (some ⟨ab, af + j * 2, none⟩) : Value)), ((88 : Nat), (.agg #[.int .i64 x0, .int .i64 x1] : Value)), ((89 : Nat), (.slice (some ⟨bb, bf, none⟩) n bc : Value)), ((90 : Nat), (.int .i64 ((j : Nat) : Int) : Value)), ((91 : Nat), (.pointer (some ⟨bb, bf + j * 2, none⟩) : Value)), ((92 : Nat), (.agg #[.int .i64 y0, .int .i64 y1] : Value)), ((93 : Nat), (vals 9 : Value)), ((94 : Nat), (vals 10 : Value)), ((10 : Nat), (vals 11 : Value))], aa.tmps.getD p.1 undef = p.2 := by
                        intro p hp
                        simp only [List.mem_cons, List.not_mem_nil, or_false] at hp
                        rcases hp with rfl | rfl | rfl | rfl | rfl | rfl | rfl | rfl | rfl | rfl | rfl | rfl
                        · exact (hall 0 _ rfl _ rfl).trans (hV 0 _ rfl (hLL 0 (Nat.le_of_ble_eq_true rfl)))
                        · exact (hall 1 _ rfl _ rfl).trans (hV 1 _ rfl (hLL 1 (Nat.le_of_ble_eq_true rfl)))
                        · exact (hall 2 _ rfl _ rfl).trans (hV 2 _ rfl (hLL 2 (Nat.le_of_ble_eq_true rfl)))
                        · exact (hall 3 _ rfl _ rfl).trans (hV 3 _ rfl (hLL 3 (Nat.le_of_ble_eq_true rfl)))
                        · exact (hall 4 _ rfl _ rfl).trans (hV 4 _ rfl (hLL 4 (Nat.le_of_ble_eq_true rfl)))
                        · exact (hall 5 _ rfl _ rfl).trans (hV 5 _ rfl (hLL 5 (Nat.le_of_ble_eq_true rfl)))
                        · exact (hall 6 _ rfl _ rfl).trans (hV 6 _ rfl (hLL 6 (Nat.le_of_ble_eq_true rfl)))
                        · exact (hall 7 _ rfl _ rfl).trans (hV 7 _ rfl (hLL 7 (Nat.le_of_ble_eq_true rfl)))
                        · exact (hall 8 _ rfl _ rfl).trans (hV 8 _ rfl (hLL 8 (Nat.le_of_ble_eq_true rfl)))
                        · exact hall 9 _ rfl _ rfl
                        · exact hall 10 _ rfl _ rfl
                        · exact hall 11 _ rfl _ rfl
                      have hact := act_fold _ hB hv (by kernel_rfl)
                      subst hact
                      have hfin := (show w8.ownsRow w.heap.size 35 2 (vals 11) (N + 2) (us ++ [.int .i64 x0, .int .i64 x1, .int .i64 y0, .int .i64 y1]) ∧ Below w.heap.size w w8 ∧ w7.heap.size ≤ w8.heap.size from (match h : L 12 with | false => hP2.mid (hLL 11 (Nat.le_of_ble_eq_true rfl)) h | true => hP2.fin h))
                      clear hv hall hB hV hLL hP0 hP1 hP2
                      refine (‹∀ (a : Act) (w : World), Code.wp Try.prog _ _ a w → _›) _ w8 ?_
                      simp only [List.foldl, List.setIfInBounds_toArray, List.set_cons_succ, List.set_cons_zero]
                      obtain ⟨ho8, hb8, hs8⟩ := hfin
                      have HO8 := Lib.hid ho8
                      have HB8 := Lib.hid hb8
                      have HS8 := Lib.hid hs8
                      clear ho8 hb8 hs8
                      generalize vals 11 = v9 at *
                      go_wp2_with fail
                      go_roundw
                      case measure => simp only [intOf]; omega
                      case rel =>
                        have hkd := kids_drop (s := s) (p := (((u0, u1), (v0, v1)) : Pr)) (i := j) (by rw [← kids_len, HKL.out]; omega)
                        refine ⟨j, by omega, by go_num, ?_, HB8.out, HS8.out⟩
                        have h2 := HNE.out
                        rw [hkd, HKD.out, List.cons_append, stk_cons, vcs_append, HUS.out, List.length_cons, show 2 * (((s.kids (((u0, u1), (v0, v1)) : Pr)).drop (j + 1) ++ l).length + 1) = N + 2 by omega]
                        exact HO8.out
              · have hnm2 : (((n : Nat) : Int) == ((m : Nat) : Int)) = false := by rw [beq_eq_false_iff_ne]; omega
                have HNM := Lib.hid hnm
                clear hnm
                go_wp2_with fail
                refine bodyPost_ret (v := .tuple #[.bool false, .int .i64 (k : Int)]) (by simp [results, Try.results31, go_sem]) rfl ⟨by rw [HQ1.out, rEq_no HE.out (compA_len (by rw [← slots_len, ← slots_len, HLA.out, HLB.out, ← HNA.out, ← HMB.out]; exact HNM.out))]; rfl, HB7.out⟩
            · have hx : kb < 1 ∨ (¬ kb < 1 ∧ 4 < kb) := by omega
              have H14 := Lib.hid h14
              clear h14
              rcases hx with hx | ⟨hx, hy⟩
              all_goals
                go_wp2_with fail
                refine bodyPost_ret (v := .tuple #[.bool false, .int .i64 (k : Int)]) (by simp [results, Try.results31, go_sem]) rfl ⟨by rw [HQ1.out, rEq_no HE.out (compA_no (by rw [HKA.out]; exact H14.out))]; rfl, HB6.out⟩
          · have hab2 : ¬ ka = kb := fun h => hab h.symm
            have hab3 : (ka == kb) = false := by rw [beq_eq_false_iff_ne]; exact hab2
            have HAB := Lib.hid hab
            clear hab
            go_wp2_with fail
            refine bodyPost_ret (v := .tuple #[.bool false, .int .i64 (k : Int)]) (by simp [results, Try.results31, go_sem]) rfl ⟨by rw [HQ1.out, rEq_no HE.out (compA_kind (by rw [HKA.out, HKB.out]; exact HAB.out))]; rfl, HB6.out⟩
end Go.Proofs.Ytimnhbndokfgnaa
