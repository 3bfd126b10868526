/- num.split -/
import Derived.Test.YtiekhjgfnmochaaDoorDivMath
import Derived.Test.YtiekhjgfnmochaaDoorTimesRow
import Derived.Test.YtiekhjgfnmochaaDoorShrink
namespace Go.Proofs.YtiekhjgfnmochaaDoor
open Go.RowKit

/-- What split answers: the quotient's limbs, and the rest's. -/
def SplitPost (xs ys : List Nat) (w : World) (e : Ending) (w' : World) : Prop :=
  ∃ v1 v2 q r, e = .returned (.tuple #[v1, v2]) ∧ Sl .u32 w' v1 q ∧ Sl .u32 w' v2 r ∧ Lb q ∧ Lb r ∧ q.length ≤ xs.length ∧ r.length ≤ xs.length ∧ val q = val xs / val ys ∧ val r = val xs % val ys ∧ Below w.heap.size w w'

set_option maxRecDepth 100000 in
set_option maxHeartbeats 1000000 in
theorem split_short (ao bo : Option Addr) (ca cb : Nat) (xs ys : List Nat) (w : World) (ha : Sl .u32 w (.slice ao xs.length ca) xs) (_hb : Sl .u32 w (.slice bo ys.length cb) ys) (hx : Lb xs) (_ : Lb ys)
    (hxl : xs.length ≤ 1000) (hyl : ys.length ≤ 1000) (hyt : 1 ≤ limb ys (ys.length - 1)) (h : xs.length < ys.length) :
    Calls Tryd.prog 56 #[.slice ao xs.length ca, .slice bo ys.length cb] w (SplitPost xs ys w) := by
  have HA := Lib.hid ha; clear ha _hb
  have hlt : val xs < val ys := by
    have h1 := val_lt hx
    have h2 := val_top (ys := ys) (n := ys.length - 1) (by omega)
    have h3 : 1000000000 ^ xs.length ≤ 1000000000 ^ (ys.length - 1) := Nat.pow_le_pow_right (by omega) (by omega)
    have h4 := Nat.mul_le_mul_right (1000000000 ^ (ys.length - 1)) hyt
    omega
  have HLT := Lib.hid hlt; clear hlt
  have HX := Lib.hid hx; clear hx hyt
  go_enter Tryd.func56, Tryd.ntmps56
  go_wp2_with fail
  refine (clone_any ao ca xs _ HA.out (by omega)).mono ?_
  rintro e w1 ⟨v, rfl, hs, hb⟩
  have HS := Lib.hid hs
  obtain ⟨q1, ao1, cap1, rfl, q2, q3⟩ := hs
  clear q1 q2 q3
  go_wp2
  refine bodyPost_ret (v := .tuple #[.slice none 0 0, .slice ao1 xs.length cap1]) (by simp [results, Tryd.results56, go_sem]) rfl ?_
  exact ⟨.slice none 0 0, _, [], xs, rfl, ⟨by simp, none, 0, rfl, by simp, .inl ⟨rfl, fun _ => rfl⟩⟩, HS.out, fun i => by rw [limb_out (by simp)]; omega, HX.out, by simp, Nat.le_refl _, by rw [Nat.div_eq_of_lt HLT.out]; rfl, (Nat.mod_eq_of_lt HLT.out).symm, hb⟩

set_option maxRecDepth 100000 in
set_option maxHeartbeats 2000000 in
theorem split_long (ao bo : Option Addr) (ca cb : Nat) (xs ys : List Nat) (w : World) (ha : Sl .u32 w (.slice ao xs.length ca) xs) (hb : Sl .u32 w (.slice bo ys.length cb) ys) (hx : Lb xs) (hy : Lb ys)
    (hxl : xs.length ≤ 1000) (hyl : ys.length ≤ 1000) (hyt : 1 ≤ limb ys (ys.length - 1)) (h1 : 1 ≤ ys.length) (h : ys.length ≤ xs.length) :
    Calls Tryd.prog 56 #[.slice ao xs.length ca, .slice bo ys.length cb] w (SplitPost xs ys w) := by
  obtain ⟨i0, hi, hz0, hz1, hz2⟩ := info_parts infoU32
  have HA := Lib.hid ha; clear ha
  have HX := Lib.hid hx; clear hx
  have HYT := Lib.hid hyt
  obtain ⟨b2, o2, rfl, hb2, hc2⟩ := sl_at hb (show ys.length - 1 < ys.length by omega)
  have HB := Lib.hid hb; clear hb
  have hyb := hy (ys.length - 1)
  obtain ⟨s, hs⟩ : ∃ s, s = 1000000000 / (limb ys (ys.length - 1) + 1) := ⟨_, rfl⟩
  obtain ⟨hs1, hs2, hs3, hs4⟩ := scale_fits hy rfl h1 hs hyt
  have HS3 := Lib.hid hs3
  have HS4 := Lib.hid hs4
  clear hs3 hs4
  have HY := Lib.hid hy; clear hy
  have hdiv := tdiv_nat (t := 1000000000) (T := 1000000000) (s := limb ys (ys.length - 1) + 1) rfl hs.symm
  have hy0 : ((((limb ys (ys.length - 1) : Nat) : Int) + 1) == 0) = false := by rw [beq_eq_false_iff_ne]; omega
  rw [show (((limb ys (ys.length - 1) + 1 : Nat)) : Int) = ((limb ys (ys.length - 1) : Nat) : Int) + 1 from rfl] at hdiv
  have hs5 : s ≤ 500000000 := by rw [hs]; exact Nat.div_le_div_left (show 2 ≤ limb ys (ys.length - 1) + 1 by omega) (by omega)
  clear hs
  go_enter Tryd.func56, Tryd.ntmps56
  go_wp2_with fail
  have HLS : Hid (Lb [s]) := Lib.hid fun i => by
    rcases i with _ | i
    · show s < 1000000000; omega
    · rw [limb_out (by simp)]; omega
  have HRS : Hid (∀ W : World, Sl .u32 (W.alloc (.cells #[.int .u32 (s : Int)] 52)) (.slice (some ⟨W.heap.size, 0, none⟩) 1 1) [s]) := Lib.hid fun W => by
    have hr : Row .u32 52 (W.alloc (.cells #[.int .u32 (s : Int)] 52)) W.heap.size [s] := heap_alloc_new W _
    exact hr.sl_all (n := 1) (cap := 1) rfl (Nat.le_refl _) (by unfold maxLen; omega)
  have hv1 : ∀ zs : List Nat, val zs * val [s] = val zs * s := fun zs => by rw [show val [s] = s from by simp [val, V, limb]]
  have HV1 := Lib.hid hv1
  clear hv1
  refine (times_row _ _ xs [s] _ (HA.out.below (below1 _ _)) (HRS.out w) HX.out HLS.out (by omega) (by simp)).mono ?_
  rintro e w1 ⟨N, A, rfl, hN, hrA, hlA, hlenA, hvA, hbA⟩
  rw [HV1.out] at hvA
  have hB1 : Below w.heap.size w w1 := (below1 w _).trans (hbA.mono (by simp))
  have hgA := hrA.lt
  have hgA2 : w.heap.size < (w.alloc (.cells #[.int .u32 (s : Int)] 52)).heap.size + 1 + 1 := by simp; omega
  clear hbA
  generalize (w.alloc (.cells #[.int .u32 (s : Int)] 52)).heap.size + 1 + 1 = g at *
  have HVA := Lib.hid hvA
  have HLA := Lib.hid hlA
  clear hvA hlA
  rw [hlenA] at hN
  subst hN
  have HLA2 : Hid (A.length = xs.length + 1) := Lib.hid hlenA
  clear hlenA
  go_wp2_with fail
  refine (times_row _ _ ys [s] _ ((HB.out.below hB1).below (below1 _ _)) (HRS.out w1) HY.out HLS.out (by omega) (by simp)).mono ?_
  rintro e w2 ⟨N2, B, rfl, hN2, hrB, hlB, hlenB, hvB, hbB⟩
  rw [HV1.out] at hvB
  have hB12 : Below w1.heap.size w1 w2 := (below1 w1 _).trans (hbB.mono (by simp))
  have hgB := hrB.lt
  have hgB2 : w1.heap.size < (w1.alloc (.cells #[.int .u32 (s : Int)] 52)).heap.size + 1 + 1 := by simp; omega
  clear hbB
  generalize (w1.alloc (.cells #[.int .u32 (s : Int)] 52)).heap.size + 1 + 1 = g2 at *
  have HVB := Lib.hid hvB
  have HLB := Lib.hid hlB
  clear hvB hlB
  rw [hlenB] at hN2
  subst hN2
  have HLB2 : Hid (B.length = ys.length + 1) := Lib.hid hlenB
  clear hlenB
  replace hrA := hrA.below hB12 hgA
  have hB2 := hB1.trans (hB12.mono hB1.size)
  have T := trim_row g2 0 B.length B w2 (hrB.sl_all rfl (Nat.le_refl _) (by rw [HLB2.out]; unfold maxLen; omega)) (by intro e; have := HLB2.out; rw [e] at this; simp at this) HLB.out.wide
  rw [HLB2.out] at T
  have HT := Lib.hid T
  clear T
  go_wp2_with fail
  refine HT.out.mono ?_
  clear HT
  rintro e w' ⟨n, rfl, hn1, hn2, hn3, rfl⟩
  have hnn := trim_len HLB.out hn1 hn2 hn3 (by rw [HVB.out]; exact HS4.out) (by rw [HVB.out]; exact HS3.out) h1
  subst hnn
  have hyt2 : 1 ≤ limb (B.take ys.length) (ys.length - 1) := by rw [limb_take, if_pos (by omega)]; omega
  have hlt2 : (B.take ys.length).length = ys.length := by rw [List.length_take]; omega
  have HT2 := Lib.hid hlt2
  have HYT2 := Lib.hid hyt2
  have HVY : Hid (val (B.take ys.length) = val ys * s) := Lib.hid (by rw [val_take hn1 hn3]; exact HVB.out)
  have HLY : Hid (Lb (B.take ys.length)) := Lib.hid fun i => by
    rw [limb_take]
    split
    · exact HLB.out i
    · omega
  clear hn1 hn2 hn3 hlt2 hyt2 hb2 hc2 hdiv hy0 hyb hs5 HRS HV1 HLS
  have HSP := Lib.hid (SplitInv.start HLA.out HX.out HLA2.out HVA.out hs1 rfl h1 HYT.out h)
  go_wp2_with (at_make; refine wpList_make_full _ rfl _ _ 22 rfl w2.heap.size 52 i0 (.int .u32 0) 1 Tryd.underlying22 hi hz0 hz1 _ _ _ _ (xs.length - ys.length + 1) rfl rfl (by omega) (by omega) (by rw [hz2]; omega) (by unfold maxLen; omega) (by omega) ?_; intro w3 hown hgrow)
  have hrow : Row .u32 52 w3 w2.heap.size (List.replicate (xs.length - ys.length + 1) 0) := Row.of_made hown
  have hb1 : Below w2.heap.size w2 w3 := (Below.refl _ w2).grown hgrow (Nat.le_refl _) (fun _ h => by cases h)
  clear hown hgrow
  replace hrA := hrA.below hb1 (by have := hB12.size; omega)
  replace hrB := hrB.below hb1 hgB
  have hB3 := hB2.trans (hb1.mono hB2.size)
  have hwg := hrow.lt
  have hgA3 : g < w2.heap.size := by have := hB12.size; omega
  have hne : ¬ (g2 = g) := by omega
  clear hb1 hB12 hB1 hB2
  go_loopw [8] (fun i wr => ∃ (k : Nat) (R WH : List Nat), k ≤ xs.length - ys.length + 1 ∧ WH.length = xs.length - ys.length + 1 ∧ i = .int .i64 ((k : Int) - 1) ∧ Row .u32 52 wr g R ∧ Row .u32 52 wr g2 B ∧ Row .u32 52 wr w2.heap.size WH ∧ SplitInv A R WH (val ys * s) ys.length k ∧ Below w.heap.size w wr) (fun i _ => (intOf i + 1).toNat)
  case atStart => exact ⟨xs.length - ys.length + 1, A, _, Nat.le_refl _, by simp, by go_num, hrA, hrB, hrow, HSP.out, hB3⟩
  case round =>
    clear hrA hrB hrow hB3 HSP
    obtain ⟨k, R, WH, hk, hWH, rfl, hrA, hrB, hrow, hinv, hbel⟩ := hrel
    have HW := Lib.hid hWH; clear hWH
    have HI := Lib.hid hinv; clear hinv
    rcases k with _ | k
    · have hRl : (R.take ys.length).length = ys.length := by rw [List.length_take, HI.out.len, HLA2.out]; omega
      have hRb : Lb (R.take ys.length) := fun i => by
        rw [limb_take]
        split
        · exact HI.out.lb i
        · omega
      have hsl : Sl .u32 wr (.slice (some ⟨g, 0, none⟩) ys.length (xs.length + 1)) (R.take ys.length) := hrA.sl (by rw [HI.out.len, HLA2.out]; omega) (by omega) (by unfold maxLen; omega)
      have T := shrink_any (some ⟨g, 0, none⟩) (xs.length + 1) (R.take ys.length) s wr (by rw [hRl]; exact hsl) hRb (by omega) hs1 hs2
      rw [hRl] at T
      have HT := Lib.hid T
      clear T hRl hRb hsl
      go_wp2_with fail
      refine HT.out.mono ?_
      rintro e w4 ⟨v, rs, rfl, hs4, hlb4, hlen4, hval4, hb4⟩
      have HS6 := Lib.hid hs4
      obtain ⟨q1, ao4, cap4, rfl, q2, q3⟩ := hs4
      have HW4 := Lib.hid (hrow.sl_all (n := xs.length - ys.length + 1) (cap := xs.length - ys.length + 1) HW.out.symm (Nat.le_refl _) (by unfold maxLen; omega))
      obtain ⟨d1, d2⟩ := HI.out.done HVA.out hs1 (Nat.le_trans HS3.out (Nat.sub_le _ _))
      have D1 := Lib.hid d1
      have D2 := Lib.hid (hval4.trans d2)
      have HLEN := Lib.hid hlen4
      clear q1 q2 q3 HT d1 d2 hval4 hlen4
      go_wp2
      refine bodyPost_ret (v := .tuple #[.slice (some ⟨w2.heap.size, 0, none⟩) (xs.length - ys.length + 1) (xs.length - ys.length + 1), .slice ao4 rs.length cap4]) (by simp [results, Tryd.results56, go_sem]) rfl ?_
      exact ⟨_, _, WH, rs, rfl, HW4.out.below hb4, HS6.out, HI.out.wlb, hlb4, by rw [HW.out]; omega, by rw [HLEN.out]; omega, D1.out, D2.out, hbel.trans (hb4.mono hbel.size)⟩
    · obtain ⟨p1, p2⟩ := HI.out.part (Nat.le_trans HS3.out (Nat.sub_le _ _)) (show k < WH.length by rw [HW.out]; omega)
      have e1 : ys.length - 1 + 2 = ys.length + 1 := by omega
      have e2 : k + ys.length + 1 - k = ys.length + 1 := by omega
      have hslB : Sl .u32 wr (.slice (some ⟨g2, 0, none⟩) ys.length (ys.length + 1)) (B.take ys.length) := hrB.sl (by rw [HLB2.out]; omega) (by omega) (by unfold maxLen; omega)
      have T := goes_any g k (ys.length - 1) (xs.length + 1 - k) (some ⟨g2, 0, none⟩) (ys.length + 1) R (B.take ys.length) wr hrA HI.out.lb (by rw [HI.out.len, HLA2.out]; omega) (by rw [HI.out.len, HLA2.out]; omega) (by rw [HT2.out]; exact hslB) HLY.out (fun a ha => by cases ha; exact hne) (by rw [HT2.out]; omega) HYT2.out (by rw [HVY.out, e1]; exact p2)
      rw [HT2.out, e1] at T
      have HT := Lib.hid T
      clear T hslB p1 p2 e1
      have E2 := Lib.hid e2; clear e2
      go_wp2_with fail
      rw [E2.out]
      refine HT.out.mono ?_
      rintro e w4 ⟨R2, D, rfl, hr2, hl2, hb2, he2, hlt2, hD2, hout2, hkp2⟩
      rw [show ys.length - 1 + 2 = ys.length + 1 by omega, HVY.out] at he2
      rw [show ys.length - 1 + 2 = ys.length + 1 by omega, HVY.out] at hlt2
      rw [show ys.length - 1 + 2 = ys.length + 1 by omega] at hout2
      have hkw : k < WH.length := by rw [HW.out]; omega
      have HN := Lib.hid (HI.out.step (Nat.le_trans HS3.out (Nat.sub_le _ _)) hkw hl2 hb2 he2 hlt2 hD2 hout2)
      have hszw : w2.heap.size < wr.heap.size := hrow.lt
      have hszg : g2 < wr.heap.size := hrB.lt
      have hrow4 : Row .u32 52 w4 w2.heap.size WH := by unfold Row at *; rw [hkp2.oth _ hszw (by omega)]; exact hrow
      have hrB4 : Row .u32 52 w4 g2 B := by unfold Row at *; rw [hkp2.oth _ hszg hne]; exact hrB
      have hB4 := hbel.trans (hkp2.bel.mono (show w.heap.size ≤ g by omega))
      clear hkp2 HT he2 hlt2 hout2 hl2 hb2 hrow hrB hrA hbel
      have hcell := hrow4.cell hkw
      have hfr := hrow4.frozen k
      have HR4 := Lib.hid hrow4; clear hrow4
      clear hkw
      go_wp2_with fail
      go_roundw
      case rel =>
        refine ⟨k, R2, WH.set k D, by omega, by rw [List.length_set]; exact HW.out, by go_num, hr2.other (by simp; omega) _, hrB4.other (by simp; omega) _, HR4.out.put k D rfl, HN.out, hB4.setCell (by simp; omega) _⟩
      case measure => simp only [intOf]; omega
end Go.Proofs.YtiekhjgfnmochaaDoor
