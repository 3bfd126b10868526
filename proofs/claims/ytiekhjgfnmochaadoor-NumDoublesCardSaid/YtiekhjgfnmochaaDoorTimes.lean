/- num.times -/
import Derived.Test.YtiekhjgfnmochaaDoorLook
import Derived.Test.YtiekhjgfnmochaaDoorTimesMath
import Derived.Deep.QuietTactic
import Derived.BigQuiet
namespace Go.Proofs.YtiekhjgfnmochaaDoor
open Go.RowKit

/-- What times answers. -/
def TimesPost (xs ys : List Nat) (w : World) (e : Ending) (w' : World) : Prop :=
  ∃ v rs, e = .returned v ∧ Sl .u32 w' v rs ∧ Lb rs ∧ rs.length = xs.length + ys.length ∧ val rs = val xs * val ys ∧ Below w.heap.size w w'

set_option maxRecDepth 100000 in
set_option maxHeartbeats 2000000 in
theorem times_any (va vb : Value) (xs ys : List Nat) (w : World) (ha : Sl .u32 w va xs) (hb : Sl .u32 w vb ys) (hx : Lb xs) (hy : Lb ys) (hxl : xs.length < 1000000) (hyl : ys.length < 1000000) :
    Calls Tryd.prog 55 #[va, vb] w (TimesPost xs ys w) := by
  obtain ⟨i0, hi, hz0, hz1, hz2⟩ := info_parts infoU32
  have HA := Lib.hid ha
  have HB := Lib.hid hb
  obtain ⟨hma, ao, ca, rfl, hca, ha'⟩ := ha
  obtain ⟨hmb, bo, cb, rfl, hcb, hb'⟩ := hb
  clear ha' hb'
  unfold maxLen at hma hmb
  have HX := Lib.hid hx; clear hx
  have HY := Lib.hid hy; clear hy
  obtain ⟨n, hn⟩ : ∃ n, n = xs.length := ⟨_, rfl⟩
  obtain ⟨m, hm⟩ : ∃ m, m = ys.length := ⟨_, rfl⟩
  have hn1 : xs.length ≤ n := by omega
  have hn2 : n ≤ xs.length := by omega
  have hm1 : ys.length ≤ m := by omega
  have hm2 : m ≤ ys.length := by omega
  have HN := Lib.hid hn; clear hn
  have HM := Lib.hid hm; clear hm
  go_enter Tryd.func55, Tryd.ntmps55
  go_wp2_with fail
  refine (look_any _ _ _ _).mono ?_
  rintro e w' ⟨rfl, rfl⟩
  go_wp2_with fail
  refine (look_any _ _ _ _).mono ?_
  rintro e w' ⟨rfl, rfl⟩
  go_wp2_with (at_make; refine wpList_make_full _ rfl _ _ 22 rfl w.heap.size 52 i0 (.int .u32 0) 1 Tryd.underlying22 hi hz0 hz1 _ _ _ _ (n + m) rfl rfl (by omega) (by omega) (by rw [hz2]; omega) (by unfold maxLen; omega) (by simp; omega) ?_; intro w1 hown hgrow)
  have hrow : Row .u32 52 w1 (w.heap.size + 1 + 1) (List.replicate (n + m) 0) := by have := Row.of_made hown; simpa only [World.size_alloc] using this
  clear hown
  have hb1 : Below w.heap.size w w1 := (below2 w _ _).grown hgrow (by simp; omega) (fun _ h => by cases h)
  have hcA : w1.cell? ⟨w.heap.size, 0, none⟩ = some (.slice ao xs.length ca) := hgrow.cell (by simp) (by simp)
  have hcB : w1.cell? ⟨w.heap.size + 1, 0, none⟩ = some (.slice bo ys.length cb) := hgrow.cell (by simp) (by simp)
  clear hgrow
  go_loopw [24] (fun i wr => ∃ k rs, k ≤ n ∧ i = .int .i64 (k : Nat) ∧ Row .u32 52 wr (w.heap.size + 1 + 1) rs ∧ TimesOut xs ys rs m (n + m) k ∧ wr.cell? ⟨w.heap.size, 0, none⟩ = some (.slice ao xs.length ca) ∧ wr.cell? ⟨w.heap.size + 1, 0, none⟩ = some (.slice bo ys.length cb) ∧ Below w.heap.size w wr) (fun i _ => n - (intOf i).toNat)
  case atStart => exact ⟨0, _, by omega, rfl, hrow, TimesOut.start, hcA, hcB, hb1⟩
  case round =>
    clear hrow hcA hcB hb1
    obtain ⟨k, rs0, hk, rfl, hrow, hout, hcA, hcB, hbel⟩ := hrel
    by_cases hkn : k < n
    · have HOUT := Lib.hid hout; clear hout
      go_wp2_with fail
      go_loopw [9, 30] (fun c j wr => ∃ jj cc rs, jj ≤ m + 1 ∧ j = .int .i64 (jj : Nat) ∧ c = .int .u64 (cc : Nat) ∧ Row .u32 52 wr (w.heap.size + 1 + 1) rs ∧ TimesIn ys rs0 rs k (limb xs k) m (n + m) jj cc ∧ wr.cell? ⟨w.heap.size, 0, none⟩ = some (.slice ao xs.length ca) ∧ wr.cell? ⟨w.heap.size + 1, 0, none⟩ = some (.slice bo ys.length cb) ∧ Below w.heap.size w wr) (fun _ j _ => m + 1 - (intOf j).toNat)
      case atStart => exact ⟨0, 0, rs0, by omega, rfl, rfl, hrow, HOUT.out.inn _, hcA, hcB, hbel⟩
      case round =>
        clear hrow hcA hcB hbel
        obtain ⟨j, cc, rs, hj, rfl, rfl, hrow, hin, hcA, hcB, hbel⟩ := hrel
        by_cases hjm : j < m + 1
        · have hxk := HX.out k
          have hyj := HY.out j
          have hcc := hin.small
          have HI := Lib.hid hin; clear hin
          have hlen : k + j < rs.length := by rw [HI.out.len]; omega
          have hrk := HI.out.lb (k + j)
          have hcell := hrow.cell (j := k + j) hlen
          have hfr := hrow.frozen (k + j)
          clear hlen
          have HR := Lib.hid hrow; clear hrow
          have CA : Hid (∀ q, Calls Tryd.prog 59 #[.int .i64 (k : Nat), .pointer (some ⟨w.heap.size, 0, none⟩)] (wr.drewN q) fun e w' => e = .returned (.int .u64 ((limb xs k : Nat) : Int)) ∧ w' = wr.drewN q) := Lib.hid fun q =>
            (look1_any w.heap.size k _ xs (wr.drewN q) (by omega) hcA (HA.out.below (below_drewN hbel q)) HX.out.wide).mono fun _ _ ⟨h1, h2⟩ => ⟨h1, h2.symm⟩
          have CB : Hid (∀ q, Calls Tryd.prog 59 #[.int .i64 (j : Nat), .pointer (some ⟨w.heap.size + 1, 0, none⟩)] (wr.drewN q) fun e w' => e = .returned (.int .u64 ((limb ys j : Nat) : Int)) ∧ w' = wr.drewN q) := Lib.hid fun q =>
            (look1_any (w.heap.size + 1) j _ ys (wr.drewN q) (by omega) hcB (HB.out.below (below_drewN hbel q)) HY.out.wide).mono fun _ _ ⟨h1, h2⟩ => ⟨h1, h2.symm⟩
          have hxy : limb xs k * limb ys j ≤ 999999998000000001 := by have := Nat.mul_le_mul (show limb xs k ≤ 999999999 by omega) (show limb ys j ≤ 999999999 by omega); omega
          have hxyc : ((limb xs k * limb ys j : Nat) : Int) = (limb xs k : Int) * (limb ys j : Int) := Int.natCast_mul _ _
          have e1 : IntKind.i64.wrap ((k : Int) + (j : Int)) = (k : Int) + (j : Int) := IntWalk.i64_in _ (by omega)
          have e2 : ((k : Int) + (j : Int)).toNat = k + j := by omega
          have e3 : 0 ≤ (k : Int) + (j : Int) := by omega
          have e4 : IntKind.u64.wrap ((limb xs k : Int) * (limb ys j : Int)) = (limb xs k : Int) * (limb ys j : Int) := IntWalk.u64_in _ (by omega)
          have e5 : IntKind.u64.wrap (((limb rs (k + j) : Nat) : Int) + (limb xs k : Int) * (limb ys j : Int)) = ((limb rs (k + j) : Nat) : Int) + (limb xs k : Int) * (limb ys j : Int) := IntWalk.u64_in _ (by omega)
          have e6 : IntKind.u64.wrap (((limb rs (k + j) : Nat) : Int) + (limb xs k : Int) * (limb ys j : Int) + (cc : Int)) = ((limb rs (k + j) : Nat) : Int) + (limb xs k : Int) * (limb ys j : Int) + (cc : Int) := IntWalk.u64_in _ (by omega)
          have HXY := Lib.hid hxyc; clear hxyc
          go_wp2_with fail
          go_quiet ((first | (with_reducible exact Calls.quiet_of_same (CA.out _)) | (with_reducible exact Calls.quiet_of_same (CB.out _))))
          clear e1 e2 e3 e4 e5 e6
          have hst := HI.out.step hxk HY.out hm1 (by omega) (by omega) (HOUT.out.zero (k + m) (Nat.le_refl _))
          have HST := Lib.hid hst; clear hst
          go_wp2
          go_roundw
          case rel =>
            have ec : (limb xs k : Int) * (limb ys j : Int) = ((limb xs k * limb ys j : Nat) : Int) := HXY.out.symm
            rw [ec]
            refine ⟨j + 1, _, _, by omega, by go_num, ?_, (HR.out.drewN nq).put _ ((limb rs (k + j) + limb xs k * limb ys j + cc) % 1000000000) (by omega), HST.out, ?_, ?_, (below_drewN hbel nq).setCell (by simp; omega) _⟩
            · have : ∀ a b : Int, a = b → Value.int .u64 a = .int .u64 b := fun _ _ h => by rw [h]
              exact this _ _ (by omega)
            · rw [cell_other (by simp; omega)]; exact hcA
            · rw [cell_other (by simp)]; exact hcB
          case measure => simp only [intOf]; omega
        · obtain rfl : j = m + 1 := by omega
          have HO2 := Lib.hid (HOUT.out.next hin hm1)
          clear hin
          go_wp2
          go_roundw
          case rel => exact ⟨k + 1, rs, by omega, by go_num, hrow, HO2.out, hcA, hcB, hbel⟩
          case measure => simp only [intOf]; omega
    · obtain rfl : k = n := by omega
      obtain rfl : k = xs.length := by omega
      obtain ⟨hlb, hlen, hval⟩ := hout.done
      have HL := Lib.hid hlen; clear hlen
      have HV := Lib.hid hval; clear hval
      go_wp2
      go_ret
      exact ⟨_, rs0, rfl, hrow.sl_all HL.out.symm (Nat.le_refl _) (by unfold maxLen; omega), hlb, by rw [HL.out]; omega, HV.out, hbel⟩
end Go.Proofs.YtiekhjgfnmochaaDoor
