/- num.compare -/
import Derived.Test.YtommakdomnaclaaDoorLook
namespace Go.Proofs.YtommakdomnaclaaDoor
open Go.RowKit

/-- -1, 0, 1. -/
def cmpN (a b : Nat) : Int := if a < b then -1 else if b < a then 1 else 0

theorem V_less {f g : Nat → Nat} (hf : ∀ i, f i < 1000000000) {k n : Nat} (hk : k < n) (hlt : f k < g k) (heq : ∀ j, k < j → j < n → f j = g j) : V f n < V g n := by
  induction n with
  | zero => omega
  | succ n ih =>
    simp only [V]
    by_cases e : k = n
    · subst e
      have h1 := V_lt hf k
      have h2 : (f k + 1) * 1000000000 ^ k ≤ g k * 1000000000 ^ k := Nat.mul_le_mul_right _ hlt
      rw [Nat.add_mul, Nat.one_mul] at h2
      omega
    · have := ih (by omega) (fun j h1 h2 => heq j h1 (by omega))
      rw [heq n (by omega) (by omega)]
      omega

set_option maxRecDepth 100000 in
set_option maxHeartbeats 1000000 in
theorem compare_any (va vb : Value) (xs ys : List Nat) (w : World) (ha : Sl .u32 w va xs) (hb : Sl .u32 w vb ys) (hx : Lb xs) (hy : Lb ys) (hxl : xs.length < 1000000) (hyl : ys.length < 1000000) :
    Calls Tryd.prog 50 #[va, vb] w fun e w' => e = .returned (.int .i64 (cmpN (val xs) (val ys))) ∧ Below w.heap.size w w' := by
  have HA := Lib.hid ha
  have HB := Lib.hid hb
  obtain ⟨hma, ao, ca, rfl, hca, ha'⟩ := ha
  obtain ⟨hmb, bo, cb, rfl, hcb, hb'⟩ := hb
  clear ha' hb'
  unfold maxLen at hma hmb
  have HX := Lib.hid hx; clear hx
  have HY := Lib.hid hy; clear hy
  obtain ⟨m, hm1, hm2, hm3⟩ : ∃ m, xs.length ≤ m ∧ ys.length ≤ m ∧ m ≤ max xs.length ys.length := ⟨max xs.length ys.length, by omega, by omega, by omega⟩
  go_enter Tryd.func50, Tryd.ntmps50
  go_wp2_with fail
  refine (look_any _ _ _ _).mono ?_
  rintro e w' ⟨rfl, rfl⟩
  go_wp2_with fail
  refine (look_any _ _ _ _).mono ?_
  rintro e w' ⟨rfl, rfl⟩
  have hcA : ((w.alloc (.cells #[.slice ao xs.length ca] 22)).alloc (.cells #[.slice bo ys.length cb] 22)).cell? ⟨w.heap.size, 0, none⟩ = some (.slice ao xs.length ca) := by simp
  have hcB : ((w.alloc (.cells #[.slice ao xs.length ca] 22)).alloc (.cells #[.slice bo ys.length cb] 22)).cell? ⟨w.heap.size + 1, 0, none⟩ = some (.slice bo ys.length cb) := by simp
  have hbel : Below w.heap.size w ((w.alloc (.cells #[.slice ao xs.length ca] 22)).alloc (.cells #[.slice bo ys.length cb] 22)) := (((Below.refl _ w).alloc (Nat.le_refl _) _).alloc (by simp) _)
  generalize ((w.alloc (.cells #[.slice ao xs.length ca] 22)).alloc (.cells #[.slice bo ys.length cb] 22)) = w1 at *
  rcases Nat.lt_or_ge xs.length ys.length with hlt | hge
  all_goals
    go_wp2_with fail
    go_loop [7] (fun i => ∃ k : Nat, k ≤ m ∧ i = .int .i64 ((k : Int) - 1) ∧ ∀ j, k ≤ j → limb xs j = limb ys j) (fun i => (intOf i + 1).toNat)
    case atStart => exact ⟨m, by omega, by go_num, fun j hj => by rw [limb_out (by omega), limb_out (by omega)]⟩
    case round =>
      obtain ⟨k, hk, rfl, heq⟩ := hrel
      have HQ := Lib.hid heq; clear heq
      rcases (by omega : k = 0 ∨ 1 ≤ k) with h0 | h1
      · have hv : cmpN (val xs) (val ys) = 0 := by
          have e : val xs = val ys := by rw [← val_eq hm1, ← val_eq hm2]; exact V_congr fun i _ => HQ.out i (by omega)
          unfold cmpN; rw [e]; simp
        have HV := Lib.hid hv; clear hv
        go_wp2
        go_ret
        exact ⟨ret_int HV.out.symm, hbel⟩
      · have hxk := HX.out (((k : Int) - 1).toNat)
        have hyk := HY.out (((k : Int) - 1).toNat)
        have hkk : ((k : Int) - 1).toNat = k - 1 := by omega
        rw [hkk] at hxk hyk
        have HK := Lib.hid hkk; clear hkk
        have hcase : ∀ c, (limb xs (k - 1) < limb ys (k - 1) → c = -1) → (limb ys (k - 1) < limb xs (k - 1) → c = 1) → limb xs (k - 1) ≠ limb ys (k - 1) → cmpN (val xs) (val ys) = c := by
          intro c h1 h2 h3
          unfold cmpN
          rw [← val_eq hm1, ← val_eq hm2]
          rcases Nat.lt_or_gt_of_ne h3 with h | h
          · rw [if_pos (V_less HX.out (k := k - 1) (by omega) h fun j hj _ => HQ.out j (by omega)), h1 h]
          · have := V_less HY.out (k := k - 1) (n := m) (by omega) h fun j hj _ => (HQ.out j (by omega)).symm
            rw [if_neg (by omega), if_pos this, h2 h]
        have HC := Lib.hid hcase; clear hcase
        go_wp2_with fail
        refine (look1_int w.heap.size ((k : Int) - 1) _ xs w1 (by omega) (by omega) hcA (HA.out.below hbel) HX.out.wide).mono ?_
        rintro e w' ⟨rfl, rfl⟩
        rw [HK.out]
        go_wp2_with fail
        refine (look1_int (w.heap.size + 1) ((k : Int) - 1) _ ys w1 (by omega) (by omega) hcB (HB.out.below hbel) HY.out.wide).mono ?_
        rintro e w' ⟨rfl, rfl⟩
        rw [HK.out]
        rcases Nat.lt_trichotomy (limb xs (k - 1)) (limb ys (k - 1)) with hc | hc | hc
        · go_wp2
          go_ret
          exact ⟨ret_int (HC.out (-1) (fun _ => rfl) (fun h => by omega) (by omega)).symm, hbel⟩
        · have hc1 : limb xs (k - 1) ≤ limb ys (k - 1) := by omega
          have hc2 : limb ys (k - 1) ≤ limb xs (k - 1) := by omega
          have HC2 := Lib.hid hc; clear hc
          go_wp2_with fail
          refine (look1_int w.heap.size ((k : Int) - 1) _ xs w1 (by omega) (by omega) hcA (HA.out.below hbel) HX.out.wide).mono ?_
          rintro e w' ⟨rfl, rfl⟩
          rw [HK.out]
          go_wp2_with fail
          refine (look1_int (w.heap.size + 1) ((k : Int) - 1) _ ys w1 (by omega) (by omega) hcB (HB.out.below hbel) HY.out.wide).mono ?_
          rintro e w' ⟨rfl, rfl⟩
          rw [HK.out]
          go_wp2
          go_round
          case rel => exact ⟨k - 1, by omega, by go_num, fun j hj => by
            by_cases e : j = k - 1
            · subst e; exact HC2.out
            · exact HQ.out j (by omega)⟩
          case measure => simp [intOf]; omega
        · have hc1 : limb ys (k - 1) ≤ limb xs (k - 1) := by omega
          go_wp2_with fail
          refine (look1_int w.heap.size ((k : Int) - 1) _ xs w1 (by omega) (by omega) hcA (HA.out.below hbel) HX.out.wide).mono ?_
          rintro e w' ⟨rfl, rfl⟩
          rw [HK.out]
          go_wp2_with fail
          refine (look1_int (w.heap.size + 1) ((k : Int) - 1) _ ys w1 (by omega) (by omega) hcB (HB.out.below hbel) HY.out.wide).mono ?_
          rintro e w' ⟨rfl, rfl⟩
          rw [HK.out]
          go_wp2
          go_ret
          exact ⟨ret_int (HC.out 1 (fun h => by omega) (fun _ => rfl) (by omega)).symm, hbel⟩
end Go.Proofs.YtommakdomnaclaaDoor
