/- ref.more -/
import Derived.Test.YtommakdomnaclaaDoorRPlus
import Derived.Deep.QuietTactic
import Derived.BigQuiet
namespace Go.Proofs.YtommakdomnaclaaDoor
open Go.RowKit

set_option maxRecDepth 100000 in
set_option maxHeartbeats 4000000 in
theorem rmore_any (va vb : Value) (xs ys : List Nat) (w : World) (ha : Sl .u8 w va xs) (hb : Sl .u8 w vb ys) (hx : Db xs) (hy : Db ys) (htx : Top xs) (hty : Top ys) :
    Calls Tryd.prog 54 #[va, vb] w fun e w' => e = .returned (.int .i64 (cmpN (dval xs) (dval ys))) ∧ Below w.heap.size w w' := by
  have HA := Lib.hid ha
  have HB := Lib.hid hb
  obtain ⟨hma, ao, ca, rfl, hca, ha'⟩ := ha
  obtain ⟨hmb, bo, cb, rfl, hcb, hb'⟩ := hb
  clear ha' hb'
  unfold maxLen at hma hmb
  have HTX := Lib.hid htx; clear htx
  have HTY := Lib.hid hty; clear hty
  have HX := Lib.hid hx; clear hx
  have HY := Lib.hid hy; clear hy
  rcases (by omega : xs.length < ys.length ∨ ys.length < xs.length ∨ xs.length = ys.length) with h1 | h1 | h1
  · have hv : cmpN (dval xs) (dval ys) = -1 := by
      unfold cmpN; rw [if_pos (Top.less HX.out HY.out HTY.out h1)]
    have HV := Lib.hid hv; clear hv
    have hne : ((xs.length : Int) == (ys.length : Int)) = false := by rw [beq_eq_false_iff_ne]; omega
    go_enter Tryd.func54, Tryd.ntmps54
    go_wp2
    go_ret
    exact ⟨ret_int HV.out.symm, Below.refl _ _⟩
  · have hv : cmpN (dval xs) (dval ys) = 1 := by
      have := Top.less HY.out HX.out HTX.out h1
      unfold cmpN; rw [if_neg (by omega), if_pos this]
    have HV := Lib.hid hv; clear hv
    have hne : ((xs.length : Int) == (ys.length : Int)) = false := by rw [beq_eq_false_iff_ne]; omega
    go_enter Tryd.func54, Tryd.ntmps54
    go_wp2
    go_ret
    exact ⟨ret_int HV.out.symm, Below.refl _ _⟩
  · have hee : ((xs.length : Int) == (ys.length : Int)) = true := by rw [beq_iff_eq]; omega
    have hl1 : xs.length ≤ ys.length := by omega
    have hl2 : ys.length ≤ xs.length := by omega
    clear h1
    go_enter Tryd.func54, Tryd.ntmps54
    go_wp2_with fail
    go_loopw [5] (fun i wr => ∃ k q : Nat, k ≤ xs.length ∧ i = .int .i64 ((k : Int) - 1) ∧ wr = w.drewN q ∧ ∀ j, k ≤ j → limb xs j = limb ys j) (fun i _ => (intOf i + 1).toNat)
    case atStart => exact ⟨xs.length, 0, by omega, by go_num, rfl, fun j hj => by rw [limb_out (by omega), limb_out (by omega)]⟩
    case round =>
      obtain ⟨k, q, hk, rfl, rfl, heq⟩ := hrel
      have HQ := Lib.hid heq; clear heq
      rcases (by omega : k = 0 ∨ 1 ≤ k) with h0 | h1
      · have hv : cmpN (dval xs) (dval ys) = 0 := by
          have e : dval xs = dval ys := by rw [← dval_eq hl1, ← dval_eq (Nat.le_refl _)]; exact D_congr fun i _ => HQ.out i (by omega)
          unfold cmpN; rw [e]; simp
        have HV := Lib.hid hv; clear hv
        go_wp2
        go_ret
        exact ⟨ret_int HV.out.symm, below_drewN (Below.refl _ _) _⟩
      · obtain ⟨m, rfl⟩ : ∃ m, k = m + 1 := ⟨k - 1, by omega⟩
        have hxk := HX.out m
        have hyk := HY.out m
        obtain ⟨b1, o1, rfl, l1, c1⟩ := sl_cells HA.out (j := m) (by omega)
        obtain ⟨b2, o2, rfl, l2, c2⟩ := sl_cells HB.out (j := m) (by omega)
        clear l1 l2
        have hcase : ∀ c, (limb xs m < limb ys m → c = -1) → (limb ys m < limb xs m → c = 1) → limb xs m ≠ limb ys m → cmpN (dval xs) (dval ys) = c := by
          intro c h1 h2 h3
          unfold cmpN
          rw [← dval_eq hl1, ← dval_eq (Nat.le_refl ys.length)]
          rcases Nat.lt_or_gt_of_ne h3 with h | h
          · rw [if_pos (D_less HX.out (k := m) (by omega) h fun j hj _ => HQ.out j (by omega)), h1 h]
          · have := D_less HY.out (k := m) (n := ys.length) (by omega) h fun j hj _ => (HQ.out j (by omega)).symm
            rw [if_neg (by omega), if_pos this, h2 h]
        have HC := Lib.hid hcase; clear hcase
        rcases Nat.lt_trichotomy (limb xs m) (limb ys m) with hc | hc | hc
        · have hc1 : limb xs m ≤ limb ys m := by omega
          go_wp2
          go_quiet (fail)
          go_wp2
          go_quiet (fail)
          go_wp2
          go_ret
          exact ⟨ret_int (HC.out (-1) (fun _ => rfl) (fun h => by omega) (by omega)).symm, by first | exact below_drewN (below_drewN (below_drewN (Below.refl _ _) _) _) _ | exact below_drewN (below_drewN (Below.refl _ _) _) _⟩
        · have hc1 : limb xs m ≤ limb ys m := by omega
          have hc2 : limb ys m ≤ limb xs m := by omega
          have HC2 := Lib.hid hc; clear hc
          go_wp2
          go_quiet (fail)
          go_wp2
          go_quiet (fail)
          go_wp2
          go_roundw
          case rel => exact ⟨m, _, by omega, by go_num, rfl, fun j hj => by
            by_cases e : j = m
            · subst e; exact HC2.out
            · exact HQ.out j (by omega)⟩
          case measure => simp only [intOf]; omega
        · go_wp2
          go_quiet (fail)
          go_wp2
          go_ret
          exact ⟨ret_int (HC.out 1 (fun h => by omega) (fun _ => rfl) (by omega)).symm, by first | exact below_drewN (below_drewN (below_drewN (Below.refl _ _) _) _) _ | exact below_drewN (below_drewN (Below.refl _ _) _) _⟩
end Go.Proofs.YtommakdomnaclaaDoor
