/- ref.minus -/
import Derived.Test.YtommakdomnaclaaDoorRPlus
namespace Go.Proofs.YtommakdomnaclaaDoor
open Go.RowKit

set_option maxRecDepth 100000 in
set_option maxHeartbeats 4000000 in
theorem rminus_any (va vb : Value) (xs ys : List Nat) (w : World) (ha : Sl .u8 w va xs) (hb : Sl .u8 w vb ys) (hx : Db xs) (hy : Db ys) (hty : Top ys) (hle : dval ys ≤ dval xs) (hxl : xs.length < 1000000) :
    Calls Tryd.prog 58 #[va, vb] w (DigPost (dval xs - dval ys) w) := by
  obtain ⟨i0, hi, hz0, hz1, hz2⟩ := info_parts infoB
  have hyx : ys.length ≤ xs.length := hty.mono hx hy hle
  have HLE := Lib.hid hle
  clear hle hty
  have HA := Lib.hid ha
  have HB := Lib.hid hb
  obtain ⟨hma, ao, ca, rfl, hca, ha'⟩ := ha
  obtain ⟨hmb, bo, cb, rfl, hcb, hb'⟩ := hb
  clear ha' hb'
  unfold maxLen at hma hmb
  have HX := Lib.hid hx; clear hx
  have HY := Lib.hid hy; clear hy
  go_enter Tryd.func58, Tryd.ntmps58
  go_wp2_with fail
  go_loopw [5, 6, 7] (fun v c i wr => ∃ (rs : List Nat) (cv k : Nat), k ≤ xs.length ∧ c = .int .u8 (cv : Nat) ∧ i = .int .i64 (k : Nat) ∧ DifInv xs ys rs k cv ∧ wr.ownsRow w.heap.size 5 1 v rs.length (rs.map fun (x : Nat) => Value.int .u8 (x : Int)) ∧ Below w.heap.size w wr) (fun _ _ i _ => xs.length - (intOf i).toNat)
  case atStart => exact ⟨[], 0, 0, by omega, rfl, rfl, DifInv.start xs ys, World.ownsRow_nil _ _ _ _, Below.refl _ _⟩
  case round =>
    obtain ⟨rs, cv, k, hk, rfl, rfl, hinv, hown, hbel⟩ := hrel
    have hcv := hinv.small
    have hlen := hinv.len
    have hxk := HX.out k
    have hyk := HY.out k
    have hwz : w.heap.size ≤ wr.heap.size := hbel.size
    have HBL := Lib.hid hbel
    by_cases h1 : k < xs.length
    · obtain ⟨b1, o1, rfl, l1, c1⟩ := sl_cells (HA.out.below hbel) h1
      clear l1
      have HI := Lib.hid hinv; clear hinv
      have hsm : rs.length < 1000000 := by omega
      clear hlen
      obtain ⟨y, hy, hy2⟩ : ∃ y, (k < ys.length → y = limb ys k) ∧ (y = limb ys k) := ⟨_, fun _ => rfl, rfl⟩
      have hy10 : y < 10 := by omega
      have HY2 := Lib.hid hy2
      rcases (by omega : k < ys.length ∨ ys.length ≤ k) with h2 | h2
      · obtain ⟨b2, o2, rfl, l2, c2⟩ := sl_cells (HB.out.below hbel) h2
        clear l2 hbel
        rw [← hy2] at c2 hyk
        clear hy hy2
        rcases (by omega : limb xs k < cv + y ∨ cv + y ≤ limb xs k) with h3 | h3
        · go_wp2_with (at_builtin; (refine wpList_append_own _ rfl _ _ 44 rfl w.heap.size 5 i0 (.int .u8 0) 1 1 Tryd.underlying44 hi hz0 hz1 hz2 rfl (by decide) _ rs.length (rs.map fun (x : Nat) => Value.int .u8 (x : Int)) rfl (hown.alloc _) ⟨wr.heap.size, 0, none⟩ 1 1 [.int .u8 ((limb xs k : Int) + 10 - ((cv : Int) + (y : Int)))] rfl (by simp) (cell_one_new _ _ _) (by intro u hu; rw [List.mem_singleton] at hu; subst hu; rfl) (by unfold maxLen; omega) (by omega) (by simp; omega) ?_); intro v' w1 hown1 hgrow hnil; clear hnil)
          clear c1 c2
          go_roundw
          case rel =>
            have e0 : (limb xs k : Int) + 10 - ((cv : Int) + (y : Int)) = ((limb xs k + 10 - (cv + y) : Nat) : Int) := by omega
            have e1 : (List.map (fun (x : Nat) => Value.int .u8 (x : Int)) rs ++ [.int .u8 ((limb xs k : Int) + 10 - ((cv : Int) + (y : Int)))]) = (rs ++ [limb xs k + 10 - (cv + y)]).map fun (x : Nat) => Value.int .u8 (x : Int) := by rw [e0]; simp
            have e2 : rs.length + 1 = (rs ++ [limb xs k + 10 - (cv + y)]).length := by simp
            rw [e1, e2] at hown1
            have hlo := hown.lt
            have hgrow' : World.grownBy _ w1 (Value.ownBlock _) := hgrow
            exact ⟨_, 1, k + 1, by omega, by go_num, by go_num, HI.out.step (t := limb xs k + 10 - (cv + y)) (by omega) (by omega) (by rw [← HY2.out]; omega), hown1, (HBL.out.alloc hwz _).grown hgrow' (by simp; omega) (fun k hk => (hlo k hk).1)⟩
          case measure => simp only [intOf]; omega
        · go_wp2_with (at_builtin; (refine wpList_append_own _ rfl _ _ 44 rfl w.heap.size 5 i0 (.int .u8 0) 1 1 Tryd.underlying44 hi hz0 hz1 hz2 rfl (by decide) _ rs.length (rs.map fun (x : Nat) => Value.int .u8 (x : Int)) rfl (hown.alloc _) ⟨wr.heap.size, 0, none⟩ 1 1 [.int .u8 ((limb xs k : Int) - ((cv : Int) + (y : Int)))] rfl (by simp) (cell_one_new _ _ _) (by intro u hu; rw [List.mem_singleton] at hu; subst hu; rfl) (by unfold maxLen; omega) (by omega) (by simp; omega) ?_); intro v' w1 hown1 hgrow hnil; clear hnil)
          clear c1 c2
          go_roundw
          case rel =>
            have e0 : (limb xs k : Int) - ((cv : Int) + (y : Int)) = ((limb xs k - (cv + y) : Nat) : Int) := by omega
            have e1 : (List.map (fun (x : Nat) => Value.int .u8 (x : Int)) rs ++ [.int .u8 ((limb xs k : Int) - ((cv : Int) + (y : Int)))]) = (rs ++ [limb xs k - (cv + y)]).map fun (x : Nat) => Value.int .u8 (x : Int) := by rw [e0]; simp
            have e2 : rs.length + 1 = (rs ++ [limb xs k - (cv + y)]).length := by simp
            rw [e1, e2] at hown1
            have hlo := hown.lt
            have hgrow' : World.grownBy _ w1 (Value.ownBlock _) := hgrow
            exact ⟨_, 0, k + 1, by omega, by go_num, by go_num, HI.out.step (t := limb xs k - (cv + y)) (by omega) (by omega) (by rw [← HY2.out]; omega), hown1, (HBL.out.alloc hwz _).grown hgrow' (by simp; omega) (fun k hk => (hlo k hk).1)⟩
          case measure => simp only [intOf]; omega
      · have hy0 : limb ys k = 0 := limb_out h2
        have HY0 := Lib.hid hy0; clear hy0 hbel hy hy2 hy10 HY2
        rcases (by omega : limb xs k < cv ∨ cv ≤ limb xs k) with h3 | h3
        · go_wp2_with (at_builtin; (refine wpList_append_own _ rfl _ _ 44 rfl w.heap.size 5 i0 (.int .u8 0) 1 1 Tryd.underlying44 hi hz0 hz1 hz2 rfl (by decide) _ rs.length (rs.map fun (x : Nat) => Value.int .u8 (x : Int)) rfl (hown.alloc _) ⟨wr.heap.size, 0, none⟩ 1 1 [.int .u8 ((limb xs k : Int) + 10 - (cv : Int))] rfl (by simp) (cell_one_new _ _ _) (by intro u hu; rw [List.mem_singleton] at hu; subst hu; rfl) (by unfold maxLen; omega) (by omega) (by simp; omega) ?_); intro v' w1 hown1 hgrow hnil; clear hnil)
          clear c1
          go_roundw
          case rel =>
            have e0 : (limb xs k : Int) + 10 - (cv : Int) = ((limb xs k + 10 - cv : Nat) : Int) := by omega
            have e1 : (List.map (fun (x : Nat) => Value.int .u8 (x : Int)) rs ++ [.int .u8 ((limb xs k : Int) + 10 - (cv : Int))]) = (rs ++ [limb xs k + 10 - cv]).map fun (x : Nat) => Value.int .u8 (x : Int) := by rw [e0]; simp
            have e2 : rs.length + 1 = (rs ++ [limb xs k + 10 - cv]).length := by simp
            rw [e1, e2] at hown1
            have hlo := hown.lt
            have hgrow' : World.grownBy _ w1 (Value.ownBlock _) := hgrow
            exact ⟨_, 1, k + 1, by omega, by go_num, by go_num, HI.out.step (t := limb xs k + 10 - cv) (by omega) (by omega) (by rw [HY0.out]; omega), hown1, (HBL.out.alloc hwz _).grown hgrow' (by simp; omega) (fun k hk => (hlo k hk).1)⟩
          case measure => simp only [intOf]; omega
        · go_wp2_with (at_builtin; (refine wpList_append_own _ rfl _ _ 44 rfl w.heap.size 5 i0 (.int .u8 0) 1 1 Tryd.underlying44 hi hz0 hz1 hz2 rfl (by decide) _ rs.length (rs.map fun (x : Nat) => Value.int .u8 (x : Int)) rfl (hown.alloc _) ⟨wr.heap.size, 0, none⟩ 1 1 [.int .u8 ((limb xs k : Int) - (cv : Int))] rfl (by simp) (cell_one_new _ _ _) (by intro u hu; rw [List.mem_singleton] at hu; subst hu; rfl) (by unfold maxLen; omega) (by omega) (by simp; omega) ?_); intro v' w1 hown1 hgrow hnil; clear hnil)
          clear c1
          go_roundw
          case rel =>
            have e0 : (limb xs k : Int) - (cv : Int) = ((limb xs k - cv : Nat) : Int) := by omega
            have e1 : (List.map (fun (x : Nat) => Value.int .u8 (x : Int)) rs ++ [.int .u8 ((limb xs k : Int) - (cv : Int))]) = (rs ++ [limb xs k - cv]).map fun (x : Nat) => Value.int .u8 (x : Int) := by rw [e0]; simp
            have e2 : rs.length + 1 = (rs ++ [limb xs k - cv]).length := by simp
            rw [e1, e2] at hown1
            have hlo := hown.lt
            have hgrow' : World.grownBy _ w1 (Value.ownBlock _) := hgrow
            exact ⟨_, 0, k + 1, by omega, by go_num, by go_num, HI.out.step (t := limb xs k - cv) (by omega) (by omega) (by rw [HY0.out]; omega), hown1, (HBL.out.alloc hwz _).grown hgrow' (by simp; omega) (fun k hk => (hlo k hk).1)⟩
          case measure => simp only [intOf]; omega
    · obtain rfl : k = xs.length := by omega
      have HV := Lib.hid (hinv.done hyx HLE.out)
      have HD := Lib.hid hinv.b
      have hsl := owns_sl hown
      obtain ⟨a', c', rfl⟩ := owns_slice hown
      clear hinv hlen
      go_wp2_with fail
      refine (dtrim _ rs _ _ hsl HD.out HV.out).mono ?_
      rintro e w' ⟨v, ds, rfl, q1, q2, q3, q4, q5⟩
      go_wp2_with fail
      go_ret
      exact ⟨v, ds, rfl, q1, q2, q3, q4, hbel.trans (q5.mono hwz)⟩
end Go.Proofs.YtommakdomnaclaaDoor
