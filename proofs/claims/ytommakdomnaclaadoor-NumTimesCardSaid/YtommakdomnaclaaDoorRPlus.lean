/- ref.plus -/
import Derived.Test.YtommakdomnaclaaDoorSumMath
import Derived.Test.YtommakdomnaclaaDoorRDigits
namespace Go.Proofs.YtommakdomnaclaaDoor
open Go.RowKit

theorem sl_cells {k : IntKind} {w : World} {ao : Option Addr} {cap : Nat} {xs : List Nat} (h : Sl k w (.slice ao xs.length cap) xs) {j : Nat} (hj : j < xs.length) : ∃ b off, ao = some ⟨b, off, none⟩ ∧ b < w.heap.size ∧ w.cell? ⟨b, off + j, none⟩ = some (.int k ((limb xs j : Nat) : Int)) := by
  obtain ⟨_, ao', cap', hv, _, h⟩ := h
  simp only [Value.slice.injEq, true_and] at hv
  obtain ⟨rfl, rfl⟩ := hv
  rcases h with ⟨h, _⟩ | ⟨b, off, h1, h2, h3⟩
  · rw [h] at hj; simp at hj
  · exact ⟨b, off, h1, h2, h3 j hj⟩

set_option maxRecDepth 100000 in
set_option maxHeartbeats 4000000 in
theorem rplus_any (va vb : Value) (xs ys : List Nat) (w : World) (ha : Sl .u8 w va xs) (hb : Sl .u8 w vb ys) (hx : Db xs) (hy : Db ys) (hxl : xs.length < 1000000) (hyl : ys.length < 1000000) :
    Calls Tryd.prog 67 #[va, vb] w (DigPost (dval xs + dval ys) w) := by
  obtain ⟨i0, hi, hz0, hz1, hz2⟩ := info_parts infoB
  have HA := Lib.hid ha
  have HB := Lib.hid hb
  obtain ⟨hma, ao, ca, rfl, hca, ha'⟩ := ha
  obtain ⟨hmb, bo, cb, rfl, hcb, hb'⟩ := hb
  clear ha' hb'
  unfold maxLen at hma hmb
  have HX := Lib.hid hx; clear hx
  have HY := Lib.hid hy; clear hy
  obtain ⟨m, hm1, hm2, hm3⟩ : ∃ m, xs.length ≤ m ∧ ys.length ≤ m ∧ m < 1000000 := ⟨max xs.length ys.length, by omega, by omega, by omega⟩
  go_enter Tryd.func67, Tryd.ntmps67
  go_wp2_with fail
  go_loopw [5, 6, 7] (fun v c i wr => ∃ (rs : List Nat) (cv k : Nat), k ≤ m ∧ c = .int .u8 (cv : Nat) ∧ i = .int .i64 (k : Nat) ∧ SumInv xs ys rs k cv ∧ wr.ownsRow w.heap.size 5 1 v rs.length (rs.map fun (x : Nat) => Value.int .u8 (x : Int)) ∧ Below w.heap.size w wr) (fun _ _ i _ => m - (intOf i).toNat)
  case atStart => exact ⟨[], 0, 0, by omega, rfl, rfl, SumInv.start xs ys, World.ownsRow_nil _ _ _ _, Below.refl _ _⟩
  case round =>
    obtain ⟨rs, cv, k, hk, rfl, rfl, hinv, hown, hbel⟩ := hrel
    have hcv := hinv.small
    have hlen := hinv.len
    have hxk := HX.out k
    have hyk := HY.out k
    have hwz : w.heap.size ≤ wr.heap.size := hbel.size
    have HBL := Lib.hid hbel
    rcases (by omega : (xs.length ≤ k ∧ ys.length ≤ k) ∨ (k < xs.length ∧ k < ys.length) ∨ (k < xs.length ∧ ys.length ≤ k) ∨ (xs.length ≤ k ∧ k < ys.length)) with ⟨h1, h2⟩ | ⟨h1, h2⟩ | ⟨h1, h2⟩ | ⟨h1, h2⟩
    · obtain ⟨hdb, hdv⟩ := hinv.done h1 h2
      have HD := Lib.hid hdb; clear hdb
      have HV := Lib.hid hdv; clear hdv
      have hsm : rs.length < 1000000 := by omega
      clear hinv hlen
      go_wp2_with (at_builtin; (refine wpList_append_own _ rfl _ _ 44 rfl w.heap.size 5 i0 (.int .u8 0) 1 1 Tryd.underlying44 hi hz0 hz1 hz2 rfl (by decide) _ rs.length (rs.map fun (x : Nat) => Value.int .u8 (x : Int)) rfl (hown.alloc _) ⟨wr.heap.size, 0, none⟩ 1 1 [.int .u8 (cv : Int)] rfl (by simp) (cell_one_new _ _ _) (by intro u hu; rw [List.mem_singleton] at hu; subst hu; rfl) (by unfold maxLen; omega) (by omega) (by simp; omega) ?_); intro v' w1 hown1 hgrow hnil; clear hnil)
      have e1 : (List.map (fun (x : Nat) => Value.int .u8 (x : Int)) rs ++ [.int .u8 (cv : Int)]) = (rs ++ [cv]).map fun (x : Nat) => Value.int .u8 (x : Int) := by simp
      have e2 : rs.length + 1 = (rs ++ [cv]).length := by simp
      rw [e1, e2] at hown1
      have hlo := hown.lt
      have hgrow' : World.grownBy _ w1 (Value.ownBlock _) := hgrow
      have hb1 : Below w.heap.size w w1 := (HBL.out.alloc hwz _).grown hgrow' (by simp; omega) (fun k hk => (hlo k hk).1)
      refine (dtrim _ (rs ++ [cv]) _ _ (owns_sl hown1) HD.out HV.out).mono ?_
      rintro e w' ⟨v, ds, rfl, q1, q2, q3, q4, q5⟩
      go_wp2_with fail
      go_ret
      exact ⟨v, ds, rfl, q1, q2, q3, q4, hb1.trans (q5.mono hb1.size)⟩
    · obtain ⟨b1, o1, rfl, l1, c1⟩ := sl_cells (HA.out.below hbel) h1
      obtain ⟨b2, o2, rfl, l2, c2⟩ := sl_cells (HB.out.below hbel) h2
      have HI := Lib.hid (hinv.step HX.out HY.out rfl)
      have hsm : rs.length < 1000000 := by omega
      clear hinv hlen hbel l1 l2
      go_wp2_with (at_builtin; (refine wpList_append_own _ rfl _ _ 44 rfl w.heap.size 5 i0 (.int .u8 0) 1 1 Tryd.underlying44 hi hz0 hz1 hz2 rfl (by decide) _ rs.length (rs.map fun (x : Nat) => Value.int .u8 (x : Int)) rfl (hown.alloc _) ⟨wr.heap.size, 0, none⟩ 1 1 [.int .u8 (((cv : Int) + (limb xs k : Int) + (limb ys k : Int)) % 10)] rfl (by simp) (cell_one_new _ _ _) (by intro u hu; rw [List.mem_singleton] at hu; subst hu; rfl) (by unfold maxLen; omega) (by omega) (by simp; omega) ?_); intro v' w1 hown1 hgrow hnil; clear hnil)
      clear c1 c2
      go_roundw
      case rel =>
        have e1 : (List.map (fun (x : Nat) => Value.int .u8 (x : Int)) rs ++ [.int .u8 (((cv : Int) + (limb xs k : Int) + (limb ys k : Int)) % 10)]) = (rs ++ [(cv + limb xs k + limb ys k) % 10]).map fun (x : Nat) => Value.int .u8 (x : Int) := by simp
        have e2 : rs.length + 1 = (rs ++ [(cv + limb xs k + limb ys k) % 10]).length := by simp
        rw [e1, e2] at hown1
        have hlo := hown.lt
        have hgrow' : World.grownBy _ w1 (Value.ownBlock _) := hgrow
        exact ⟨_, (cv + limb xs k + limb ys k) / 10, k + 1, by omega, by go_num, by go_num, HI.out, hown1, (HBL.out.alloc hwz _).grown hgrow' (by simp; omega) (fun k hk => (hlo k hk).1)⟩
      case measure => simp only [intOf]; omega
    · obtain ⟨b1, o1, rfl, l1, c1⟩ := sl_cells (HA.out.below hbel) h1
      have hy0 : limb ys k = 0 := limb_out h2
      have HI := Lib.hid (hinv.step HX.out HY.out (s := cv + limb xs k) (by rw [hy0]; rfl))
      have hsm : rs.length < 1000000 := by omega
      clear hinv hlen hbel l1 hy0
      go_wp2_with (at_builtin; (refine wpList_append_own _ rfl _ _ 44 rfl w.heap.size 5 i0 (.int .u8 0) 1 1 Tryd.underlying44 hi hz0 hz1 hz2 rfl (by decide) _ rs.length (rs.map fun (x : Nat) => Value.int .u8 (x : Int)) rfl (hown.alloc _) ⟨wr.heap.size, 0, none⟩ 1 1 [.int .u8 (((cv : Int) + (limb xs k : Int)) % 10)] rfl (by simp) (cell_one_new _ _ _) (by intro u hu; rw [List.mem_singleton] at hu; subst hu; rfl) (by unfold maxLen; omega) (by omega) (by simp; omega) ?_); intro v' w1 hown1 hgrow hnil; clear hnil)
      clear c1
      go_roundw
      case rel =>
        have e1 : (List.map (fun (x : Nat) => Value.int .u8 (x : Int)) rs ++ [.int .u8 (((cv : Int) + (limb xs k : Int)) % 10)]) = (rs ++ [(cv + limb xs k) % 10]).map fun (x : Nat) => Value.int .u8 (x : Int) := by simp
        have e2 : rs.length + 1 = (rs ++ [(cv + limb xs k) % 10]).length := by simp
        rw [e1, e2] at hown1
        have hlo := hown.lt
        have hgrow' : World.grownBy _ w1 (Value.ownBlock _) := hgrow
        exact ⟨_, (cv + limb xs k) / 10, k + 1, by omega, by go_num, by go_num, HI.out, hown1, (HBL.out.alloc hwz _).grown hgrow' (by simp; omega) (fun k hk => (hlo k hk).1)⟩
      case measure => simp only [intOf]; omega
    · obtain ⟨b2, o2, rfl, l2, c2⟩ := sl_cells (HB.out.below hbel) h2
      have hx0 : limb xs k = 0 := limb_out h1
      have HI := Lib.hid (hinv.step HX.out HY.out (s := cv + limb ys k) (by rw [hx0]; rfl))
      have hsm : rs.length < 1000000 := by omega
      clear hinv hlen hbel l2 hx0
      go_wp2_with (at_builtin; (refine wpList_append_own _ rfl _ _ 44 rfl w.heap.size 5 i0 (.int .u8 0) 1 1 Tryd.underlying44 hi hz0 hz1 hz2 rfl (by decide) _ rs.length (rs.map fun (x : Nat) => Value.int .u8 (x : Int)) rfl (hown.alloc _) ⟨wr.heap.size, 0, none⟩ 1 1 [.int .u8 (((cv : Int) + (limb ys k : Int)) % 10)] rfl (by simp) (cell_one_new _ _ _) (by intro u hu; rw [List.mem_singleton] at hu; subst hu; rfl) (by unfold maxLen; omega) (by omega) (by simp; omega) ?_); intro v' w1 hown1 hgrow hnil; clear hnil)
      clear c2
      go_roundw
      case rel =>
        have e1 : (List.map (fun (x : Nat) => Value.int .u8 (x : Int)) rs ++ [.int .u8 (((cv : Int) + (limb ys k : Int)) % 10)]) = (rs ++ [(cv + limb ys k) % 10]).map fun (x : Nat) => Value.int .u8 (x : Int) := by simp
        have e2 : rs.length + 1 = (rs ++ [(cv + limb ys k) % 10]).length := by simp
        rw [e1, e2] at hown1
        have hlo := hown.lt
        have hgrow' : World.grownBy _ w1 (Value.ownBlock _) := hgrow
        exact ⟨_, (cv + limb ys k) / 10, k + 1, by omega, by go_num, by go_num, HI.out, hown1, (HBL.out.alloc hwz _).grown hgrow' (by simp; omega) (fun k hk => (hlo k hk).1)⟩
      case measure => simp only [intOf]; omega
end Go.Proofs.YtommakdomnaclaaDoor
