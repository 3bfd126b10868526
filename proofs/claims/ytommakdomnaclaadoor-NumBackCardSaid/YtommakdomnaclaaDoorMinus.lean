/- num.minus -/
import Derived.Test.YtommakdomnaclaaDoorLook
namespace Go.Proofs.YtommakdomnaclaaDoor
open Go.RowKit

/-- What the loop of minus holds behind k rounds. -/
def MinusInv (xs ys rs : List Nat) (k cc : Nat) : Prop :=
  Lb rs ∧ cc ≤ 1 ∧ V (limb rs) k + V (limb ys) k = V (limb xs) k + cc * 1000000000 ^ k

theorem MinusInv.step {xs ys rs : List Nat} {k cc : Nat} (h : MinusInv xs ys rs k cc) (hx : Lb xs) (hy : Lb ys) (hk : k < rs.length) :
    MinusInv xs ys (rs.set k ((limb xs k + 1000000000 - limb ys k - cc) % 1000000000)) (k + 1) (1 - (limb xs k + 1000000000 - limb ys k - cc) / 1000000000) := by
  obtain ⟨h1, h2, h3⟩ := h
  have hxk := hx k
  have hyk := hy k
  refine ⟨h1.set hk (by omega), by omega, ?_⟩
  have e : V (limb (rs.set k ((limb xs k + 1000000000 - limb ys k - cc) % 1000000000))) k = V (limb rs) k := V_congr fun i hi => by rw [limb_set hk, if_neg (by omega)]
  simp only [V]
  rw [e, limb_set hk, if_pos rfl, Nat.pow_succ]
  generalize 1000000000 ^ k = P at *
  obtain ⟨t, ht⟩ : ∃ t, t = limb xs k + 1000000000 - limb ys k - cc := ⟨_, rfl⟩
  rw [← ht]
  have ht2 : t + limb ys k + cc = limb xs k + 1000000000 := by omega
  have hd := Nat.div_add_mod t 1000000000
  have hq : t / 1000000000 + (1 - t / 1000000000) = 1 := by omega
  generalize 1 - t / 1000000000 = q' at *
  generalize t / 1000000000 = q at *
  generalize t % 1000000000 = r at *
  generalize limb xs k = x at *
  generalize limb ys k = y at *
  clear e hxk hyk h1 ht
  grind

theorem MinusInv.done {xs ys rs : List Nat} {cc : Nat} (h : MinusInv xs ys rs xs.length cc) (hyn : ys.length ≤ xs.length) (hle : val ys ≤ val xs) (hr : rs.length = xs.length) : Lb rs ∧ val rs = val xs - val ys := by
  obtain ⟨h1, h2, h3⟩ := h
  have a := val_lt h1
  rw [val_eq (n := xs.length) (by omega), val_eq (n := xs.length) (xs := ys) (by omega), val_eq (by omega)] at h3
  have c : cc = 0 := by
    rcases (by omega : cc = 0 ∨ cc = 1) with c | c
    · exact c
    · subst c; rw [hr] at a; omega
  subst c
  exact ⟨h1, by omega⟩

set_option maxRecDepth 100000 in
set_option maxHeartbeats 1000000 in
theorem minus_any (va vb : Value) (xs ys : List Nat) (w : World) (ha : Sl .u32 w va xs) (hb : Sl .u32 w vb ys) (hx : Lb xs) (hy : Lb ys) (hxl : xs.length < 1000000) (hyl : ys.length ≤ xs.length) (hle : val ys ≤ val xs) :
    Calls Tryd.prog 51 #[va, vb] w fun e w' => ∃ v rs, e = .returned v ∧ Sl .u32 w' v rs ∧ Lb rs ∧ rs.length = xs.length ∧ val rs = val xs - val ys ∧ Below w.heap.size w w' := by
  obtain ⟨i0, hi, hz0, hz1, hz2⟩ := info_parts infoU32
  have HA := Lib.hid ha
  have HB := Lib.hid hb
  obtain ⟨hma, ao, ca, rfl, hca, ha'⟩ := ha
  obtain ⟨hmb, bo, cb, rfl, hcb, hb'⟩ := hb
  clear ha' hb'
  unfold maxLen at hma hmb
  have HX := Lib.hid hx; clear hx
  have HY := Lib.hid hy; clear hy
  have HE := Lib.hid hle; clear hle
  go_enter Tryd.func51, Tryd.ntmps51
  go_wp2_with fail
  refine (look_any _ _ _ _).mono ?_
  rintro e w' ⟨rfl, rfl⟩
  go_wp2_with fail
  refine (look_any _ _ _ _).mono ?_
  rintro e w' ⟨rfl, rfl⟩
  obtain ⟨m, hm1, hm2⟩ : ∃ m, xs.length ≤ m ∧ m ≤ xs.length := ⟨xs.length, by omega, by omega⟩
  go_wp2_with (at_make; refine wpList_make_full _ rfl _ _ 22 rfl w.heap.size 52 i0 (.int .u32 0) 1 Tryd.underlying22 hi hz0 hz1 _ _ _ _ m rfl rfl (by omega) (by omega) (by rw [hz2]; omega) (by unfold maxLen; omega) (by simp; omega) ?_; intro w1 hown hgrow)
  have hrow : Row .u32 52 w1 (w.heap.size + 1 + 1) (List.replicate m 0) := by have := Row.of_made hown; simpa only [World.size_alloc] using this
  clear hown
  have hb1 : Below w.heap.size w w1 := (((Below.refl _ w).alloc (Nat.le_refl _) _).alloc (by simp) _).grown hgrow (by simp; omega) (fun _ h => by cases h)
  have hcA : w1.cell? ⟨w.heap.size, 0, none⟩ = some (.slice ao xs.length ca) := hgrow.cell (by simp) (by simp)
  have hcB : w1.cell? ⟨w.heap.size + 1, 0, none⟩ = some (.slice bo ys.length cb) := hgrow.cell (by simp) (by simp)
  clear hgrow
  go_loopw [8, 20] (fun c i wr => ∃ k cc rs, k ≤ m ∧ i = .int .i64 k ∧ c = .int .u64 (cc : Nat) ∧ Row .u32 52 wr (w.heap.size + 1 + 1) rs ∧ rs.length = m ∧ MinusInv xs ys rs k cc ∧ wr.cell? ⟨w.heap.size, 0, none⟩ = some (.slice ao xs.length ca) ∧ wr.cell? ⟨w.heap.size + 1, 0, none⟩ = some (.slice bo ys.length cb) ∧ Below w.heap.size w wr) (fun _ i _ => m - (intOf i).toNat)
  case atStart => exact ⟨0, 0, _, by omega, rfl, rfl, hrow, by simp, ⟨fun i => by rw [limb_replicate]; omega, by omega, by simp [V]⟩, hcA, hcB, hb1⟩
  case round =>
    clear hrow hcA hcB hb1
    obtain ⟨k, cc, rs, hk, rfl, rfl, hrow, hlen, hinv, hcA, hcB, hbel⟩ := hrel
    have HL := Lib.hid hlen; clear hlen
    by_cases hkm : k < m
    · have hxk := HX.out k
      have hyk := HY.out k
      have hcc := hinv.2.1
      have hst := hinv.step HX.out HY.out (by rw [HL.out]; exact hkm)
      have HST := Lib.hid hst; clear hst hinv
      have hcell := hrow.cell (j := k) (by rw [HL.out]; exact hkm)
      have hfr := hrow.frozen k
      have HR := Lib.hid hrow; clear hrow
      go_wp2_with fail
      refine (look1_any w.heap.size k _ xs wr (by omega) hcA (HA.out.below hbel) HX.out.wide).mono ?_
      rintro e w' ⟨rfl, rfl⟩
      go_wp2_with fail
      refine (look1_any (w.heap.size + 1) k _ ys wr (by omega) hcB (HB.out.below hbel) HY.out.wide).mono ?_
      rintro e w' ⟨rfl, rfl⟩
      go_wp2
      go_roundw
      case rel =>
        refine ⟨k + 1, 1 - (limb xs k + 1000000000 - limb ys k - cc) / 1000000000, rs.set k ((limb xs k + 1000000000 - limb ys k - cc) % 1000000000), by omega, by go_num, by go_num, ?_, by rw [List.length_set]; exact HL.out, HST.out, ?_, ?_, hbel.setCell (by simp; omega) _⟩
        · exact HR.out.put k _ (by omega)
        · rw [cell_other (by simp; omega)]; exact hcA
        · rw [cell_other (by simp)]; exact hcB
      case measure => simp [intOf]; omega
    · obtain rfl : k = m := by omega
      obtain rfl : k = xs.length := by omega
      obtain ⟨hlb, hval⟩ := hinv.done hyl HE.out HL.out
      go_wp2
      go_ret
      exact ⟨_, rs, rfl, hrow.sl_all HL.out.symm (Nat.le_refl _) (by unfold maxLen; omega), hlb, HL.out, hval, hbel⟩
end Go.Proofs.YtommakdomnaclaaDoor
