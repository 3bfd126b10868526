/- num.plus | num.minus | num.compare -/
import Derived.Test.YtiekhjgfnmochaaDoorLook
namespace Go.Proofs.YtiekhjgfnmochaaDoor
open Go.RowKit

/-- What a loop of plus holds behind k rounds. -/
def PlusInv (xs ys rs : List Nat) (k cc : Nat) : Prop :=
  Lb rs ∧ cc ≤ 1 ∧ V (limb rs) k + cc * 1000000000 ^ k = V (limb xs) k + V (limb ys) k

theorem PlusInv.step {xs ys rs : List Nat} {k cc : Nat} (h : PlusInv xs ys rs k cc) (hx : Lb xs) (hy : Lb ys) (hk : k < rs.length) :
    PlusInv xs ys (rs.set k ((limb xs k + limb ys k + cc) % 1000000000)) (k + 1) ((limb xs k + limb ys k + cc) / 1000000000) := by
  obtain ⟨h1, h2, h3⟩ := h
  have hxk := hx k
  have hyk := hy k
  refine ⟨h1.set hk (by omega), by omega, ?_⟩
  have e : V (limb (rs.set k ((limb xs k + limb ys k + cc) % 1000000000))) k = V (limb rs) k := V_congr fun i hi => by rw [limb_set hk, if_neg (by omega)]
  simp only [V]
  rw [e, limb_set hk, if_pos rfl, Nat.pow_succ]
  generalize 1000000000 ^ k = P at *
  have hd := Nat.div_add_mod (limb xs k + limb ys k + cc) 1000000000
  generalize (limb xs k + limb ys k + cc) / 1000000000 = q at *
  generalize (limb xs k + limb ys k + cc) % 1000000000 = r at *
  generalize limb xs k = x at *
  generalize limb ys k = y at *
  clear e hxk hyk h1
  grind

theorem PlusInv.done {xs ys rs : List Nat} {n cc : Nat} (h : PlusInv xs ys rs (n + 1) cc) (hx : Lb xs) (hy : Lb ys) (hxn : xs.length ≤ n) (hyn : ys.length ≤ n) (hr : rs.length = n + 1) : Lb rs ∧ val rs = val xs + val ys := by
  obtain ⟨h1, h2, h3⟩ := h
  rw [val_eq (n := n + 1) (by omega), val_eq (n := n + 1) (xs := ys) (by omega), val_eq (by omega)] at h3
  have a := V_lt hx n
  have b := V_lt hy n
  rw [val_eq hxn] at a
  rw [val_eq hyn] at b
  rw [Nat.pow_succ] at h3
  have c : cc = 0 := by
    rcases (by omega : cc = 0 ∨ cc = 1) with c | c
    · exact c
    · subst c; omega
  subst c
  exact ⟨h1, by omega⟩

set_option maxRecDepth 100000 in
set_option maxHeartbeats 1000000 in
theorem plus_any (va vb : Value) (xs ys : List Nat) (w : World) (ha : Sl .u32 w va xs) (hb : Sl .u32 w vb ys) (hx : Lb xs) (hy : Lb ys) (hxl : xs.length < 1000000) (hyl : ys.length < 1000000) :
    Calls Tryd.prog 49 #[va, vb] w fun e w' => ∃ v rs, e = .returned v ∧ Sl .u32 w' v rs ∧ Lb rs ∧ rs.length = max xs.length ys.length + 1 ∧ val rs = val xs + val ys ∧ Below w.heap.size w w' := by
  obtain ⟨i0, hi, hz0, hz1, hz2⟩ := info_parts infoU32
  have HA := Lib.hid ha
  have HB := Lib.hid hb
  obtain ⟨hma, ao, ca, rfl, hca, ha'⟩ := ha
  obtain ⟨hmb, bo, cb, rfl, hcb, hb'⟩ := hb
  clear ha' hb'
  unfold maxLen at hma hmb
  have HX := Lib.hid hx; clear hx
  have HY := Lib.hid hy; clear hy
  go_enter Tryd.func49, Tryd.ntmps49
  go_wp2_with fail
  refine (look_any _ _ _ _).mono ?_
  rintro e w' ⟨rfl, rfl⟩
  go_wp2_with fail
  refine (look_any _ _ _ _).mono ?_
  rintro e w' ⟨rfl, rfl⟩
  obtain ⟨m, hm1, hm2, hm3⟩ : ∃ m, xs.length ≤ m ∧ ys.length ≤ m ∧ m ≤ max xs.length ys.length := ⟨max xs.length ys.length, by omega, by omega, by omega⟩
  rcases Nat.lt_or_ge xs.length ys.length with hlt | hge
  all_goals
    go_wp2_with (at_make; refine wpList_make_full _ rfl _ _ 22 rfl w.heap.size 52 i0 (.int .u32 0) 1 Tryd.underlying22 hi hz0 hz1 _ _ _ _ (m + 1) rfl rfl (by omega) (by omega) (by rw [hz2]; omega) (by unfold maxLen; omega) (by simp; omega) ?_; intro w1 hown hgrow)
    have hrow : Row .u32 52 w1 (w.heap.size + 1 + 1) (List.replicate (m + 1) 0) := by have := Row.of_made hown; simpa only [World.size_alloc] using this
    clear hown
    have hb1 : Below w.heap.size w w1 := (((Below.refl _ w).alloc (Nat.le_refl _) _).alloc (by simp) _).grown hgrow (by simp; omega) (fun _ h => by cases h)
    have hcA : w1.cell? ⟨w.heap.size, 0, none⟩ = some (.slice ao xs.length ca) := hgrow.cell (by simp) (by simp)
    have hcB : w1.cell? ⟨w.heap.size + 1, 0, none⟩ = some (.slice bo ys.length cb) := hgrow.cell (by simp) (by simp)
    clear hgrow
    go_loopw [8, 24] (fun c i wr => ∃ k cc rs, k ≤ m + 1 ∧ i = .int .i64 k ∧ c = .int .u64 (cc : Nat) ∧ Row .u32 52 wr (w.heap.size + 1 + 1) rs ∧ rs.length = m + 1 ∧ PlusInv xs ys rs k cc ∧ wr.cell? ⟨w.heap.size, 0, none⟩ = some (.slice ao xs.length ca) ∧ wr.cell? ⟨w.heap.size + 1, 0, none⟩ = some (.slice bo ys.length cb) ∧ Below w.heap.size w wr) (fun _ i _ => m + 1 - (intOf i).toNat)
    case atStart => exact ⟨0, 0, _, by omega, rfl, rfl, hrow, by simp, ⟨fun i => by rw [limb_replicate]; omega, by omega, by simp [V]⟩, hcA, hcB, hb1⟩
    case round =>
      clear hrow hcA hcB hb1
      obtain ⟨k, cc, rs, hk, rfl, rfl, hrow, hlen, hinv, hcA, hcB, hbel⟩ := hrel
      have HL := Lib.hid hlen; clear hlen
      by_cases hkm : k < m + 1
      · have hxk := HX.out k
        have hyk := HY.out k
        have hcc := hinv.2.1
        have hst := hinv.step HX.out HY.out (by rw [HL.out]; exact hkm)
        have HST := Lib.hid hst; clear hst hinv
        have hcell := hrow.cell (j := k) (by rw [HL.out]; exact hkm)
        have hfr := hrow.frozen k
        have HR := Lib.hid hrow; clear hrow
        go_wp2_with fail
        refine (look1_any w.heap.size k _ xs wr (by omega) hcA (HA.out.below hbel) HX.out.wide).mono ?_
        rintro e w' ⟨rfl, rfl⟩
        go_wp2_with fail
        refine (look1_any (w.heap.size + 1) k _ ys wr (by omega) hcB (HB.out.below hbel) HY.out.wide).mono ?_
        rintro e w' ⟨rfl, rfl⟩
        go_wp2
        go_roundw
        case rel =>
          refine ⟨k + 1, (limb xs k + limb ys k + cc) / 1000000000, rs.set k ((limb xs k + limb ys k + cc) % 1000000000), by omega, by go_num, by go_num, ?_, by rw [List.length_set]; exact HL.out, HST.out, ?_, ?_, hbel.setCell (by simp; omega) _⟩
          · exact HR.out.put k _ (by omega)
          · rw [cell_other (by simp; omega)]; exact hcA
          · rw [cell_other (by simp)]; exact hcB
        case measure => simp [intOf]; omega
      · obtain rfl : k = m + 1 := by omega
        obtain ⟨hlb, hval⟩ := hinv.done HX.out HY.out hm1 hm2 HL.out
        go_wp2
        go_ret
        exact ⟨_, rs, rfl, hrow.sl_all HL.out.symm (Nat.le_refl _) (by unfold maxLen; omega), hlb, by rw [HL.out]; omega, hval, hbel⟩
end Go.Proofs.YtiekhjgfnmochaaDoor
namespace Go.Proofs.YtiekhjgfnmochaaDoor
open Go.RowKit

/-- What the loop of minus holds behind k rounds. -/
def MinusInv (xs ys rs : List Nat) (k cc : Nat) : Prop :=
  Lb rs ∧ cc ≤ 1 ∧ V (limb rs) k + V (limb ys) k = V (limb xs) k + cc * 1000000000 ^ k

theorem MinusInv.step {xs ys rs : List Nat} {k cc : Nat} (h : MinusInv xs ys rs k cc) (hx : Lb xs) (hy : Lb ys) (hk : k < rs.length) :
    MinusInv xs ys (rs.set k ((limb xs k + 1000000000 - limb ys k - cc) % 1000000000)) (k + 1) (1 - (limb xs k + 1000000000 - limb ys k - cc) / 1000000000) := by
  obtain ⟨h1, h2, h3⟩ := h
  have hxk := hx k
  have hyk := hy k
  refine ⟨h1.set hk (by omega), by omega, ?_⟩
  have e : V (limb (rs.set k ((limb xs k + 1000000000 - limb ys k - cc) % 1000000000))) k = V (limb rs) k := V_congr fun i hi => by rw [limb_set hk, if_neg (by omega)]
  simp only [V]
  rw [e, limb_set hk, if_pos rfl, Nat.pow_succ]
  generalize 1000000000 ^ k = P at *
  obtain ⟨t, ht⟩ : ∃ t, t = limb xs k + 1000000000 - limb ys k - cc := ⟨_, rfl⟩
  rw [← ht]
  have ht2 : t + limb ys k + cc = limb xs k + 1000000000 := by omega
  have hd := Nat.div_add_mod t 1000000000
  have hq : t / 1000000000 + (1 - t / 1000000000) = 1 := by omega
  generalize 1 - t / 1000000000 = q' at *
  generalize t / 1000000000 = q at *
  generalize t % 1000000000 = r at *
  generalize limb xs k = x at *
  generalize limb ys k = y at *
  clear e hxk hyk h1 ht
  grind

theorem MinusInv.done {xs ys rs : List Nat} {cc : Nat} (h : MinusInv xs ys rs xs.length cc) (hyn : ys.length ≤ xs.length) (hle : val ys ≤ val xs) (hr : rs.length = xs.length) : Lb rs ∧ val rs = val xs - val ys := by
  obtain ⟨h1, h2, h3⟩ := h
  have a := val_lt h1
  rw [val_eq (n := xs.length) (by omega), val_eq (n := xs.length) (xs := ys) (by omega), val_eq (by omega)] at h3
  have c : cc = 0 := by
    rcases (by omega : cc = 0 ∨ cc = 1) with c | c
    · exact c
    · subst c; rw [hr] at a; omega
  subst c
  exact ⟨h1, by omega⟩

set_option maxRecDepth 100000 in
set_option maxHeartbeats 1000000 in
theorem minus_any (va vb : Value) (xs ys : List Nat) (w : World) (ha : Sl .u32 w va xs) (hb : Sl .u32 w vb ys) (hx : Lb xs) (hy : Lb ys) (hxl : xs.length < 1000000) (hyl : ys.length ≤ xs.length) (hle : val ys ≤ val xs) :
    Calls Tryd.prog 51 #[va, vb] w fun e w' => ∃ v rs, e = .returned v ∧ Sl .u32 w' v rs ∧ Lb rs ∧ rs.length = xs.length ∧ val rs = val xs - val ys ∧ Below w.heap.size w w' := by
  obtain ⟨i0, hi, hz0, hz1, hz2⟩ := info_parts infoU32
  have HA := Lib.hid ha
  have HB := Lib.hid hb
  obtain ⟨hma, ao, ca, rfl, hca, ha'⟩ := ha
  obtain ⟨hmb, bo, cb, rfl, hcb, hb'⟩ := hb
  clear ha' hb'
  unfold maxLen at hma hmb
  have HX := Lib.hid hx; clear hx
  have HY := Lib.hid hy; clear hy
  have HE := Lib.hid hle; clear hle
  go_enter Tryd.func51, Tryd.ntmps51
  go_wp2_with fail
  refine (look_any _ _ _ _).mono ?_
  rintro e w' ⟨rfl, rfl⟩
  go_wp2_with fail
  refine (look_any _ _ _ _).mono ?_
  rintro e w' ⟨rfl, rfl⟩
  obtain ⟨m, hm1, hm2⟩ : ∃ m, xs.length ≤ m ∧ m ≤ xs.length := ⟨xs.length, by omega, by omega⟩
  go_wp2_with (at_make; refine wpList_make_full _ rfl _ _ 22 rfl w.heap.size 52 i0 (.int .u32 0) 1 Tryd.underlying22 hi hz0 hz1 _ _ _ _ m rfl rfl (by omega) (by omega) (by rw [hz2]; omega) (by unfold maxLen; omega) (by simp; omega) ?_; intro w1 hown hgrow)
  have hrow : Row .u32 52 w1 (w.heap.size + 1 + 1) (List.replicate m 0) := by have := Row.of_made hown; simpa only [World.size_alloc] using this
  clear hown
  have hb1 : Below w.heap.size w w1 := (((Below.refl _ w).alloc (Nat.le_refl _) _).alloc (by simp) _).grown hgrow (by simp; omega) (fun _ h => by cases h)
  have hcA : w1.cell? ⟨w.heap.size, 0, none⟩ = some (.slice ao xs.length ca) := hgrow.cell (by simp) (by simp)
  have hcB : w1.cell? ⟨w.heap.size + 1, 0, none⟩ = some (.slice bo ys.length cb) := hgrow.cell (by simp) (by simp)
  clear hgrow
  go_loopw [8, 20] (fun c i wr => ∃ k cc rs, k ≤ m ∧ i = .int .i64 k ∧ c = .int .u64 (cc : Nat) ∧ Row .u32 52 wr (w.heap.size + 1 + 1) rs ∧ rs.length = m ∧ MinusInv xs ys rs k cc ∧ wr.cell? ⟨w.heap.size, 0, none⟩ = some (.slice ao xs.length ca) ∧ wr.cell? ⟨w.heap.size + 1, 0, none⟩ = some (.slice bo ys.length cb) ∧ Below w.heap.size w wr) (fun _ i _ => m - (intOf i).toNat)
  case atStart => exact ⟨0, 0, _, by omega, rfl, rfl, hrow, by simp, ⟨fun i => by rw [limb_replicate]; omega, by omega, by simp [V]⟩, hcA, hcB, hb1⟩
  case round =>
    clear hrow hcA hcB hb1
    obtain ⟨k, cc, rs, hk, rfl, rfl, hrow, hlen, hinv, hcA, hcB, hbel⟩ := hrel
    have HL := Lib.hid hlen; clear hlen
    by_cases hkm : k < m
    · have hxk := HX.out k
      have hyk := HY.out k
      have hcc := hinv.2.1
      have hst := hinv.step HX.out HY.out (by rw [HL.out]; exact hkm)
      have HST := Lib.hid hst; clear hst hinv
      have hcell := hrow.cell (j := k) (by rw [HL.out]; exact hkm)
      have hfr := hrow.frozen k
      have HR := Lib.hid hrow; clear hrow
      go_wp2_with fail
      refine (look1_any w.heap.size k _ xs wr (by omega) hcA (HA.out.below hbel) HX.out.wide).mono ?_
      rintro e w' ⟨rfl, rfl⟩
      go_wp2_with fail
      refine (look1_any (w.heap.size + 1) k _ ys wr (by omega) hcB (HB.out.below hbel) HY.out.wide).mono ?_
      rintro e w' ⟨rfl, rfl⟩
      go_wp2
      go_roundw
      case rel =>
        refine ⟨k + 1, 1 - (limb xs k + 1000000000 - limb ys k - cc) / 1000000000, rs.set k ((limb xs k + 1000000000 - limb ys k - cc) % 1000000000), by omega, by go_num, by go_num, ?_, by rw [List.length_set]; exact HL.out, HST.out, ?_, ?_, hbel.setCell (by simp; omega) _⟩
        · exact HR.out.put k _ (by omega)
        · rw [cell_other (by simp; omega)]; exact hcA
        · rw [cell_other (by simp)]; exact hcB
      case measure => simp [intOf]; omega
    · obtain rfl : k = m := by omega
      obtain rfl : k = xs.length := by omega
      obtain ⟨hlb, hval⟩ := hinv.done hyl HE.out HL.out
      go_wp2
      go_ret
      exact ⟨_, rs, rfl, hrow.sl_all HL.out.symm (Nat.le_refl _) (by unfold maxLen; omega), hlb, HL.out, hval, hbel⟩
end Go.Proofs.YtiekhjgfnmochaaDoor
namespace Go.Proofs.YtiekhjgfnmochaaDoor
open Go.RowKit

/-- -1, 0, 1. -/
def cmpN (a b : Nat) : Int := if a < b then -1 else if b < a then 1 else 0

theorem V_less {f g : Nat → Nat} (hf : ∀ i, f i < 1000000000) {k n : Nat} (hk : k < n) (hlt : f k < g k) (heq : ∀ j, k < j → j < n → f j = g j) : V f n < V g n := by
  induction n with
  | zero => omega
  | succ n ih =>
    simp only [V]
    by_cases e : k = n
    · subst e
      have h1 := V_lt hf k
      have h2 : (f k + 1) * 1000000000 ^ k ≤ g k * 1000000000 ^ k := Nat.mul_le_mul_right _ hlt
      rw [Nat.add_mul, Nat.one_mul] at h2
      omega
    · have := ih (by omega) (fun j h1 h2 => heq j h1 (by omega))
      rw [heq n (by omega) (by omega)]
      omega

set_option maxRecDepth 100000 in
set_option maxHeartbeats 1000000 in
theorem compare_any (va vb : Value) (xs ys : List Nat) (w : World) (ha : Sl .u32 w va xs) (hb : Sl .u32 w vb ys) (hx : Lb xs) (hy : Lb ys) (hxl : xs.length < 1000000) (hyl : ys.length < 1000000) :
    Calls Tryd.prog 50 #[va, vb] w fun e w' => e = .returned (.int .i64 (cmpN (val xs) (val ys))) ∧ Below w.heap.size w w' := by
  have HA := Lib.hid ha
  have HB := Lib.hid hb
  obtain ⟨hma, ao, ca, rfl, hca, ha'⟩ := ha
  obtain ⟨hmb, bo, cb, rfl, hcb, hb'⟩ := hb
  clear ha' hb'
  unfold maxLen at hma hmb
  have HX := Lib.hid hx; clear hx
  have HY := Lib.hid hy; clear hy
  obtain ⟨m, hm1, hm2, hm3⟩ : ∃ m, xs.length ≤ m ∧ ys.length ≤ m ∧ m ≤ max xs.length ys.length := ⟨max xs.length ys.length, by omega, by omega, by omega⟩
  go_enter Tryd.func50, Tryd.ntmps50
  go_wp2_with fail
  refine (look_any _ _ _ _).mono ?_
  rintro e w' ⟨rfl, rfl⟩
  go_wp2_with fail
  refine (look_any _ _ _ _).mono ?_
  rintro e w' ⟨rfl, rfl⟩
  have hcA : ((w.alloc (.cells #[.slice ao xs.length ca] 22)).alloc (.cells #[.slice bo ys.length cb] 22)).cell? ⟨w.heap.size, 0, none⟩ = some (.slice ao xs.length ca) := by simp
  have hcB : ((w.alloc (.cells #[.slice ao xs.length ca] 22)).alloc (.cells #[.slice bo ys.length cb] 22)).cell? ⟨w.heap.size + 1, 0, none⟩ = some (.slice bo ys.length cb) := by simp
  have hbel : Below w.heap.size w ((w.alloc (.cells #[.slice ao xs.length ca] 22)).alloc (.cells #[.slice bo ys.length cb] 22)) := (((Below.refl _ w).alloc (Nat.le_refl _) _).alloc (by simp) _)
  generalize ((w.alloc (.cells #[.slice ao xs.length ca] 22)).alloc (.cells #[.slice bo ys.length cb] 22)) = w1 at *
  rcases Nat.lt_or_ge xs.length ys.length with hlt | hge
  all_goals
    go_wp2_with fail
    go_loop [7] (fun i => ∃ k : Nat, k ≤ m ∧ i = .int .i64 ((k : Int) - 1) ∧ ∀ j, k ≤ j → limb xs j = limb ys j) (fun i => (intOf i + 1).toNat)
    case atStart => exact ⟨m, by omega, by go_num, fun j hj => by rw [limb_out (by omega), limb_out (by omega)]⟩
    case round =>
      obtain ⟨k, hk, rfl, heq⟩ := hrel
      have HQ := Lib.hid heq; clear heq
      rcases (by omega : k = 0 ∨ 1 ≤ k) with h0 | h1
      · have hv : cmpN (val xs) (val ys) = 0 := by
          have e : val xs = val ys := by rw [← val_eq hm1, ← val_eq hm2]; exact V_congr fun i _ => HQ.out i (by omega)
          unfold cmpN; rw [e]; simp
        have HV := Lib.hid hv; clear hv
        go_wp2
        go_ret
        exact ⟨ret_int HV.out.symm, hbel⟩
      · have hxk := HX.out (((k : Int) - 1).toNat)
        have hyk := HY.out (((k : Int) - 1).toNat)
        have hkk : ((k : Int) - 1).toNat = k - 1 := by omega
        rw [hkk] at hxk hyk
        have HK := Lib.hid hkk; clear hkk
        have hcase : ∀ c, (limb xs (k - 1) < limb ys (k - 1) → c = -1) → (limb ys (k - 1) < limb xs (k - 1) → c = 1) → limb xs (k - 1) ≠ limb ys (k - 1) → cmpN (val xs) (val ys) = c := by
          intro c h1 h2 h3
          unfold cmpN
          rw [← val_eq hm1, ← val_eq hm2]
          rcases Nat.lt_or_gt_of_ne h3 with h | h
          · rw [if_pos (V_less HX.out (k := k - 1) (by omega) h fun j hj _ => HQ.out j (by omega)), h1 h]
          · have := V_less HY.out (k := k - 1) (n := m) (by omega) h fun j hj _ => (HQ.out j (by omega)).symm
            rw [if_neg (by omega), if_pos this, h2 h]
        have HC := Lib.hid hcase; clear hcase
        go_wp2_with fail
        refine (look1_int w.heap.size ((k : Int) - 1) _ xs w1 (by omega) (by omega) hcA (HA.out.below hbel) HX.out.wide).mono ?_
        rintro e w' ⟨rfl, rfl⟩
        rw [HK.out]
        go_wp2_with fail
        refine (look1_int (w.heap.size + 1) ((k : Int) - 1) _ ys w1 (by omega) (by omega) hcB (HB.out.below hbel) HY.out.wide).mono ?_
        rintro e w' ⟨rfl, rfl⟩
        rw [HK.out]
        rcases Nat.lt_trichotomy (limb xs (k - 1)) (limb ys (k - 1)) with hc | hc | hc
        · go_wp2
          go_ret
          exact ⟨ret_int (HC.out (-1) (fun _ => rfl) (fun h => by omega) (by omega)).symm, hbel⟩
        · have hc1 : limb xs (k - 1) ≤ limb ys (k - 1) := by omega
          have hc2 : limb ys (k - 1) ≤ limb xs (k - 1) := by omega
          have HC2 := Lib.hid hc; clear hc
          go_wp2_with fail
          refine (look1_int w.heap.size ((k : Int) - 1) _ xs w1 (by omega) (by omega) hcA (HA.out.below hbel) HX.out.wide).mono ?_
          rintro e w' ⟨rfl, rfl⟩
          rw [HK.out]
          go_wp2_with fail
          refine (look1_int (w.heap.size + 1) ((k : Int) - 1) _ ys w1 (by omega) (by omega) hcB (HB.out.below hbel) HY.out.wide).mono ?_
          rintro e w' ⟨rfl, rfl⟩
          rw [HK.out]
          go_wp2
          go_round
          case rel => exact ⟨k - 1, by omega, by go_num, fun j hj => by
            by_cases e : j = k - 1
            · subst e; exact HC2.out
            · exact HQ.out j (by omega)⟩
          case measure => simp [intOf]; omega
        · have hc1 : limb ys (k - 1) ≤ limb xs (k - 1) := by omega
          go_wp2_with fail
          refine (look1_int w.heap.size ((k : Int) - 1) _ xs w1 (by omega) (by omega) hcA (HA.out.below hbel) HX.out.wide).mono ?_
          rintro e w' ⟨rfl, rfl⟩
          rw [HK.out]
          go_wp2_with fail
          refine (look1_int (w.heap.size + 1) ((k : Int) - 1) _ ys w1 (by omega) (by omega) hcB (HB.out.below hbel) HY.out.wide).mono ?_
          rintro e w' ⟨rfl, rfl⟩
          rw [HK.out]
          go_wp2
          go_ret
          exact ⟨ret_int (HC.out 1 (fun h => by omega) (fun _ => rfl) (by omega)).symm, hbel⟩
end Go.Proofs.YtiekhjgfnmochaaDoor
