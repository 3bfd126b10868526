/- ref.plus | ref.more | ref.minus -/
import Derived.Test.YtiekhjgfnmochaaDoorDigMath
import Derived.Test.YtiekhjgfnmochaaDoorRTrim
import Derived.Deep.QuietTactic
import Derived.BigQuiet
namespace Go.Proofs.YtiekhjgfnmochaaDoor
open Go.RowKit

theorem sl_cells {k : IntKind} {w : World} {ao : Option Addr} {cap : Nat} {xs : List Nat} (h : Sl k w (.slice ao xs.length cap) xs) {j : Nat} (hj : j < xs.length) : ∃ b off, ao = some ⟨b, off, none⟩ ∧ b < w.heap.size ∧ w.cell? ⟨b, off + j, none⟩ = some (.int k ((limb xs j : Nat) : Int)) := by
  obtain ⟨_, ao', cap', hv, _, h⟩ := h
  simp only [Value.slice.injEq, true_and] at hv
  obtain ⟨rfl, rfl⟩ := hv
  rcases h with ⟨h, _⟩ | ⟨b, off, h1, h2, h3⟩
  · rw [h] at hj; simp at hj
  · exact ⟨b, off, h1, h2, h3 j hj⟩

set_option maxRecDepth 100000 in
set_option maxHeartbeats 4000000 in
theorem rplus_any (va vb : Value) (xs ys : List Nat) (w : World) (ha : Sl .u8 w va xs) (hb : Sl .u8 w vb ys) (hx : Db xs) (hy : Db ys) (hxl : xs.length < 1000000) (hyl : ys.length < 1000000) :
    Calls Tryd.prog 67 #[va, vb] w (DigPost (dval xs + dval ys) w) := by
  obtain ⟨i0, hi, hz0, hz1, hz2⟩ := info_parts infoB
  have HA := Lib.hid ha
  have HB := Lib.hid hb
  obtain ⟨hma, ao, ca, rfl, hca, ha'⟩ := ha
  obtain ⟨hmb, bo, cb, rfl, hcb, hb'⟩ := hb
  clear ha' hb'
  unfold maxLen at hma hmb
  have HX := Lib.hid hx; clear hx
  have HY := Lib.hid hy; clear hy
  obtain ⟨m, hm1, hm2, hm3⟩ : ∃ m, xs.length ≤ m ∧ ys.length ≤ m ∧ m < 1000000 := ⟨max xs.length ys.length, by omega, by omega, by omega⟩
  go_enter Tryd.func67, Tryd.ntmps67
  go_wp2_with fail
  go_loopw [5, 6, 7] (fun v c i wr => ∃ (rs : List Nat) (cv k : Nat), k ≤ m ∧ c = .int .u8 (cv : Nat) ∧ i = .int .i64 (k : Nat) ∧ SumInv xs ys rs k cv ∧ wr.ownsRow w.heap.size 5 1 v rs.length (rs.map fun (x : Nat) => Value.int .u8 (x : Int)) ∧ Below w.heap.size w wr) (fun _ _ i _ => m - (intOf i).toNat)
  case atStart => exact ⟨[], 0, 0, by omega, rfl, rfl, SumInv.start xs ys, World.ownsRow_nil _ _ _ _, Below.refl _ _⟩
  case round =>
    obtain ⟨rs, cv, k, hk, rfl, rfl, hinv, hown, hbel⟩ := hrel
    have hcv := hinv.small
    have hlen := hinv.len
    have hxk := HX.out k
    have hyk := HY.out k
    have hwz : w.heap.size ≤ wr.heap.size := hbel.size
    have HBL := Lib.hid hbel
    rcases (by omega : (xs.length ≤ k ∧ ys.length ≤ k) ∨ (k < xs.length ∧ k < ys.length) ∨ (k < xs.length ∧ ys.length ≤ k) ∨ (xs.length ≤ k ∧ k < ys.length)) with ⟨h1, h2⟩ | ⟨h1, h2⟩ | ⟨h1, h2⟩ | ⟨h1, h2⟩
    · obtain ⟨hdb, hdv⟩ := hinv.done h1 h2
      have HD := Lib.hid hdb; clear hdb
      have HV := Lib.hid hdv; clear hdv
      have hsm : rs.length < 1000000 := by omega
      clear hinv hlen
      go_wp2_with (at_builtin; (refine wpList_append_own _ rfl _ _ 44 rfl w.heap.size 5 i0 (.int .u8 0) 1 1 Tryd.underlying44 hi hz0 hz1 hz2 rfl (by decide) _ rs.length (rs.map fun (x : Nat) => Value.int .u8 (x : Int)) rfl (hown.alloc _) ⟨wr.heap.size, 0, none⟩ 1 1 [.int .u8 (cv : Int)] rfl (by simp) (cell_one_new _ _ _) (by intro u hu; rw [List.mem_singleton] at hu; subst hu; rfl) (by unfold maxLen; omega) (by omega) (by simp; omega) ?_); intro v' w1 hown1 hgrow hnil; clear hnil)
      have e1 : (List.map (fun (x : Nat) => Value.int .u8 (x : Int)) rs ++ [.int .u8 (cv : Int)]) = (rs ++ [cv]).map fun (x : Nat) => Value.int .u8 (x : Int) := by simp
      have e2 : rs.length + 1 = (rs ++ [cv]).length := by simp
      rw [e1, e2] at hown1
      have hlo := hown.lt
      have hgrow' : World.grownBy _ w1 (Value.ownBlock _) := hgrow
      have hb1 : Below w.heap.size w w1 := (HBL.out.alloc hwz _).grown hgrow' (by simp; omega) (fun k hk => (hlo k hk).1)
      refine (dtrim _ (rs ++ [cv]) _ _ (owns_sl hown1) HD.out HV.out).mono ?_
      rintro e w' ⟨v, ds, rfl, q1, q2, q3, q4, q5⟩
      go_wp2_with fail
      go_ret
      exact ⟨v, ds, rfl, q1, q2, q3, q4, hb1.trans (q5.mono hb1.size)⟩
    · obtain ⟨b1, o1, rfl, l1, c1⟩ := sl_cells (HA.out.below hbel) h1
      obtain ⟨b2, o2, rfl, l2, c2⟩ := sl_cells (HB.out.below hbel) h2
      have HI := Lib.hid (hinv.step HX.out HY.out rfl)
      have hsm : rs.length < 1000000 := by omega
      clear hinv hlen hbel l1 l2
      go_wp2_with (at_builtin; (refine wpList_append_own _ rfl _ _ 44 rfl w.heap.size 5 i0 (.int .u8 0) 1 1 Tryd.underlying44 hi hz0 hz1 hz2 rfl (by decide) _ rs.length (rs.map fun (x : Nat) => Value.int .u8 (x : Int)) rfl (hown.alloc _) ⟨wr.heap.size, 0, none⟩ 1 1 [.int .u8 (((cv : Int) + (limb xs k : Int) + (limb ys k : Int)) % 10)] rfl (by simp) (cell_one_new _ _ _) (by intro u hu; rw [List.mem_singleton] at hu; subst hu; rfl) (by unfold maxLen; omega) (by omega) (by simp; omega) ?_); intro v' w1 hown1 hgrow hnil; clear hnil)
      clear c1 c2
      go_roundw
      case rel =>
        have e1 : (List.map (fun (x : Nat) => Value.int .u8 (x : Int)) rs ++ [.int .u8 (((cv : Int) + (limb xs k : Int) + (limb ys k : Int)) % 10)]) = (rs ++ [(cv + limb xs k + limb ys k) % 10]).map fun (x : Nat) => Value.int .u8 (x : Int) := by simp
        have e2 : rs.length + 1 = (rs ++ [(cv + limb xs k + limb ys k) % 10]).length := by simp
        rw [e1, e2] at hown1
        have hlo := hown.lt
        have hgrow' : World.grownBy _ w1 (Value.ownBlock _) := hgrow
        exact ⟨_, (cv + limb xs k + limb ys k) / 10, k + 1, by omega, by go_num, by go_num, HI.out, hown1, (HBL.out.alloc hwz _).grown hgrow' (by simp; omega) (fun k hk => (hlo k hk).1)⟩
      case measure => simp only [intOf]; omega
    · obtain ⟨b1, o1, rfl, l1, c1⟩ := sl_cells (HA.out.below hbel) h1
      have hy0 : limb ys k = 0 := limb_out h2
      have HI := Lib.hid (hinv.step HX.out HY.out (s := cv + limb xs k) (by rw [hy0]; rfl))
      have hsm : rs.length < 1000000 := by omega
      clear hinv hlen hbel l1 hy0
      go_wp2_with (at_builtin; (refine wpList_append_own _ rfl _ _ 44 rfl w.heap.size 5 i0 (.int .u8 0) 1 1 Tryd.underlying44 hi hz0 hz1 hz2 rfl (by decide) _ rs.length (rs.map fun (x : Nat) => Value.int .u8 (x : Int)) rfl (hown.alloc _) ⟨wr.heap.size, 0, none⟩ 1 1 [.int .u8 (((cv : Int) + (limb xs k : Int)) % 10)] rfl (by simp) (cell_one_new _ _ _) (by intro u hu; rw [List.mem_singleton] at hu; subst hu; rfl) (by unfold maxLen; omega) (by omega) (by simp; omega) ?_); intro v' w1 hown1 hgrow hnil; clear hnil)
      clear c1
      go_roundw
      case rel =>
        have e1 : (List.map (fun (x : Nat) => Value.int .u8 (x : Int)) rs ++ [.int .u8 (((cv : Int) + (limb xs k : Int)) % 10)]) = (rs ++ [(cv + limb xs k) % 10]).map fun (x : Nat) => Value.int .u8 (x : Int) := by simp
        have e2 : rs.length + 1 = (rs ++ [(cv + limb xs k) % 10]).length := by simp
        rw [e1, e2] at hown1
        have hlo := hown.lt
        have hgrow' : World.grownBy _ w1 (Value.ownBlock _) := hgrow
        exact ⟨_, (cv + limb xs k) / 10, k + 1, by omega, by go_num, by go_num, HI.out, hown1, (HBL.out.alloc hwz _).grown hgrow' (by simp; omega) (fun k hk => (hlo k hk).1)⟩
      case measure => simp only [intOf]; omega
    · obtain ⟨b2, o2, rfl, l2, c2⟩ := sl_cells (HB.out.below hbel) h2
      have hx0 : limb xs k = 0 := limb_out h1
      have HI := Lib.hid (hinv.step HX.out HY.out (s := cv + limb ys k) (by rw [hx0]; rfl))
      have hsm : rs.length < 1000000 := by omega
      clear hinv hlen hbel l2 hx0
      go_wp2_with (at_builtin; (refine wpList_append_own _ rfl _ _ 44 rfl w.heap.size 5 i0 (.int .u8 0) 1 1 Tryd.underlying44 hi hz0 hz1 hz2 rfl (by decide) _ rs.length (rs.map fun (x : Nat) => Value.int .u8 (x : Int)) rfl (hown.alloc _) ⟨wr.heap.size, 0, none⟩ 1 1 [.int .u8 (((cv : Int) + (limb ys k : Int)) % 10)] rfl (by simp) (cell_one_new _ _ _) (by intro u hu; rw [List.mem_singleton] at hu; subst hu; rfl) (by unfold maxLen; omega) (by omega) (by simp; omega) ?_); intro v' w1 hown1 hgrow hnil; clear hnil)
      clear c2
      go_roundw
      case rel =>
        have e1 : (List.map (fun (x : Nat) => Value.int .u8 (x : Int)) rs ++ [.int .u8 (((cv : Int) + (limb ys k : Int)) % 10)]) = (rs ++ [(cv + limb ys k) % 10]).map fun (x : Nat) => Value.int .u8 (x : Int) := by simp
        have e2 : rs.length + 1 = (rs ++ [(cv + limb ys k) % 10]).length := by simp
        rw [e1, e2] at hown1
        have hlo := hown.lt
        have hgrow' : World.grownBy _ w1 (Value.ownBlock _) := hgrow
        exact ⟨_, (cv + limb ys k) / 10, k + 1, by omega, by go_num, by go_num, HI.out, hown1, (HBL.out.alloc hwz _).grown hgrow' (by simp; omega) (fun k hk => (hlo k hk).1)⟩
      case measure => simp only [intOf]; omega
end Go.Proofs.YtiekhjgfnmochaaDoor
namespace Go.Proofs.YtiekhjgfnmochaaDoor
open Go.RowKit

set_option maxRecDepth 100000 in
set_option maxHeartbeats 4000000 in
theorem rmore_any (va vb : Value) (xs ys : List Nat) (w : World) (ha : Sl .u8 w va xs) (hb : Sl .u8 w vb ys) (hx : Db xs) (hy : Db ys) (htx : Top xs) (hty : Top ys) :
    Calls Tryd.prog 54 #[va, vb] w fun e w' => e = .returned (.int .i64 (cmpN (dval xs) (dval ys))) ∧ Below w.heap.size w w' := by
  have HA := Lib.hid ha
  have HB := Lib.hid hb
  obtain ⟨hma, ao, ca, rfl, hca, ha'⟩ := ha
  obtain ⟨hmb, bo, cb, rfl, hcb, hb'⟩ := hb
  clear ha' hb'
  unfold maxLen at hma hmb
  have HTX := Lib.hid htx; clear htx
  have HTY := Lib.hid hty; clear hty
  have HX := Lib.hid hx; clear hx
  have HY := Lib.hid hy; clear hy
  rcases (by omega : xs.length < ys.length ∨ ys.length < xs.length ∨ xs.length = ys.length) with h1 | h1 | h1
  · have hv : cmpN (dval xs) (dval ys) = -1 := by
      unfold cmpN; rw [if_pos (Top.less HX.out HY.out HTY.out h1)]
    have HV := Lib.hid hv; clear hv
    have hne : ((xs.length : Int) == (ys.length : Int)) = false := by rw [beq_eq_false_iff_ne]; omega
    go_enter Tryd.func54, Tryd.ntmps54
    go_wp2
    go_ret
    exact ⟨ret_int HV.out.symm, Below.refl _ _⟩
  · have hv : cmpN (dval xs) (dval ys) = 1 := by
      have := Top.less HY.out HX.out HTX.out h1
      unfold cmpN; rw [if_neg (by omega), if_pos this]
    have HV := Lib.hid hv; clear hv
    have hne : ((xs.length : Int) == (ys.length : Int)) = false := by rw [beq_eq_false_iff_ne]; omega
    go_enter Tryd.func54, Tryd.ntmps54
    go_wp2
    go_ret
    exact ⟨ret_int HV.out.symm, Below.refl _ _⟩
  · have hee : ((xs.length : Int) == (ys.length : Int)) = true := by rw [beq_iff_eq]; omega
    have hl1 : xs.length ≤ ys.length := by omega
    have hl2 : ys.length ≤ xs.length := by omega
    clear h1
    go_enter Tryd.func54, Tryd.ntmps54
    go_wp2_with fail
    go_loopw [5] (fun i wr => ∃ k q : Nat, k ≤ xs.length ∧ i = .int .i64 ((k : Int) - 1) ∧ wr = w.drewN q ∧ ∀ j, k ≤ j → limb xs j = limb ys j) (fun i _ => (intOf i + 1).toNat)
    case atStart => exact ⟨xs.length, 0, by omega, by go_num, rfl, fun j hj => by rw [limb_out (by omega), limb_out (by omega)]⟩
    case round =>
      obtain ⟨k, q, hk, rfl, rfl, heq⟩ := hrel
      have HQ := Lib.hid heq; clear heq
      rcases (by omega : k = 0 ∨ 1 ≤ k) with h0 | h1
      · have hv : cmpN (dval xs) (dval ys) = 0 := by
          have e : dval xs = dval ys := by rw [← dval_eq hl1, ← dval_eq (Nat.le_refl _)]; exact D_congr fun i _ => HQ.out i (by omega)
          unfold cmpN; rw [e]; simp
        have HV := Lib.hid hv; clear hv
        go_wp2
        go_ret
        exact ⟨ret_int HV.out.symm, below_drewN (Below.refl _ _) _⟩
      · obtain ⟨m, rfl⟩ : ∃ m, k = m + 1 := ⟨k - 1, by omega⟩
        have hxk := HX.out m
        have hyk := HY.out m
        obtain ⟨b1, o1, rfl, l1, c1⟩ := sl_cells HA.out (j := m) (by omega)
        obtain ⟨b2, o2, rfl, l2, c2⟩ := sl_cells HB.out (j := m) (by omega)
        clear l1 l2
        have hcase : ∀ c, (limb xs m < limb ys m → c = -1) → (limb ys m < limb xs m → c = 1) → limb xs m ≠ limb ys m → cmpN (dval xs) (dval ys) = c := by
          intro c h1 h2 h3
          unfold cmpN
          rw [← dval_eq hl1, ← dval_eq (Nat.le_refl ys.length)]
          rcases Nat.lt_or_gt_of_ne h3 with h | h
          · rw [if_pos (D_less HX.out (k := m) (by omega) h fun j hj _ => HQ.out j (by omega)), h1 h]
          · have := D_less HY.out (k := m) (n := ys.length) (by omega) h fun j hj _ => (HQ.out j (by omega)).symm
            rw [if_neg (by omega), if_pos this, h2 h]
        have HC := Lib.hid hcase; clear hcase
        rcases Nat.lt_trichotomy (limb xs m) (limb ys m) with hc | hc | hc
        · have hc1 : limb xs m ≤ limb ys m := by omega
          go_wp2
          go_quiet (fail)
          go_wp2
          go_quiet (fail)
          go_wp2
          go_ret
          exact ⟨ret_int (HC.out (-1) (fun _ => rfl) (fun h => by omega) (by omega)).symm, by first | exact below_drewN (below_drewN (below_drewN (Below.refl _ _) _) _) _ | exact below_drewN (below_drewN (Below.refl _ _) _) _⟩
        · have hc1 : limb xs m ≤ limb ys m := by omega
          have hc2 : limb ys m ≤ limb xs m := by omega
          have HC2 := Lib.hid hc; clear hc
          go_wp2
          go_quiet (fail)
          go_wp2
          go_quiet (fail)
          go_wp2
          go_roundw
          case rel => exact ⟨m, _, by omega, by go_num, rfl, fun j hj => by
            by_cases e : j = m
            · subst e; exact HC2.out
            · exact HQ.out j (by omega)⟩
          case measure => simp only [intOf]; omega
        · go_wp2
          go_quiet (fail)
          go_wp2
          go_ret
          exact ⟨ret_int (HC.out 1 (fun h => by omega) (fun _ => rfl) (by omega)).symm, by first | exact below_drewN (below_drewN (below_drewN (Below.refl _ _) _) _) _ | exact below_drewN (below_drewN (Below.refl _ _) _) _⟩
end Go.Proofs.YtiekhjgfnmochaaDoor
namespace Go.Proofs.YtiekhjgfnmochaaDoor
open Go.RowKit

/-- The slice reads the same in whatever world keeps what lies above B. -/
def Apart8 (B : Nat) (w : World) (v : Value) (rs : List Nat) : Prop := ∀ W : World, w.heap.size ≤ W.heap.size → (∀ b, B < b → b < w.heap.size → W.heap[b]? = w.heap[b]?) → Sl .u8 W v rs
theorem Apart8.sl {B : Nat} {w : World} {v : Value} {rs : List Nat} (h : Apart8 B w v rs) : Sl .u8 w v rs := h w (Nat.le_refl _) fun _ _ _ => rfl
theorem Apart8.below {B : Nat} {w w' : World} {v : Value} {rs : List Nat} (h : Apart8 B w v rs) (hb : Below w.heap.size w w') : Apart8 B w' v rs :=
  fun W hs hW => h W (Nat.le_trans hb.size hs) fun b h1 h2 => (hW b h1 (Nat.lt_of_lt_of_le h2 hb.size)).trans (hb.block b h2)
theorem Apart8.set {B k : Nat} {w : World} {v u : Value} {rs : List Nat} (h : Apart8 B w v rs) : Apart8 B (w.setCell ⟨B, k, none⟩ u) v rs :=
  fun W hs hW => h W (by simpa using hs) fun b h1 h2 => (hW b h1 (by simpa using h2)).trans (Below.heap_setCell _ _ _ _ (by simp; omega))
theorem apart_own {e : TypeId} {B base : Nat} {w : World} {v : Value} {rs : List Nat} (h : w.ownsRow base e 1 v rs.length (rs.map fun (x : Nat) => Value.int .u8 (x : Int))) (hB : B < base) : Apart8 B w v rs := by
  intro W _ hW
  obtain ⟨h1, h2⟩ := h
  refine owns_sl (e := e) (base := base) (n := rs.length) ⟨h1, ?_⟩
  rcases h2 with h2 | ⟨g, cap, cur, hv, hg, hh, hr⟩
  · exact .inl h2
  · exact .inr ⟨g, cap, cur, hv, hg, (hW g (by omega) (Array.getElem?_eq_some_iff.1 hh).1).trans hh, hr⟩
/-- trim of digits, wherever they stand. -/
theorem dtrim_same (v : Value) (ds : List Nat) (N : Nat) (w : World) (hs : Sl .u8 w v ds) (hd : Db ds) (hv : dval ds = N) :
    Calls Tryd.prog 57 #[v] w fun e w' => ∃ v' es, e = .returned v' ∧ (∀ W, Sl .u8 W v ds → Sl .u8 W v' es) ∧ Db es ∧ Top es ∧ dval es = N ∧ w = w' := by
  refine (rtrim_any v ds w hs hd.wide).mono ?_
  rintro e w' ⟨v', n, rfl, hn, ht, hz, hsl, rfl⟩
  exact ⟨v', ds.take n, rfl, hsl, hd.take n, Top.take hn ht, by rw [dval_take hn hz, hv], rfl⟩
/-- What minus answers: digits that stand in memory of their own. -/
def DigPostA (N : Nat) (w : World) (e : Ending) (w' : World) : Prop :=
  ∃ v ds, e = .returned v ∧ (∀ B, B < w.heap.size → Apart8 B w' v ds) ∧ Sl .u8 w' v ds ∧ Db ds ∧ Top ds ∧ dval ds = N ∧ Below w.heap.size w w'

set_option maxRecDepth 100000 in
set_option maxHeartbeats 4000000 in
theorem rminus_apart (va vb : Value) (xs ys : List Nat) (w : World) (ha : Sl .u8 w va xs) (hb : Sl .u8 w vb ys) (hx : Db xs) (hy : Db ys) (hty : Top ys) (hle : dval ys ≤ dval xs) (hxl : xs.length < 1000000) :
    Calls Tryd.prog 58 #[va, vb] w (DigPostA (dval xs - dval ys) w) := by
  obtain ⟨i0, hi, hz0, hz1, hz2⟩ := info_parts infoB
  have hyx : ys.length ≤ xs.length := hty.mono hx hy hle
  have HLE := Lib.hid hle
  clear hle hty
  have HA := Lib.hid ha
  have HB := Lib.hid hb
  obtain ⟨hma, ao, ca, rfl, hca, ha'⟩ := ha
  obtain ⟨hmb, bo, cb, rfl, hcb, hb'⟩ := hb
  clear ha' hb'
  unfold maxLen at hma hmb
  have HX := Lib.hid hx; clear hx
  have HY := Lib.hid hy; clear hy
  go_enter Tryd.func58, Tryd.ntmps58
  go_wp2_with fail
  go_loopw [5, 6, 7] (fun v c i wr => ∃ (rs : List Nat) (cv k : Nat), k ≤ xs.length ∧ c = .int .u8 (cv : Nat) ∧ i = .int .i64 (k : Nat) ∧ DifInv xs ys rs k cv ∧ wr.ownsRow w.heap.size 5 1 v rs.length (rs.map fun (x : Nat) => Value.int .u8 (x : Int)) ∧ Below w.heap.size w wr) (fun _ _ i _ => xs.length - (intOf i).toNat)
  case atStart => exact ⟨[], 0, 0, by omega, rfl, rfl, DifInv.start xs ys, World.ownsRow_nil _ _ _ _, Below.refl _ _⟩
  case round =>
    obtain ⟨rs, cv, k, hk, rfl, rfl, hinv, hown, hbel⟩ := hrel
    have hcv := hinv.small
    have hlen := hinv.len
    have hxk := HX.out k
    have hyk := HY.out k
    have hwz : w.heap.size ≤ wr.heap.size := hbel.size
    have HBL := Lib.hid hbel
    by_cases h1 : k < xs.length
    · obtain ⟨b1, o1, rfl, l1, c1⟩ := sl_cells (HA.out.below hbel) h1
      clear l1
      have HI := Lib.hid hinv; clear hinv
      have hsm : rs.length < 1000000 := by omega
      clear hlen
      obtain ⟨y, hy, hy2⟩ : ∃ y, (k < ys.length → y = limb ys k) ∧ (y = limb ys k) := ⟨_, fun _ => rfl, rfl⟩
      have hy10 : y < 10 := by omega
      have HY2 := Lib.hid hy2
      rcases (by omega : k < ys.length ∨ ys.length ≤ k) with h2 | h2
      · obtain ⟨b2, o2, rfl, l2, c2⟩ := sl_cells (HB.out.below hbel) h2
        clear l2 hbel
        rw [← hy2] at c2 hyk
        clear hy hy2
        rcases (by omega : limb xs k < cv + y ∨ cv + y ≤ limb xs k) with h3 | h3
        · go_wp2_with (at_builtin; (refine wpList_append_own _ rfl _ _ 44 rfl w.heap.size 5 i0 (.int .u8 0) 1 1 Tryd.underlying44 hi hz0 hz1 hz2 rfl (by decide) _ rs.length (rs.map fun (x : Nat) => Value.int .u8 (x : Int)) rfl (hown.alloc _) ⟨wr.heap.size, 0, none⟩ 1 1 [.int .u8 ((limb xs k : Int) + 10 - ((cv : Int) + (y : Int)))] rfl (by simp) (cell_one_new _ _ _) (by intro u hu; rw [List.mem_singleton] at hu; subst hu; rfl) (by unfold maxLen; omega) (by omega) (by simp; omega) ?_); intro v' w1 hown1 hgrow hnil; clear hnil)
          clear c1 c2
          go_roundw
          case rel =>
            have e0 : (limb xs k : Int) + 10 - ((cv : Int) + (y : Int)) = ((limb xs k + 10 - (cv + y) : Nat) : Int) := by omega
            have e1 : (List.map (fun (x : Nat) => Value.int .u8 (x : Int)) rs ++ [.int .u8 ((limb xs k : Int) + 10 - ((cv : Int) + (y : Int)))]) = (rs ++ [limb xs k + 10 - (cv + y)]).map fun (x : Nat) => Value.int .u8 (x : Int) := by rw [e0]; simp
            have e2 : rs.length + 1 = (rs ++ [limb xs k + 10 - (cv + y)]).length := by simp
            rw [e1, e2] at hown1
            have hlo := hown.lt
            have hgrow' : World.grownBy _ w1 (Value.ownBlock _) := hgrow
            exact ⟨_, 1, k + 1, by omega, by go_num, by go_num, HI.out.step (t := limb xs k + 10 - (cv + y)) (by omega) (by omega) (by rw [← HY2.out]; omega), hown1, (HBL.out.alloc hwz _).grown hgrow' (by simp; omega) (fun k hk => (hlo k hk).1)⟩
          case measure => simp only [intOf]; omega
        · go_wp2_with (at_builtin; (refine wpList_append_own _ rfl _ _ 44 rfl w.heap.size 5 i0 (.int .u8 0) 1 1 Tryd.underlying44 hi hz0 hz1 hz2 rfl (by decide) _ rs.length (rs.map fun (x : Nat) => Value.int .u8 (x : Int)) rfl (hown.alloc _) ⟨wr.heap.size, 0, none⟩ 1 1 [.int .u8 ((limb xs k : Int) - ((cv : Int) + (y : Int)))] rfl (by simp) (cell_one_new _ _ _) (by intro u hu; rw [List.mem_singleton] at hu; subst hu; rfl) (by unfold maxLen; omega) (by omega) (by simp; omega) ?_); intro v' w1 hown1 hgrow hnil; clear hnil)
          clear c1 c2
          go_roundw
          case rel =>
            have e0 : (limb xs k : Int) - ((cv : Int) + (y : Int)) = ((limb xs k - (cv + y) : Nat) : Int) := by omega
            have e1 : (List.map (fun (x : Nat) => Value.int .u8 (x : Int)) rs ++ [.int .u8 ((limb xs k : Int) - ((cv : Int) + (y : Int)))]) = (rs ++ [limb xs k - (cv + y)]).map fun (x : Nat) => Value.int .u8 (x : Int) := by rw [e0]; simp
            have e2 : rs.length + 1 = (rs ++ [limb xs k - (cv + y)]).length := by simp
            rw [e1, e2] at hown1
            have hlo := hown.lt
            have hgrow' : World.grownBy _ w1 (Value.ownBlock _) := hgrow
            exact ⟨_, 0, k + 1, by omega, by go_num, by go_num, HI.out.step (t := limb xs k - (cv + y)) (by omega) (by omega) (by rw [← HY2.out]; omega), hown1, (HBL.out.alloc hwz _).grown hgrow' (by simp; omega) (fun k hk => (hlo k hk).1)⟩
          case measure => simp only [intOf]; omega
      · have hy0 : limb ys k = 0 := limb_out h2
        have HY0 := Lib.hid hy0; clear hy0 hbel hy hy2 hy10 HY2
        rcases (by omega : limb xs k < cv ∨ cv ≤ limb xs k) with h3 | h3
        · go_wp2_with (at_builtin; (refine wpList_append_own _ rfl _ _ 44 rfl w.heap.size 5 i0 (.int .u8 0) 1 1 Tryd.underlying44 hi hz0 hz1 hz2 rfl (by decide) _ rs.length (rs.map fun (x : Nat) => Value.int .u8 (x : Int)) rfl (hown.alloc _) ⟨wr.heap.size, 0, none⟩ 1 1 [.int .u8 ((limb xs k : Int) + 10 - (cv : Int))] rfl (by simp) (cell_one_new _ _ _) (by intro u hu; rw [List.mem_singleton] at hu; subst hu; rfl) (by unfold maxLen; omega) (by omega) (by simp; omega) ?_); intro v' w1 hown1 hgrow hnil; clear hnil)
          clear c1
          go_roundw
          case rel =>
            have e0 : (limb xs k : Int) + 10 - (cv : Int) = ((limb xs k + 10 - cv : Nat) : Int) := by omega
            have e1 : (List.map (fun (x : Nat) => Value.int .u8 (x : Int)) rs ++ [.int .u8 ((limb xs k : Int) + 10 - (cv : Int))]) = (rs ++ [limb xs k + 10 - cv]).map fun (x : Nat) => Value.int .u8 (x : Int) := by rw [e0]; simp
            have e2 : rs.length + 1 = (rs ++ [limb xs k + 10 - cv]).length := by simp
            rw [e1, e2] at hown1
            have hlo := hown.lt
            have hgrow' : World.grownBy _ w1 (Value.ownBlock _) := hgrow
            exact ⟨_, 1, k + 1, by omega, by go_num, by go_num, HI.out.step (t := limb xs k + 10 - cv) (by omega) (by omega) (by rw [HY0.out]; omega), hown1, (HBL.out.alloc hwz _).grown hgrow' (by simp; omega) (fun k hk => (hlo k hk).1)⟩
          case measure => simp only [intOf]; omega
        · go_wp2_with (at_builtin; (refine wpList_append_own _ rfl _ _ 44 rfl w.heap.size 5 i0 (.int .u8 0) 1 1 Tryd.underlying44 hi hz0 hz1 hz2 rfl (by decide) _ rs.length (rs.map fun (x : Nat) => Value.int .u8 (x : Int)) rfl (hown.alloc _) ⟨wr.heap.size, 0, none⟩ 1 1 [.int .u8 ((limb xs k : Int) - (cv : Int))] rfl (by simp) (cell_one_new _ _ _) (by intro u hu; rw [List.mem_singleton] at hu; subst hu; rfl) (by unfold maxLen; omega) (by omega) (by simp; omega) ?_); intro v' w1 hown1 hgrow hnil; clear hnil)
          clear c1
          go_roundw
          case rel =>
            have e0 : (limb xs k : Int) - (cv : Int) = ((limb xs k - cv : Nat) : Int) := by omega
            have e1 : (List.map (fun (x : Nat) => Value.int .u8 (x : Int)) rs ++ [.int .u8 ((limb xs k : Int) - (cv : Int))]) = (rs ++ [limb xs k - cv]).map fun (x : Nat) => Value.int .u8 (x : Int) := by rw [e0]; simp
            have e2 : rs.length + 1 = (rs ++ [limb xs k - cv]).length := by simp
            rw [e1, e2] at hown1
            have hlo := hown.lt
            have hgrow' : World.grownBy _ w1 (Value.ownBlock _) := hgrow
            exact ⟨_, 0, k + 1, by omega, by go_num, by go_num, HI.out.step (t := limb xs k - cv) (by omega) (by omega) (by rw [HY0.out]; omega), hown1, (HBL.out.alloc hwz _).grown hgrow' (by simp; omega) (fun k hk => (hlo k hk).1)⟩
          case measure => simp only [intOf]; omega
    · obtain rfl : k = xs.length := by omega
      have HV := Lib.hid (hinv.done hyx HLE.out)
      have HD := Lib.hid hinv.b
      have hsl := owns_sl hown
      obtain ⟨a', c', rfl⟩ := owns_slice hown
      clear hinv hlen
      go_wp2_with fail
      have HO := Lib.hid hown
      clear hown
      refine (dtrim_same _ rs _ _ hsl HD.out HV.out).mono ?_
      rintro e w' ⟨v, ds, rfl, q1, q2, q3, q4, rfl⟩
      go_wp2_with fail
      go_ret
      exact ⟨v, ds, rfl, fun B hB W h1 h2 => q1 W (apart_own HO.out hB W h1 h2), q1 _ hsl, q2, q3, q4, hbel⟩
theorem rminus_any (va vb : Value) (xs ys : List Nat) (w : World) (ha : Sl .u8 w va xs) (hb : Sl .u8 w vb ys) (hx : Db xs) (hy : Db ys) (hty : Top ys) (hle : dval ys ≤ dval xs) (hxl : xs.length < 1000000) :
    Calls Tryd.prog 58 #[va, vb] w (DigPost (dval xs - dval ys) w) :=
  (rminus_apart va vb xs ys w ha hb hx hy hty hle hxl).mono fun _ _ ⟨v, ds, h1, _, h2, h3, h4, h5, h6⟩ => ⟨v, ds, h1, h2, h3, h4, h5, h6⟩
end Go.Proofs.YtiekhjgfnmochaaDoor
