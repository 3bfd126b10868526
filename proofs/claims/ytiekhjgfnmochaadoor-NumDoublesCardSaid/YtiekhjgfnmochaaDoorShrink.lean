/- num.shrink | num.takeAway and num.putBack: on a part of a row | num.goes -/
import Derived.Test.YtiekhjgfnmochaaDoorDivMath
import Derived.Test.YtiekhjgfnmochaaDoorLook
import Derived.Lib.Hide
import Derived.Deep.QuietTactic
import Derived.BigQuiet
namespace Go.Proofs.YtiekhjgfnmochaaDoor
open Go.RowKit

set_option maxRecDepth 100000 in
set_option maxHeartbeats 1000000 in
theorem shrink_any (ao : Option Addr) (cap : Nat) (xs : List Nat) (s : Nat) (w : World) (hs : Sl .u32 w (.slice ao xs.length cap) xs) (hx : Lb xs) (hl : xs.length ≤ 1000000) (h1 : 1 ≤ s) (h2 : s ≤ 1000000000) :
    Calls Tryd.prog 70 #[.slice ao xs.length cap, .int .u64 (s : Int)] w fun e w' => ∃ v rs, e = .returned v ∧ Sl .u32 w' v rs ∧ Lb rs ∧ rs.length = xs.length ∧ val rs = val xs / s ∧ Below w.heap.size w w' := by
  obtain ⟨i0, hi, hz0, hz1, hz2⟩ := info_parts infoU32
  have HS := Lib.hid hs; clear hs
  have HX := Lib.hid hx; clear hx
  go_enter Tryd.func70, Tryd.ntmps70
  go_wp2_with (at_make; refine wpList_make_full _ rfl _ _ 22 rfl w.heap.size 52 i0 (.int .u32 0) 1 Tryd.underlying22 hi hz0 hz1 _ _ _ _ xs.length rfl rfl (by omega) (by omega) (by rw [hz2]; omega) (by unfold maxLen; omega) (by omega) ?_; intro w1 hown hgrow)
  have hrow : Row .u32 52 w1 w.heap.size (List.replicate xs.length 0) := Row.of_made hown
  have hb1 : Below w.heap.size w w1 := (Below.refl _ w).grown hgrow (Nat.le_refl _) (fun _ h => by cases h)
  clear hown hgrow
  go_loopw [6, 7] (fun r i wr => ∃ (k rr : Nat) (rs : List Nat), k ≤ xs.length ∧ i = .int .i64 ((k : Int) - 1) ∧ r = .int .u64 (rr : Nat) ∧ Row .u32 52 wr w.heap.size rs ∧ ShrinkInv xs rs s k rr ∧ Below w.heap.size w wr) (fun _ i _ => (intOf i + 1).toNat)
  case atStart => exact ⟨xs.length, 0, _, Nat.le_refl _, rfl, rfl, hrow, ShrinkInv.start xs h1, hb1⟩
  case round =>
    clear hrow hb1
    obtain ⟨k, rr, rs, hk, rfl, rfl, hrow, hinv, hbel⟩ := hrel
    rcases k with _ | k
    · have HI := Lib.hid hinv; clear hinv
      go_wp2
      go_ret
      exact ⟨_, rs, rfl, hrow.sl_all HI.out.len.symm (Nat.le_refl _) (by unfold maxLen; omega), HI.out.lb, HI.out.len, HI.out.done, hbel⟩
    · have hlen := hinv.len
      have hlt := hinv.lt
      have hxk := HX.out k
      obtain ⟨hinv1, hq1⟩ := hinv.step HX.out (by omega)
      have hm1 : (rr * 1000000000 + limb xs k) % s < s := Nat.mod_lt _ h1
      clear hinv
      obtain ⟨D, hD⟩ : ∃ D, (rr * 1000000000 + limb xs k) / s = D := ⟨_, rfl⟩
      obtain ⟨M, hM⟩ : ∃ M, (rr * 1000000000 + limb xs k) % s = M := ⟨_, rfl⟩
      have hdiv := tdiv_nat (t := (rr : Int) * 1000000000 + ((limb xs k : Nat) : Int)) (by omega) hD
      have hmod := tmod_nat (t := (rr : Int) * 1000000000 + ((limb xs k : Nat) : Int)) (by omega) hM
      rw [hD, hM] at hinv1
      rw [hD] at hq1
      rw [hM] at hm1
      have HST := Lib.hid hinv1
      clear hinv1 hD hM
      obtain ⟨b2, o2, rfl, hlt2, hc2⟩ := sl_at (HS.out.below hbel) (show k < xs.length by omega)
      have hcell := hrow.cell (j := k) (by omega)
      have hfr := hrow.frozen k
      have HR := Lib.hid hrow; clear hrow
      have hs0 : ((s : Int) == 0) = false := by rw [beq_eq_false_iff_ne]; omega
      go_wp2_with fail
      go_region
      clear hdiv hmod hcell hfr hs0 hlen hc2 hlt2
      go_wp2
      go_roundw
      case rel =>
        have hR : Row .u32 52 wr.drew w.heap.size rs := HR.out
        exact ⟨k, M, rs.set k D, by omega, by go_num, rfl, HR.out.set k D, HST.out, (hbel.setCell (Nat.le_refl _) _).drew⟩
      case measure => simp only [intOf]; omega
end Go.Proofs.YtiekhjgfnmochaaDoor
namespace Go.Proofs.YtiekhjgfnmochaaDoor
open Go.RowKit

/-- Only block g of the old ones has changed. -/
structure Kp (g : Nat) (w w' : World) : Prop where
  bel : Below g w w'
  oth : ∀ b, b < w.heap.size → b ≠ g → w'.heap[b]? = w.heap[b]?
theorem Kp.refl (g : Nat) (w : World) : Kp g w w := ⟨Below.refl _ _, fun _ _ _ => rfl⟩
theorem Kp.size {g : Nat} {w w' : World} (h : Kp g w w') : w.heap.size ≤ w'.heap.size := h.bel.size
theorem Kp.trans {g : Nat} {w w' w'' : World} (h : Kp g w w') (h' : Kp g w' w'') : Kp g w w'' :=
  ⟨h.bel.trans h'.bel, fun b hb hne => (h'.oth b (Nat.lt_of_lt_of_le hb h.size) hne).trans (h.oth b hb hne)⟩
theorem Kp.alloc {g : Nat} {w w' : World} (h : Kp g w w') (hg : g < w.heap.size) (o : Obj) : Kp g w (w'.alloc o) :=
  ⟨h.bel.alloc (by have := h.size; omega) o, fun b hb hne => (Below.heap_alloc _ _ _ (Nat.lt_of_lt_of_le hb h.size)).trans (h.oth b hb hne)⟩
theorem Kp.set {g : Nat} {w w' : World} (h : Kp g w w') (j : Nat) (u : Value) : Kp g w (w'.setCell ⟨g, j, none⟩ u) :=
  ⟨h.bel.setCell (Nat.le_refl _) u, fun b hb hne => (Below.heap_setCell _ _ _ _ hne).trans (h.oth b hb hne)⟩
theorem Kp.drew {g : Nat} {w w' : World} (h : Kp g w w') : Kp g w w'.drew := ⟨h.bel.drew, h.oth⟩
theorem Kp.drewN {g : Nat} {w w' : World} (h : Kp g w w') (n : Nat) : Kp g w (w'.drewN n) := ⟨below_drewN h.bel n, h.oth⟩
theorem Sl.kp {k : IntKind} {g : Nat} {w w' : World} {bo : Option Addr} {n cap : Nat} {xs : List Nat} (h : Sl k w (.slice bo n cap) xs) (hk : Kp g w w') (hn : ∀ a, bo = some a → a.block ≠ g) : Sl k w' (.slice bo n cap) xs := by
  obtain ⟨h1, ao, c, e, h2, h3⟩ := h
  simp only [Value.slice.injEq] at e
  obtain ⟨rfl, e2, rfl⟩ := e
  refine ⟨h1, bo, cap, by rw [e2], h2, ?_⟩
  rcases h3 with ⟨h3, h4⟩ | ⟨b, off, h3, h4, h5⟩
  · exact .inl ⟨h3, h4⟩
  · refine .inr ⟨b, off, h3, Nat.lt_of_lt_of_le h4 hk.size, fun j hj => ?_⟩
    rw [← h5 j hj]
    exact World.cell?_of_block (hk.oth b h4 (hn _ h3))
theorem infoU32' : (Tryd.prog.info? 52).map (fun i => (i.zero, i.size, i.bytes)) = some (some (.int .u32 0), 1, 4) := infoU32

set_option maxRecDepth 100000 in
set_option maxHeartbeats 1000000 in
theorem take_any (g o m cap q : Nat) (bo : Option Addr) (cb : Nat) (R0 ys : List Nat) (w : World) (hrow : Row .u32 52 w g R0) (hlb : Lb R0) (hm : o + m ≤ R0.length) (hR : R0.length ≤ 1000000)
    (hs : Sl .u32 w (.slice bo ys.length cb) ys) (hy : Lb ys) (hn : ∀ a, bo = some a → a.block ≠ g) (hq : q < 1000000000) :
    Calls Tryd.prog 76 #[.slice (some ⟨g, o, none⟩) m cap, .slice bo ys.length cb, .int .u64 (q : Int)] w fun e w' => ∃ (R : List Nat) (short : Nat), e = .returned (.bool (decide (0 < short))) ∧ Row .u32 52 w' g R ∧ TakeInv R0 R ys o q m short ∧ Kp g w w' := by
  have HS := Lib.hid hs; clear hs
  have HY := Lib.hid hy; clear hy
  have HN := Lib.hid hn; clear hn
  have hg := hrow.lt
  have hl0 := hlb
  have HLB := Lib.hid hlb
  clear hlb
  go_enter Tryd.func76, Tryd.ntmps76
  go_wp2_with fail
  refine (look_any _ _ _ _).mono ?_
  rintro e w' ⟨rfl, rfl⟩
  have hk0 := (Kp.refl g w).alloc hg (.cells #[.slice bo ys.length cb] 22)
  have hc0 : (w.alloc (.cells #[.slice bo ys.length cb] 22)).cell? ⟨w.heap.size, 0, none⟩ = some (.slice bo ys.length cb) := cell_heap (heap_alloc_new w _) 0
  have hr0 := hrow.alloc (.cells #[.slice bo ys.length cb] 22)
  clear hrow
  go_wp2_with fail
  go_loopw [8, 16] (fun sh i wr => ∃ (k short : Nat) (R : List Nat), k ≤ m ∧ i = .int .i64 (k : Int) ∧ sh = .int .u64 (short : Int) ∧ Row .u32 52 wr g R ∧ TakeInv R0 R ys o q k short ∧ wr.cell? ⟨w.heap.size, 0, none⟩ = some (.slice bo ys.length cb) ∧ Kp g w wr) (fun _ i _ => m - (intOf i).toNat)
  case atStart => exact ⟨0, 0, R0, by omega, rfl, rfl, hr0, TakeInv.start hl0 ys o q, hc0, hk0⟩
  case round =>
    clear hr0 hk0 hc0 hl0
    obtain ⟨k, short, R, hk, rfl, rfl, hrow, hinv, hc, hkp⟩ := hrel
    by_cases hkm : k < m
    · have hlen := hinv.len
      have hcell := hrow.cell (j := o + k) (by omega)
      have hfr := hrow.frozen (o + k)
      have hsh := hinv.le
      have hyk := HY.out k
      have hpk := HLB.out (o + k)
      have hsame := hinv.out (o + k) (by omega)
      rw [hsame] at hcell
      have hone := take_one (y := limb ys k) (short := short) (p := limb R0 (o + k)) (q := q) rfl hq hyk hsh hpk rfl
      have HIN := Lib.hid hinv
      have HR := Lib.hid hrow
      obtain ⟨T, hT⟩ : ∃ T, limb ys k * q = T := ⟨_, rfl⟩
      have hT1 : T ≤ 999999998000000001 := by rw [← hT]; exact Nat.le_trans (Nat.mul_le_mul (by omega : limb ys k ≤ 999999999) (by omega : q ≤ 999999999)) (by decide)
      have hmul : ((limb ys k : Nat) : Int) * (q : Int) = (T : Int) := by rw [← hT]; exact (Int.natCast_mul _ _).symm
      rw [hT] at hone
      have HT := Lib.hid hT
      clear hT hinv hrow hsame
      obtain ⟨p, hp⟩ : ∃ p, limb R0 (o + k) = p := ⟨_, rfl⟩
      rw [hp] at hone hcell hpk
      have HP := Lib.hid hp; clear hp
      go_wp2_with fail
      refine (look1_any w.heap.size k _ ys wr (by omega) hc (HS.out.kp hkp HN.out) HY.out.wide).mono ?_
      rintro e w' ⟨rfl, rfl⟩
      by_cases hlt : p < (T + short) % 1000000000
      · obtain ⟨c1, c2, c3⟩ := hone.1 hlt
        clear hone
        go_wp2_with fail
        go_roundw
        case rel =>
          refine ⟨k + 1, (T + short) / 1000000000 + 1, R.set (o + k) (p + 1000000000 - (T + short) % 1000000000), by omega, by go_num, by go_num, ?_, HIN.out.step (by omega) (by rw [HP.out, HT.out]; exact c1) c2 c3, ?_, (hkp.set _ _).set _ _⟩
          · have h := (HR.out.put (o + k) (p + 1000000000) (u := (p : Int) + 1000000000) (by omega)).put (o + k) (p + 1000000000 - (T + short) % 1000000000) (u := (p : Int) + 1000000000 - ((T : Int) + (short : Int)) % 1000000000) (by omega)
            rw [List.set_set] at h
            exact h
          · rw [cell_other (by simp; omega), cell_other (by simp; omega)]; exact hc
        case measure => simp only [intOf]; omega
      · obtain ⟨c1, c2, c3⟩ := hone.2 hlt
        clear hone
        go_wp2_with fail
        go_roundw
        case rel =>
          refine ⟨k + 1, (T + short) / 1000000000, R.set (o + k) (p - (T + short) % 1000000000), by omega, by go_num, by go_num, ?_, HIN.out.step (by omega) (by rw [HP.out, HT.out]; exact c1) c2 c3, ?_, hkp.set _ _⟩
          · exact HR.out.put (o + k) _ (by omega)
          · rw [cell_other (by simp; omega)]; exact hc
        case measure => simp only [intOf]; omega
    · obtain rfl : k = m := by omega
      go_wp2
      go_ret
      exact ⟨R, short, rfl, hrow, hinv, hkp⟩

set_option maxRecDepth 100000 in
set_option maxHeartbeats 1000000 in
theorem put_any (g o m cap : Nat) (bo : Option Addr) (cb : Nat) (R0 ys : List Nat) (w : World) (hrow : Row .u32 52 w g R0) (hlb : Lb R0) (hm : o + m ≤ R0.length) (hR : R0.length ≤ 1000000)
    (hs : Sl .u32 w (.slice bo ys.length cb) ys) (hy : Lb ys) (hn : ∀ a, bo = some a → a.block ≠ g) :
    Calls Tryd.prog 77 #[.slice (some ⟨g, o, none⟩) m cap, .slice bo ys.length cb] w fun e w' => ∃ (R : List Nat) (carry : Nat), e = .returned (.bool (decide (0 < carry))) ∧ Row .u32 52 w' g R ∧ PutInv R0 R ys o m carry ∧ Kp g w w' := by
  have HS := Lib.hid hs; clear hs
  have HY := Lib.hid hy; clear hy
  have HN := Lib.hid hn; clear hn
  have hg := hrow.lt
  have hl0 := hlb
  have HLB := Lib.hid hlb
  clear hlb
  go_enter Tryd.func77, Tryd.ntmps77
  go_wp2_with fail
  refine (look_any _ _ _ _).mono ?_
  rintro e w' ⟨rfl, rfl⟩
  have hk0 := (Kp.refl g w).alloc hg (.cells #[.slice bo ys.length cb] 22)
  have hc0 : (w.alloc (.cells #[.slice bo ys.length cb] 22)).cell? ⟨w.heap.size, 0, none⟩ = some (.slice bo ys.length cb) := cell_heap (heap_alloc_new w _) 0
  have hr0 := hrow.alloc (.cells #[.slice bo ys.length cb] 22)
  clear hrow
  go_wp2_with fail
  go_loopw [6, 13] (fun sh i wr => ∃ (k carry : Nat) (R : List Nat), k ≤ m ∧ i = .int .i64 (k : Int) ∧ sh = .int .u64 (carry : Int) ∧ Row .u32 52 wr g R ∧ PutInv R0 R ys o k carry ∧ wr.cell? ⟨w.heap.size, 0, none⟩ = some (.slice bo ys.length cb) ∧ Kp g w wr) (fun _ i _ => m - (intOf i).toNat)
  case atStart => exact ⟨0, 0, R0, by omega, rfl, rfl, hr0, PutInv.start hl0 ys o, hc0, hk0⟩
  case round =>
    clear hr0 hk0 hc0 hl0
    obtain ⟨k, carry, R, hk, rfl, rfl, hrow, hinv, hc, hkp⟩ := hrel
    by_cases hkm : k < m
    · have hlen := hinv.len
      have hcell := hrow.cell (j := o + k) (by omega)
      have hfr := hrow.frozen (o + k)
      have hsh := hinv.le
      have hyk := HY.out k
      have hpk := HLB.out (o + k)
      have hsame := hinv.out (o + k) (by omega)
      rw [hsame] at hcell
      have HIN := Lib.hid (hinv.step HLB.out HY.out (by omega))
      have HR := Lib.hid hrow
      clear hinv hrow hsame
      have CA : Hid (∀ q, Calls Tryd.prog 59 #[.int .i64 (k : Nat), .pointer (some ⟨w.heap.size, 0, none⟩)] (wr.drewN q) fun e w' => e = .returned (.int .u64 ((limb ys k : Nat) : Int)) ∧ w' = wr.drewN q) := Lib.hid fun q =>
        (look1_any w.heap.size k _ ys (wr.drewN q) (by omega) hc (HS.out.kp (hkp.drewN q) HN.out) HY.out.wide).mono fun _ _ ⟨h1, h2⟩ => ⟨h1, h2.symm⟩
      go_wp2_with fail
      go_quiet ((with_reducible exact Calls.quiet_of_same (CA.out _)))
      go_wp2_with fail
      go_roundw
      case rel =>
        refine ⟨k + 1, (limb R0 (o + k) + limb ys k + carry) / 1000000000, _, by omega, by go_num, by go_num, (HR.out.drewN nq).put _ ((limb R0 (o + k) + limb ys k + carry) % 1000000000) (by omega), HIN.out, ?_, (hkp.drewN nq).set _ _⟩
        rw [cell_other (by simp; omega)]; exact hc
      case measure => simp only [intOf]; omega
    · obtain rfl : k = m := by omega
      go_wp2
      go_ret
      exact ⟨R, carry, rfl, hrow, hinv, hkp⟩
end Go.Proofs.YtiekhjgfnmochaaDoor
namespace Go.Proofs.YtiekhjgfnmochaaDoor
open Go.RowKit

/-- What goes leaves. -/
def GoesPost (g o n : Nat) (R0 ys : List Nat) (w : World) (e : Ending) (w' : World) : Prop :=
  ∃ (R : List Nat) (D : Nat), e = .returned (.int .u32 (D : Int)) ∧ Row .u32 52 w' g R ∧ R.length = R0.length ∧ Lb R ∧ Part R o (n + 2) + D * val ys = Part R0 o (n + 2) ∧ Part R o (n + 2) < val ys ∧ D < 1000000000 ∧
    (∀ j, j < o ∨ o + (n + 2) ≤ j → limb R j = limb R0 j) ∧ Kp g w w'

set_option maxRecDepth 100000 in
set_option maxHeartbeats 1000000 in
theorem goes_any (g o n cap : Nat) (bo : Option Addr) (cb : Nat) (R0 ys : List Nat) (w : World) (hrow : Row .u32 52 w g R0) (hlb : Lb R0) (hm : o + (n + 2) ≤ R0.length) (hR : R0.length ≤ 1000000)
    (hs : Sl .u32 w (.slice bo ys.length cb) ys) (hy : Lb ys) (hn : ∀ a, bo = some a → a.block ≠ g) (hl : ys.length = n + 1) (hyt : 1 ≤ limb ys n) (hp : Part R0 o (n + 2) < val ys * 1000000000) :
    Calls Tryd.prog 69 #[.slice (some ⟨g, o, none⟩) (n + 2) cap, .slice bo ys.length cb] w (GoesPost g o n R0 ys w) := by
  have HGE := Lib.hid (guess_ge hlb hl hyt hp)
  have hc1 := hrow.cell (j := o + (n + 1)) (by omega)
  have hc2 := hrow.cell (j := o + n) (by omega)
  have hp1 := hlb (o + (n + 1))
  have hp2 := hlb (o + n)
  have hy2 := hy n
  have HS := Lib.hid hs
  have HY := Lib.hid hy; clear hy
  have HN := Lib.hid hn; clear hn
  have HP := Lib.hid hp; clear hp
  have hg := hrow.lt
  have HR0 := Lib.hid hrow; clear hrow
  have HLB := Lib.hid hlb; clear hlb
  have HL := Lib.hid hl
  obtain ⟨b2, o2, rfl, _, hc3⟩ := sl_at hs (show n < ys.length by omega)
  clear hs
  obtain ⟨D, hD⟩ : ∃ D, (limb R0 (o + (n + 1)) * 1000000000 + limb R0 (o + n)) / limb ys n = D := ⟨_, rfl⟩
  have hdiv := tdiv_nat (t := ((limb R0 (o + (n + 1)) : Nat) : Int) * 1000000000 + ((limb R0 (o + n) : Nat) : Int)) (by omega) hD
  have hy0 : (((limb ys n : Nat) : Int) == 0) = false := by rw [beq_eq_false_iff_ne]; omega
  rw [hD] at HGE
  have hDb : D ≤ 1000000000000000000 := by
    rw [← hD]
    exact Nat.le_trans (Nat.div_le_self _ _) (by omega)
  clear hD
  obtain ⟨G, hG⟩ : ∃ G, min D 999999999 = G := ⟨_, rfl⟩
  have hmin : min (D : Int) 999999999 = (G : Int) := by omega
  have hG1 : G ≤ 999999999 := by omega
  rw [hG] at HGE
  rw [hl]
  go_enter Tryd.func69, Tryd.ntmps69
  go_wp2_with fail
  go_quiet (fail)
  clear hc1 hc2 hc3 hdiv hy0 hmin hG hDb
  have hkq : Kp g w (w.drewN nq) := (Kp.refl g w).drewN nq
  have T := take_any g o (n + 2) cap G (some ⟨b2, o2, none⟩) cb R0 ys (w.drewN nq) (HR0.out.drewN nq) HLB.out hm hR (HS.out.kp hkq HN.out) HY.out HN.out (by omega)
  rw [hl] at T
  go_wp2_with fail
  refine T.mono ?_
  rintro e w1 ⟨R1, short, rfl, hr1, ht1, hkp1⟩
  clear T
  replace hkp1 := hkq.trans hkp1
  clear hkq
  have hV : V (limb ys) (n + 2) = val ys := val_eq (by omega)
  have hVl : val ys < 1000000000 ^ (n + 1) := by have := val_lt HY.out; rw [hl] at this; exact this
  have hVp : 0 < val ys := Nat.lt_of_lt_of_le (Nat.mul_pos hyt (Nat.pow_pos (by omega))) (val_top hl)
  have hat : GoesAt (Part R0 o (n + 2)) (val ys) (1000000000 ^ (n + 2)) G (decide (0 < short)) (Part R1 o (n + 2)) :=
    GoesAt.start HGE.out hG1 hVp (Nat.le_of_lt hVl) (Nat.pow_succ _ _) (Part_lt ht1.lb _ _) (by rw [← hV]; exact ht1.eq)
  have HV := Lib.hid hV
  clear hV hVl hVp
  have hst : R1.length = R0.length ∧ Lb R1 ∧ ∀ j, j < o ∨ o + (n + 2) ≤ j → limb R1 j = limb R0 j := ⟨ht1.len, ht1.lb, ht1.out⟩
  clear ht1
  go_wp2_with fail
  go_loopw [6, 7] (fun gg bl wr => ∃ (G' : Nat) (bb : Bool) (R : List Nat), gg = .int .u64 (G' : Int) ∧ bl = .bool bb ∧ Row .u32 52 wr g R ∧ (R.length = R0.length ∧ Lb R ∧ ∀ j, j < o ∨ o + (n + 2) ≤ j → limb R j = limb R0 j) ∧ GoesAt (Part R0 o (n + 2)) (val ys) (1000000000 ^ (n + 2)) G' bb (Part R o (n + 2)) ∧ Kp g w wr) (fun gg _ _ => (intOf gg).toNat)
  case atStart => exact ⟨G, _, R1, rfl, rfl, hr1, hst, hat, hkp1⟩
  case round =>
    clear hr1 hst hat hkp1 hG1 HGE
    obtain ⟨G', bb, R, rfl, rfl, hrow, hst, hat, hkp⟩ := hrel
    have hG1 := hat.1
    cases bb
    · have HAT := Lib.hid hat; clear hat
      have HST := Lib.hid hst; clear hst
      go_wp2
      go_ret
      obtain ⟨_, _, ⟨h, _⟩ | ⟨_, h1, h2⟩⟩ := HAT.out
      · cases h
      · exact ⟨R, G', rfl, hrow, HST.out.1, HST.out.2.1, h1, h2, by omega, HST.out.2.2, hkp⟩
    · have hpos := hat.pos
      have HAT := Lib.hid hat; clear hat
      have HST := Lib.hid hst; clear hst
      have T := put_any g o (n + 2) cap (some ⟨b2, o2, none⟩) cb R ys wr hrow HST.out.2.1 (by rw [HST.out.1]; exact hm) (by rw [HST.out.1]; exact hR) (HS.out.kp hkp HN.out) HY.out HN.out
      rw [hl] at T
      go_wp2_with fail
      refine T.mono ?_
      rintro e w2 ⟨R2, carry, rfl, hr2, hp2, hkp2⟩
      clear T
      have HP2 := Lib.hid hp2
      clear hp2
      go_wp2_with fail
      go_roundw
      case rel =>
        refine ⟨G' - 1, _, R2, by go_num, rfl, hr2, ⟨HP2.out.len.trans HST.out.1, HP2.out.lb, fun j hj => (HP2.out.out j hj).trans (HST.out.2.2 j hj)⟩, HAT.out.step HP2.out.le (Part_lt HP2.out.lb _ _) (by rw [← HV.out]; exact HP2.out.eq), hkp.trans hkp2⟩
      case measure => simp only [intOf]; omega
end Go.Proofs.YtiekhjgfnmochaaDoor
