/- StoreRings -/
import Derived.Test.YthkbggakgcejoaaStLaw
import Derived.Laws.StructEq
namespace Go.Proofs.Ythkbggakgcejoaa
open Go.RowKit

/-- k boxes, of which the first j hold the next one. -/
def rgO (k j i : Nat) : Ob := ⟨3, 2, [if i < j then (7, (((i + 1) % k : Nat) : Int)) else (0, 0)], none⟩
def sG (k n j : Nat) : St := ⟨1000, 2 * n, (List.range n).map (rgO k j), []⟩
theorem sG_make {k i : Nat} (h : i ≤ 30) : (sG k i 0).make 3 [(0, 0)] = (((7, (i : Int)), 0), sG k (i + 1) 0) := by
  have h2 : [((0 : Int), (0 : Int))].all (sdV (sG k i 0).os.length (sG k i 0).ns.length) = true := rfl
  unfold St.make
  rw [if_neg (by simp [mayA]), if_neg (by rw [h2]; simp), if_neg (by simp [sG]; omega)]
  simp only [sG, St.add, List.length_map, List.length_range, List.length_cons, List.length_nil]
  rw [List.range_succ, List.map_append]
  simp only [List.map_cons, List.map_nil, rgO]
  congr 2
theorem sG_obj {k n j i : Nat} (h : i < n) : (sG k n j).obj (7, (i : Int)) = some (rgO k j i) := by
  unfold St.obj
  rw [if_pos ⟨rfl, by simp⟩]
  simp [sG, h]
theorem sG_get {k n j i : Nat} (h : i < n) : (sG k n j).get (7, (i : Int)) 0 = ((if i < j then (7, (((i + 1) % k : Nat) : Int)) else (0, 0)), 0) := get_at (sG_obj h) (j := 0) (by simp [rgO])
theorem sG_set {k j : Nat} (h : j < k) : (sG k k j).setA (7, (j : Int)) 0 (7, (((j + 1) % k : Nat) : Int)) = (0, sG k k (j + 1)) := by
  have h1 : (j + 1) % k < k := Nat.mod_lt _ (by omega)
  unfold St.setA
  have hs : sdV (sG k k j).os.length (sG k k j).ns.length (7, (((j + 1) % k : Nat) : Int)) = true := by
    rw [sdV_obj rfl, decide_eq_true_iff, show (sG k k j).os.length = k by simp [sG]]
    exact ⟨Int.natCast_nonneg _, Int.ofNat_lt.2 h1⟩
  rw [sG_get h, if_neg (by simp), if_neg (by rw [hs]; simp)]
  simp only [Prod.mk.injEq, true_and]
  unfold St.put sG
  simp only [St.mk.injEq, true_and, and_true, Int.toNat_natCast]
  apply List.ext_getElem?
  intro m
  rw [List.getElem?_modify]
  simp only [List.getElem?_map]
  by_cases hm : m < k
  · rw [List.getElem?_eq_getElem (by simpa using hm)]
    simp only [List.getElem_range, Option.map_some]
    by_cases hjm : j = m
    · subst hjm
      simp [rgO, Ob.put]
    · simp only [hjm, if_false, Option.map_eq_map, Option.map_some]
      simp only [rgO, Option.some.injEq, Ob.mk.injEq, true_and, and_true]
      by_cases hmj : m < j
      · rw [if_pos hmj, if_pos (by omega)]
      · rw [if_neg hmj, if_neg (by omega)]
  · rw [List.getElem?_eq_none (by simpa using hm)]
    simp
theorem sG_none {k : Nat} : ((sG k k k).col []).U = 0 := by
  have hno : ∀ m, rchB (sG k k k) [] m = false := fun m => by
    rw [Bool.eq_false_iff]
    intro h
    have h2 := rchB_iff.1 h
    clear h
    induction h2 with
    | root h => cases h
    | step _ _ _ ih => exact ih
  have hk : ∀ (l : List Ob) (n : Nat), n ≤ l.length → kpt (rchB (sG k k k) []) (Ob.mv (rchB (sG k k k) [])) l n = [] := by
    intro l n
    induction n with
    | zero => intro _; rfl
    | succ n ih => intro h; rw [kpt_succ (by omega), ih (by omega), hno]; rfl
  show ((kpt _ _ _ _).map Ob.c).sum = 0
  rw [hk _ _ (Nat.le_refl _)]
  rfl
theorem sG_rch {k a : Nat} (_ha : a < k) {n : Nat} (hn : n < k) : rchB (sG k k k) [(7, (a : Int)), (7, 0)] n = true := by
  rw [rchB_iff]
  induction n with
  | zero => exact .root (by simp)
  | succ n ih =>
    refine .step (o := rgO k k n) (ih (by omega)) ?_ ?_
    · have := sG_obj (k := k) (n := k) (j := k) (i := n) (by omega)
      unfold St.obj at this
      rw [if_pos ⟨rfl, by simp⟩, Int.toNat_natCast] at this
      exact this
    · unfold rgO
      rw [if_pos (by omega), Nat.mod_eq_of_lt (by omega)]
      simp
theorem plc_all {K : Nat → Bool} {n : Nat} (h : ∀ m, m < n → K m = true) : plc K n = n := by
  induction n with
  | zero => rfl
  | succ n ih => rw [plc_succ, ih (fun m hm => h m (by omega)), h n (by omega), if_pos rfl]
theorem sG_col {k a : Nat} (ha : a < k) : (sG k k k).col [(7, (a : Int)), (7, 0)] = sG k k k := by
  have hmv : ∀ m, m < k → Ob.mv (rchB (sG k k k) [(7, (a : Int)), (7, 0)]) (rgO k k m) = rgO k k m := by
    intro m hm
    have h1 : (m + 1) % k < k := Nat.mod_lt _ (by omega)
    unfold Ob.mv rgO
    rw [if_pos hm]
    simp only [List.map_cons, List.map_nil, mvV]
    rw [if_pos trivial, Int.toNat_natCast, plc_all fun m hm => sG_rch ha (by omega)]
  have hos : ∀ n, n ≤ k → kpt (rchB (sG k k k) [(7, (a : Int)), (7, 0)]) (Ob.mv (rchB (sG k k k) [(7, (a : Int)), (7, 0)])) ((List.range k).map (rgO k k)) n = (List.range n).map (rgO k k) := by
    intro n
    induction n with
    | zero => intro _; rfl
    | succ n ih =>
      intro hn
      rw [kpt_succ (by simp; omega), ih (by omega), sG_rch ha (by omega), if_pos rfl, List.range_succ, List.map_append]
      simp [hmv n (by omega)]
  have h1 := hos k (Nat.le_refl _)
  have hsum : ∀ n, (((List.range n).map (rgO k k)).map Ob.c).sum = 2 * n := by
    intro n
    induction n with
    | zero => rfl
    | succ n ih => rw [List.range_succ, List.map_append, List.map_append, List.sum_append, ih]; simp [rgO]; omega
  unfold St.col St.left
  have e0 : (sG k k k).os = (List.range k).map (rgO k k) := rfl
  rw [e0, List.length_map, List.length_range, h1, hsum]
  rfl
theorem sG_mv {k a : Nat} (ha : a < k) : ([((7 : Int), (a : Int)), (7, 0)]).map (mvV (rchB (sG k k k) [(7, (a : Int)), (7, 0)])) = [(7, (a : Int)), (7, 0)] := by
  simp only [List.map_cons, List.map_nil, mvV]
  rw [if_pos trivial, if_pos trivial, Int.toNat_natCast, plc_all fun m hm => sG_rch ha (by omega)]
  rfl
/-- The boxes that were made. -/
def bxs (i : Nat) : List (Int × Int) := (List.range i).map fun j => (7, ((j : Nat) : Int))
theorem bxs_len (i : Nat) : (bxs i).length = i := by simp [bxs]
theorem bxs_succ (i : Nat) : bxs (i + 1) = bxs i ++ [(7, (i : Int))] := by simp [bxs, List.range_succ]
theorem bxs_at {i j : Nat} (h : j < (bxs i).length) : (bxs i)[j] = (7, (j : Int)) := by simp [bxs]

set_option maxRecDepth 100000 in
set_option maxHeartbeats 8000000 in
theorem storerings_any (x : Int) (keep : Bool) (w : World) (hx0 : 0 ≤ x) (hx1 : x ≤ 255) :
    Calls Try.prog 6 #[.int .u8 x, .bool keep] w fun e w' => e = .returned (.bool true) ∧ Below w.heap.size w w' := by
  obtain ⟨i0, hi, hz0, hz1, hz2⟩ := info_parts infoVal
  have HI := Lib.hid (And.intro hi (And.intro hz0 (And.intro hz1 hz2)))
  clear hi hz0 hz1 hz2
  obtain ⟨k, hk⟩ : ∃ k : Nat, x.tmod 20 = ((k : Nat) : Int) := ⟨(x.tmod 20).toNat, by rw [Int.toNat_of_nonneg (Int.tmod_nonneg _ hx0)]⟩
  have hk2 : k < 20 := by have := Int.tmod_lt_of_pos x (show (0 : Int) < 20 by decide); omega
  have HV1 := Lib.hid vrow1
  have HV2 := Lib.hid vrow2
  go_enter Try.func6, Try.ntmps6
  go_wp2_with fail
  refine (qnew 1000 w _ (Below.refl _ _) (by omega)).mono ?_
  rintro e w1 ⟨g, hg, rfl, hq, hb⟩
  have HQ1 : Hid (StQ w w1 g (Rnew g) (sG (k + 2) 0 0)) := Lib.hid hq
  clear hq hb hg
  go_wp2_with fail
  refine (answers6_any _).mono ?_
  rintro e w2 ⟨rfl, hb2⟩
  have HQ2 := Lib.hid (HQ1.out.below hb2)
  clear hb2
  go_wp2_with fail
  go_loopw [8, 9] (fun c v wr => ∃ (i : Nat) (R : Nat → Nat), i ≤ k + 2 ∧ v = .int .i64 (i : Nat) ∧ StQ w wr g R (sG (k + 2) i 0) ∧ Own w wr R c (bxs i)) (fun _ v _ => (k + 2) - (intOf v).toNat)
  case atStart => exact ⟨0, _, Nat.zero_le _, rfl, HQ2.out, Own.nil _ _ _⟩
  case round =>
    obtain ⟨i, R, hi, rfl, hq, how⟩ := hrel
    have HQ := Lib.hid hq
    have HOW := Lib.hid how
    obtain ⟨ao, ac, hav⟩ := own_dslice how.row
    rw [bxs_len] at hav
    subst hav
    clear hq how
    by_cases hlt2 : i < k + 2
    · have hii : ((i : Nat) : Int) < (k : Int) + 2 := by omega
      go_wp2_with fail
      refine (qmake (HQ.out.alloc _) (HV1.out _ (0, 0)) (by simp) (sG_make (by omega))).mono ?_
      rintro e w4 ⟨rfl, R4, hq4, hf4, hr4⟩
      have HOW4 := Lib.hid ((HOW.out.below (below1 _ _)).keep hf4 hr4)
      have HQ5 := Lib.hid (hq4.alloc (.cells #[.int .i64 7, .int .i64 (i : Int)] 35))
      have HVB := Lib.hid (Bx.new hq4 (7, (i : Int)))
      have HOW5 := Lib.hid (HOW4.out.below (below1 w4 (.cells #[.int .i64 7, .int .i64 (i : Int)] 35)))
      clear hq4 hf4 hr4
      go_upto_region 10 with fail
      generalize w4.alloc (.cells #[.int .i64 7, .int .i64 (i : Int)] 35) = w5 at *
      obtain ⟨c0, c1, _⟩ := HVB.out.facts
      generalize w4.heap.size = vb at *
      have HOW7 := Lib.hid ((HOW5.out.below (below1 w5 (.cells #[.int .i64 7, .int .i64 (i : Int)] 35))).row)
      have hi0 := HI.out.1
      have hz0 := HI.out.2.1
      have hz1 := HI.out.2.2.1
      have hz2 := HI.out.2.2.2
      rw [bxs_len] at HOW7
      go_wp2_with (at_builtin; go_loud (refine wpList_append_row _ rfl _ _ 33 rfl w.heap.size 35 i0 _ 2 16 Try.underlying33 hi0 hz0 hz1 hz2 rfl (by decide) (.slice ao i ac) i (vcs (bxs i)) rfl HOW7.out _ 1 (vcs [(7, (i : Int))]) rfl (HV1.out _ (7, (i : Int))) (vcs_one _) (by unfold maxLen; omega) (by omega) (by have := HQ5.out.bel.size; simp; omega) ?_); go_loud (intro v' w7 hown7 hgrow7 hmv7; rw [← vcs_append, ← bxs_succ] at hown7; have HO7 := Lib.hid hown7; have HG7 := Lib.hid hgrow7; have HM7 := Lib.hid hmv7; clear hown7 hgrow7 hmv7 hi0 hz0 hz1 hz2))
      go_roundw
      case measure => simp only [intOf]; omega
      case rel =>
        have hof : ∀ b, (Value.slice ao i ac).ownBlock = some b → w.heap.size ≤ b ∧ R4 b = 0 := fun b hb => ⟨(HOW5.out.row.lt b hb).1, HOW5.out.free b hb⟩
        refine ⟨i + 1, R4, by omega, by go_num, (HQ5.out.alloc _).grown HG7.out fun b hb => hof b hb, ⟨by rw [bxs_len]; exact HO7.out, fun b hb => ?_⟩⟩
        rcases HM7.out with e | ⟨b2, e, hge⟩
        · exact (hof b (e ▸ hb)).2
        · rw [e] at hb
          injection hb with hb
          subst hb
          exact HQ5.out.new_zero (by simp at hge; omega)
    · obtain rfl : i = k + 2 := by omega
      have hii : ¬ (((k + 2 : Nat) : Int) < (k : Int) + 2) := by omega
      go_wp2_with fail
      clear hii
      go_loopw [12] (fun v wr => ∃ (j : Nat) (R : Nat → Nat), j ≤ k + 2 ∧ v = .int .i64 (j : Nat) ∧ StQ w wr g R (sG (k + 2) (k + 2) j) ∧ Own w wr R (.slice ao (k + 2) ac) (bxs (k + 2))) (fun v _ => (k + 2) - (intOf v).toNat)
      case atStart => exact ⟨0, _, Nat.zero_le _, rfl, HQ.out, HOW.out⟩
      case round =>
        obtain ⟨j, R2, hj, rfl, hq, how⟩ := hrel
        have HQ := Lib.hid hq
        have HOW := Lib.hid how
        clear hq how
        by_cases hlt : j < k + 2
        · have hjj : ((j : Nat) : Int) < (k : Int) + 2 := by omega
          obtain ⟨m, hm⟩ : ∃ m, m = (j + 1) % (k + 2) := ⟨_, rfl⟩
          have hm2 : m < k + 2 := by rw [hm]; exact Nat.mod_lt _ (by omega)
          have hrem : ((j : Int) + 1).tmod ((k : Int) + 2) = (m : Int) := by
            have : ((j : Int) + 1).tmod ((k : Int) + 2) = (((j + 1) % (k + 2) : Nat) : Int) := by
              have h1 : ((j : Int) + 1) = ((j + 1 : Nat) : Int) := by omega
              have h2 : ((k : Int) + 2) = ((k + 2 : Nat) : Int) := by omega
              rw [h1, h2]
              exact (Int.ofNat_tmod _ _).symm
            rw [this, hm]
          have HSET := Lib.hid (sG_set hlt)
          rw [← hm] at HSET
          obtain ⟨ob, off, cap', e, _, p0, p1⟩ := vrow_at HOW.out.rowV (k := j) (by rw [bxs_len]; omega)
          obtain ⟨ob2, off2, cap2, e2, _, q0, q1⟩ := vrow_at HOW.out.rowV (k := m) (by rw [bxs_len]; omega)
          rw [bxs_at] at p0 p1 q0 q1
          rw [bxs_len] at e e2
          simp only [Value.slice.injEq, true_and] at e e2
          obtain ⟨rfl, rfl⟩ := e
          obtain ⟨e3, rfl⟩ := e2
          simp only [Option.some.injEq, Addr.mk.injEq, and_true] at e3
          obtain ⟨rfl, rfl⟩ := e3
          simp only at p0 p1 q0 q1
          have hb1 : ((j : Nat) : Int) < ((k + 2 : Nat) : Int) := by omega
          have hb2 : ((m : Nat) : Int) < ((k + 2 : Nat) : Int) := by omega
          have hw1 : IntKind.i64.wrap ((j : Int) + 1) = (j : Int) + 1 := by rw [IntKind.wrap_i64]; omega
          have hw2 : IntKind.i64.wrap (m : Int) = (m : Int) := by rw [IntKind.wrap_i64]; omega
          have hz2 : ¬ ((k : Int) + 2 = 0) := by omega
          have hm3 : (m : Int) < (k : Int) + 2 := by omega
          clear hm
          go_wp2_with fail
          go_region_with (first | (go_at_call 24; refine (qset (v := (7, (j : Int))) (x := (7, (m : Int))) (HQ.out.below ((Below.refl wr.heap.size wr).drew)) HSET.out).mono ?_; rintro e w4 ⟨rfl, R4, hq4, hf4, hr4⟩))
          all_goals
            have HQ4 := Lib.hid hq4
            have HO4 := Lib.hid ((HOW.out.below ((Below.refl wr.heap.size wr).drew)).keep hf4 hr4)
            clear hq4 hf4 hr4 p0 p1 q0 q1
            go_wp2_with fail
            go_roundw
            case measure => simp only [intOf]; omega
            case rel => exact ⟨j + 1, R4, by omega, by go_num, HQ4.out, HO4.out⟩
        · obtain rfl : j = k + 2 := by omega
          have hjj : ¬ (((k + 2 : Nat) : Int) < (k : Int) + 2) := by omega
          cases keep with
          | false =>
            go_wp2_with fail
            refine (qcol (rs := []) HQ.out (vrow0 _) (by simp) (fun b h _ => absurd rfl h) rfl).mono ?_
            rintro e w6 ⟨cv, rfl, hrow6, R6, hq6, _, _⟩
            obtain ⟨co, cc, hce⟩ := own_dslice hrow6
            subst hce
            have HUSE := qused hq6
            rw [sG_none] at HUSE
            have HUSE := Lib.hid HUSE
            have HQ6 := Lib.hid hq6
            clear hq6 hrow6
            go_wp2_with fail
            refine HUSE.out.mono ?_
            rintro e w7 ⟨rfl, hb7⟩
            have HQ7 := Lib.hid (HQ6.out.below hb7)
            clear hb7
            go_wp2_with fail
            go_ret
            exact ⟨rfl, HQ7.out.bel⟩
          | true =>
            obtain ⟨a, ha⟩ : ∃ a, a = (k + 2) / 2 := ⟨_, rfl⟩
            have ha2 : a < k + 2 := by omega
            have ha0 : 0 < a := by omega
            have hdiv : ((k : Int) + 2).tdiv 2 = (a : Int) := by
              have h1 : ((k : Int) + 2) = ((k + 2 : Nat) : Int) := by omega
              have h2 : ((k + 2 : Nat) : Int).tdiv ((2 : Nat) : Int) = (((k + 2) / 2 : Nat) : Int) := (Int.ofNat_tdiv _ _).symm
              rw [h1, ha]
              exact h2
            obtain ⟨ob, off, cap', e, _, p0, p1⟩ := vrow_at HOW.out.rowV (k := a) (by rw [bxs_len]; omega)
            obtain ⟨ob2, off2, cap2, e2, _, q0, q1⟩ := vrow_at HOW.out.rowV (k := 0) (by rw [bxs_len]; omega)
            rw [bxs_at] at p0 p1 q0 q1
            rw [bxs_len] at e e2
            simp only [Value.slice.injEq, true_and] at e e2
            obtain ⟨rfl, rfl⟩ := e
            obtain ⟨e3, rfl⟩ := e2
            simp only [Option.some.injEq, Addr.mk.injEq, and_true] at e3
            obtain ⟨rfl, rfl⟩ := e3
            simp only [Nat.zero_mul, Nat.add_zero] at p0 p1 q0 q1
            have hb1 : ((a : Nat) : Int) < ((k + 2 : Nat) : Int) := by omega
            have hb0 : (0 : Int) < ((k + 2 : Nat) : Int) := by omega
            have hwa : IntKind.i64.wrap (a : Int) = (a : Int) := by rw [IntKind.wrap_i64]; omega
            have hdiv2 : IntKind.i64.wrap ((k : Int) / 2 + 1) = (a : Int) := by rw [IntKind.wrap_i64]; omega
            have hb3 : (a : Int) < (k : Int) + 2 := by omega
            have hb4 : (0 : Int) < (k : Int) + 2 := by omega
            have HRT := Lib.hid (sG_col ha2)
            have HMV := Lib.hid (sG_mv ha2)
            have hlt0 : a < wr.heap.size ∨ True := .inr trivial
            clear ha hlt0
            go_wp2_with fail
            go_region_with (first | (go_at_call 21; refine (qcol (rs := [(7, (a : Int)), (7, 0)]) ((HQ.out.below ((Below.refl wr.heap.size wr).drew)).alloc _) (HV2.out _ (7, (a : Int)) (7, 0)) (by simp) (fun b _ hb => by injection hb with hb; simp only at hb; exact HQ.out.new_zero (by subst hb; exact Nat.le_refl _)) (by simp [sdV_obj, sG]; omega)).mono ?_; rintro e w6 ⟨cv, rfl, hrow6, R6, hq6, _, _⟩; obtain ⟨co, cc, hce⟩ := own_dslice hrow6; subst hce))
            all_goals
              rw [HRT.out] at hq6
              rw [HMV.out] at hrow6
              have HR6 := Lib.hid hrow6
              have HQ6 := Lib.hid hq6
              have hU : (((sG (k + 2) (k + 2) (k + 2)).U : Nat) : Int) = 2 * ((k : Int) + 2) := by show ((2 * (k + 2) : Nat) : Int) = _; omega
              have HUSE := qused hq6
              rw [hU] at HUSE
              have HUSE := Lib.hid HUSE
              clear hq6 hrow6 hU p0 p1 q0 q1
              go_wp2_with fail
              refine HUSE.out.mono ?_
              rintro e w7 ⟨rfl, hb7⟩
              have HQ7 := Lib.hid (HQ6.out.below hb7)
              have HR7 := Lib.hid ((RowV.of_own HR6.out).below hb7)
              clear hb7
              obtain ⟨cb, coff, ccap, e, _, p0, p1⟩ := vrow_at (l := [((7 : Int), (a : Int)), (7, 0)]) HR7.out (k := 0) (by simp)
              obtain ⟨cb2, coff2, ccap2, e2, _, q0, q1⟩ := vrow_at (l := [((7 : Int), (a : Int)), (7, 0)]) HR7.out (k := 1) (by simp)
              simp only [Value.slice.injEq, List.length_cons, List.length_nil, true_and] at e e2
              obtain ⟨rfl, rfl⟩ := e
              obtain ⟨e3, rfl⟩ := e2
              simp only [Option.some.injEq, Addr.mk.injEq, and_true] at e3
              obtain ⟨rfl, rfl⟩ := e3
              simp only [List.getElem_cons_zero, List.getElem_cons_succ, Nat.zero_mul, Nat.one_mul, Nat.add_zero] at p0 p1 q0 q1
              go_upto_region 22 with fail
              have HQ8 := Lib.hid (HQ7.out.alloc (.cells #[.int .i64 7, .int .i64 (a : Int)] 35))
              have HV8 := Lib.hid (Bx.new HQ7.out (7, (a : Int)))
              have HR8 := Lib.hid (HR7.out.below (below1 w7 (.cells #[.int .i64 7, .int .i64 (a : Int)] 35)))
              have HWV : Hid (w.heap.size ≤ w7.heap.size) := Lib.hid HQ7.out.bel.size
              have hcv : cb ≠ w7.heap.size := by have := HR7.out.lt cb (by simp) rfl; omega
              clear p0 p1 q0 q1
              generalize w7.alloc (.cells #[.int .i64 7, .int .i64 (a : Int)] 35) = w8 at *
              generalize w7.heap.size = vb at *
              have HCV := Lib.hid hcv
              clear hcv
              go_wp2_with fail
              go_loopw [18] (fun v wr => ∃ i : Nat, i ≤ k + 2 ∧ v = .int .i64 (i : Nat) ∧ StQ w wr g R6 (sG (k + 2) (k + 2) (k + 2)) ∧ Bx wr R6 vb (7, (((a + i) % (k + 2) : Nat) : Int)) ∧ RowV wr (.slice (some ⟨cb, coff, none⟩) 2 cc) [((7 : Int), (a : Int)), (7, 0)].length 2 (vcs [(7, (a : Int)), (7, 0)])) (fun v _ => (k + 2) - (intOf v).toNat)
              case atStart => exact ⟨0, Nat.zero_le _, rfl, HQ8.out, by rw [Nat.add_zero, Nat.mod_eq_of_lt ha2]; exact HV8.out, HR8.out⟩
              case round =>
                obtain ⟨i, hi, rfl, hq, hbx, hrv⟩ := hrel
                have HQ := Lib.hid hq
                have HBX := Lib.hid hbx
                have HRV := Lib.hid hrv
                by_cases hlt : i < k + 2
                · have hii : ((i : Nat) : Int) < (k : Int) + 2 := by omega
                  obtain ⟨n, hn⟩ : ∃ n, n = (a + i) % (k + 2) := ⟨_, rfl⟩
                  have hn2 : n < k + 2 := by rw [hn]; exact Nat.mod_lt _ (by omega)
                  have hn3 : (n + 1) % (k + 2) = (a + (i + 1)) % (k + 2) := by rw [hn, Nat.mod_add_mod, Nat.add_assoc]
                  have hget := sG_get (k := k + 2) (n := k + 2) (j := k + 2) (i := n) hn2
                  rw [if_pos hn2, hn3] at hget
                  obtain ⟨m, hm⟩ : ∃ m, m = (a + (i + 1)) % (k + 2) := ⟨_, rfl⟩
                  rw [← hm] at hget
                  have HGET := Lib.hid hget
                  have HM := Lib.hid hm
                  rw [← hn] at hbx
                  obtain ⟨b0, b1, f0, f1⟩ := hbx.facts
                  have HBN := Lib.hid hbx
                  simp only at b0 b1
                  clear hq hbx hrv hn hn3 hget hm
                  go_wp2_with fail
                  refine (qget (v := (7, (n : Int))) HQ.out HGET.out).mono ?_
                  rintro e w9 ⟨rfl, hb9⟩
                  have HQ9 := Lib.hid (HQ.out.below hb9)
                  have hbx9 := HBN.out.below hb9
                  have HR9 := Lib.hid (HRV.out.below hb9)
                  have HB9 := Lib.hid hbx9
                  obtain ⟨c0, c1, g0, g1⟩ := hbx9.facts
                  clear hb9 hbx9 b0 b1 f0 f1
                  go_wp2_with fail
                  go_roundw
                  case measure => simp only [intOf]; omega
                  case rel =>
                    have hput := HB9.out.put (7, (m : Int))
                    exact ⟨i + 1, by omega, by go_num, (HQ9.out.set (p := ⟨vb, 0, none⟩) HWV.out HB9.out.free _).set (p := ⟨vb, 1, none⟩) HWV.out HB9.out.free _, by rw [← HM.out]; exact hput, HR9.out.move (P := fun b => b ≠ vb) (fun b _ hb => by injection hb with hb; simp only at hb; rw [← hb]; exact HCV.out) (((Keeps.refl _ _).set (fun h => h rfl) _).set (fun h => h rfl) _)⟩
                · obtain rfl : i = k + 2 := by omega
                  have hii : ¬ (((k + 2 : Nat) : Int) < (k : Int) + 2) := by omega
                  rw [Nat.add_mod_right, Nat.mod_eq_of_lt ha2] at hbx
                  obtain ⟨b0, b1, _⟩ := hbx.facts
                  obtain ⟨cb1, coff1, ccap1, e, _, p0, p1⟩ := vrow_at (l := [((7 : Int), (a : Int)), (7, 0)]) hrv (k := 0) (by simp)
                  obtain ⟨cb2, coff2, ccap2, e2, _, q0, q1⟩ := vrow_at (l := [((7 : Int), (a : Int)), (7, 0)]) hrv (k := 1) (by simp)
                  simp only [Value.slice.injEq, List.length_cons, List.length_nil, true_and, Option.some.injEq, Addr.mk.injEq, and_true] at e e2
                  obtain ⟨⟨rfl, rfl⟩, _⟩ := e
                  obtain ⟨⟨rfl, rfl⟩, _⟩ := e2
                  simp only [List.getElem_cons_zero, List.getElem_cons_succ, Nat.zero_mul, Nat.one_mul, Nat.add_zero] at p0 p1 q0 q1
                  have hne : ((a : Int) == 0) = false := by rw [beq_eq_false_iff_ne]; omega
                  simp only at b0 b1
                  clear hq hbx hrv
                  go_wp2_with fail
                  go_quiet (fail)
                  go_wp2_with fail
                  go_ret
                  exact ⟨rfl, below_drewN HQ.out.bel _⟩
end Go.Proofs.Ythkbggakgcejoaa
