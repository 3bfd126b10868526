/- StoreLeft -/
import Derived.Test.YthkbggakgcejoaaStLaw
namespace Go.Proofs.Ythkbggakgcejoaa
open Go.RowKit

/-- What the i-th pair holds as its second one. -/
def lst (i : Nat) : Int × Int := if i = 0 then (0, 0) else (7, (i : Int) - 1)
def chO (i : Nat) : Ob := ⟨1, 3, [(4, (i : Int)), lst i], none⟩
/-- A store of i such pairs, and j others behind them. -/
def sL (L i j : Nat) : St := ⟨L, 3 * i + 3 * j, (List.range i).map chO ++ List.replicate j ⟨1, 3, [(0, 0), (0, 0)], none⟩, []⟩
theorem lst_succ (i : Nat) : lst (i + 1) = (7, (i : Int)) := by unfold lst; rw [if_neg (by omega)]; simp
theorem lst_sound (i n nn : Nat) (h : i ≤ n) : sdV n nn (lst i) = true := by
  unfold lst
  split
  · rfl
  · rw [sdV_obj rfl]; simp; omega
theorem sL_make {L i : Nat} (h : 3 * i + 3 ≤ L) : (sL L i 0).make 1 [(4, (i : Int)), lst i] = (((7, (i : Int)), 0), sL L (i + 1) 0) := by
  have h1 : mayA 1 [((4 : Int), (i : Int)), lst i].length = true := rfl
  have h2 : [((4 : Int), (i : Int)), lst i].all (sdV (sL L i 0).os.length (sL L i 0).ns.length) = true := by
    have := lst_sound i (sL L i 0).os.length (sL L i 0).ns.length (by simp [sL])
    simp only [List.all_cons, List.all_nil, this, Bool.and_true]
    rfl
  unfold St.make
  rw [if_neg (by rw [h1]; simp), if_neg (by rw [h2]; simp), if_neg (by simp [sL]; omega)]
  simp only [sL, St.add, List.replicate_zero, List.append_nil, List.length_map, List.length_range, List.length_cons, List.length_nil]
  rw [List.range_succ, List.map_append]
  simp only [List.map_cons, List.map_nil, chO]
  congr 2
theorem sL_full {L i j : Nat} (h : 3 * i + 3 * j = L) : (sL L i j).make 2 [] = (((0, 0), 16), sL L i j) := by
  unfold St.make
  rw [if_neg (by simp [mayA]), if_neg (by simp), if_pos (by simp [sL]; omega)]
theorem sL_more {L i j : Nat} (h : 3 * i + 3 * j + 3 ≤ L) : (sL L i j).make 1 [(0, 0), (0, 0)] = (((7, ((i + j : Nat) : Int)), 0), sL L i (j + 1)) := by
  have h2 : [((0 : Int), (0 : Int)), (0, 0)].all (sdV (sL L i j).os.length (sL L i j).ns.length) = true := rfl
  unfold St.make
  rw [if_neg (by simp [mayA]), if_neg (by rw [h2]; simp), if_neg (by simp [sL]; omega)]
  simp only [sL, St.add, List.length_append, List.length_map, List.length_range, List.length_replicate, List.length_cons, List.length_nil, List.append_assoc, ← List.replicate_succ', Prod.mk.injEq, true_and, St.mk.injEq, and_true]
  omega
theorem sL_obj {L i j n : Nat} (h : n < i) : (sL L i j).obj (7, (n : Int)) = some (chO n) := by
  unfold St.obj
  rw [if_pos ⟨rfl, by simp⟩]
  simp only [sL, Int.toNat_natCast]
  rw [List.getElem?_append_left (by simpa using h)]
  simp [h]
theorem sL_get0 {L i j n : Nat} (h : n < i) : (sL L i j).get (7, (n : Int)) 0 = ((4, (n : Int)), 0) := get_at (sL_obj h) (j := 0) (by simp [chO])
theorem sL_get1 {L i j n : Nat} (h : n < i) : (sL L i j).get (7, (n : Int)) 1 = (lst n, 0) := get_at (sL_obj h) (j := 1) (by simp [chO])
theorem sL_rch {L i a n : Nat} (ha : a < i) : rchB (sL L i 0) [(7, (a : Int))] n = decide (n ≤ a) := by
  rw [Bool.eq_iff_iff, rchB_iff, decide_eq_true_iff]
  constructor
  · intro h
    induction h with
    | root h1 =>
      simp only [List.mem_singleton, Prod.mk.injEq, true_and] at h1
      omega
    | @step m n o _ ho h1 ih =>
      simp only [sL, List.replicate_zero, List.append_nil, List.getElem?_map] at ho
      rw [Option.map_eq_some_iff] at ho
      obtain ⟨x, hx, rfl⟩ := ho
      obtain ⟨hxl, hxe⟩ := List.getElem?_eq_some_iff.1 hx
      simp only [List.getElem_range] at hxe
      subst hxe
      simp only [chO, List.mem_cons, List.mem_nil_iff, or_false, Prod.mk.injEq] at h1
      rcases h1 with h1 | h1
      · exact absurd h1.1 (by decide)
      · unfold lst at h1
        split at h1
        · simp only [Prod.mk.injEq] at h1; omega
        · simp only [Prod.mk.injEq, true_and] at h1; omega
  · intro h
    have key : ∀ d, d ≤ a → Rch (sL L i 0) [(7, (a : Int))] (a - d) := by
      intro d
      induction d with
      | zero => intro _; exact .root (by simp)
      | succ d ih =>
        intro hd
        refine .step (o := chO (a - d)) (ih (by omega)) ?_ ?_
        · have := sL_obj (L := L) (i := i) (j := 0) (n := a - d) (by omega)
          unfold St.obj at this
          rw [if_pos ⟨rfl, by simp⟩, Int.toNat_natCast] at this
          exact this
        · unfold chO lst
          rw [if_neg (by omega)]
          simp
          omega
    have := key (a - n) (by omega)
    rwa [show a - (a - n) = n by omega] at this
theorem plc_pre {K : Nat → Bool} {a n : Nat} (hK : ∀ m, K m = decide (m ≤ a)) (h : n ≤ a + 1) : plc K n = n := by
  induction n with
  | zero => rfl
  | succ n ih => rw [plc_succ, ih (by omega), hK, if_pos (by simp; omega)]
theorem sL_col {L i a : Nat} (ha : a < i) : (sL L i 0).col [(7, (a : Int))] = sL L (a + 1) 0 := by
  have hK : ∀ m, rchB (sL L i 0) [(7, (a : Int))] m = decide (m ≤ a) := fun m => sL_rch ha
  have hmv : ∀ m, m ≤ a → Ob.mv (rchB (sL L i 0) [(7, (a : Int))]) (chO m) = chO m := by
    intro m hm
    unfold Ob.mv chO
    congr 1
    unfold lst
    split
    · simp [mvV]
    · simp only [List.map_cons, List.map_nil, mvV]
      rw [if_neg (by decide), if_pos trivial, plc_pre hK (by omega)]
      congr 2
      simp
      omega
  have hos : ∀ k, k ≤ i → kpt (rchB (sL L i 0) [(7, (a : Int))]) (Ob.mv (rchB (sL L i 0) [(7, (a : Int))])) ((List.range i).map chO) k = (List.range (min k (a + 1))).map chO := by
    intro k
    induction k with
    | zero => intro _; simp [kpt_zero]
    | succ k ih =>
      intro hk
      rw [kpt_succ (by simp; omega), ih (by omega), hK]
      by_cases hka : k ≤ a
      · rw [if_pos (by simpa using hka), show min (k + 1) (a + 1) = k + 1 by omega, show min k (a + 1) = k by omega, List.range_succ, List.map_append]
        simp [hmv k hka]
      · rw [if_neg (by simpa using hka), show min (k + 1) (a + 1) = a + 1 by omega, show min k (a + 1) = a + 1 by omega, List.append_nil]
  have h1 := hos i (Nat.le_refl _)
  rw [show min i (a + 1) = a + 1 by omega] at h1
  have e0 : (sL L i 0).os = (List.range i).map chO := by simp [sL]
  unfold St.col St.left
  rw [e0, List.length_map, List.length_range, h1]
  simp only [sL, List.replicate_zero, List.append_nil, St.mk.injEq, true_and, and_true]
  have : ∀ n, (((List.range n).map chO).map Ob.c).sum = 3 * n := by
    intro n
    induction n with
    | zero => rfl
    | succ n ih => rw [List.range_succ, List.map_append, List.map_append, List.sum_append, ih]; simp [chO]; omega
  rw [this]
  rfl
theorem sL_mv {L i a : Nat} (ha : a < i) : ([((7 : Int), (a : Int))]).map (mvV (rchB (sL L i 0) [(7, (a : Int))])) = [(7, (a : Int))] := by
  simp only [List.map_cons, List.map_nil, mvV]
  rw [if_pos trivial, Int.toNat_natCast, plc_pre (fun m => sL_rch ha) (by omega)]
/-- The pairs that were made. -/
def prs (i : Nat) : List (Int × Int) := (List.range i).map fun j => (7, ((j : Nat) : Int))
theorem prs_len (i : Nat) : (prs i).length = i := by simp [prs]
theorem prs_succ (i : Nat) : prs (i + 1) = prs i ++ [(7, (i : Int))] := by simp [prs, List.range_succ]
theorem prs_at {i j : Nat} (h : j < (prs i).length) : (prs i)[j] = (7, (j : Int)) := by simp [prs]

set_option maxRecDepth 100000 in
set_option maxHeartbeats 8000000 in
theorem storeleft_any (x y : Int) (w : World) (hx0 : 0 ≤ x) (_hx1 : x ≤ 255) (hy0 : 0 ≤ y) (hy1 : y ≤ 255) :
    Calls Try.prog 5 #[.int .u8 x, .int .u8 y] w fun e w' => e = .returned (.bool true) ∧ Below w.heap.size w w' := by
  obtain ⟨i0, hi, hz0, hz1, hz2⟩ := info_parts infoVal
  have HI := Lib.hid (And.intro hi (And.intro hz0 (And.intro hz1 hz2)))
  clear hi hz0 hz1 hz2
  obtain ⟨k, hk⟩ : ∃ k : Nat, x.tmod 40 = ((k : Nat) : Int) := ⟨(x.tmod 40).toNat, by rw [Int.toNat_of_nonneg (Int.tmod_nonneg _ hx0)]⟩
  have hk2 : k < 40 := by have := Int.tmod_lt_of_pos x (show (0 : Int) < 40 by decide); omega
  obtain ⟨a, ha⟩ : ∃ a : Nat, y.tmod ((k : Int) + 1) = ((a : Nat) : Int) := ⟨(y.tmod ((k : Int) + 1)).toNat, by rw [Int.toNat_of_nonneg (Int.tmod_nonneg _ hy0)]⟩
  have ha2 : a < k + 1 := by have := Int.tmod_lt_of_pos y (show (0 : Int) < (k : Int) + 1 by omega); omega
  have HV1 := Lib.hid vrow1
  have HV2 := Lib.hid vrow2
  have HNEW := Lib.hid (qnew (3 * (k + 1)) w w (Below.refl _ _) (by omega))
  have e3 : ((3 * (k + 1) : Nat) : Int) = 3 * ((k : Int) + 1) := by omega
  rw [e3] at HNEW
  clear e3
  go_enter Try.func5, Try.ntmps5
  go_wp2_with fail
  refine HNEW.out.mono ?_
  rintro e w1 ⟨g, hg, rfl, hq, hb⟩
  have HQ1 : Hid (StQ w w1 g (Rnew g) (sL (3 * (k + 1)) 0 0)) := Lib.hid hq
  clear hq hb hg HNEW
  go_wp2_with fail
  refine (answers6_any _).mono ?_
  rintro e w2 ⟨rfl, hb2⟩
  have HQ2 := Lib.hid (HQ1.out.below hb2)
  clear hb2
  go_upto_region 7 with fail
  have HQ3 := Lib.hid (HQ2.out.alloc (.cells #[.int .i64 0, .int .i64 0] 35))
  have HB3 := Lib.hid (Bx.new HQ2.out (0, 0))
  have hwl : w.heap.size ≤ w2.heap.size := HQ2.out.bel.size
  have HWL := Lib.hid hwl
  clear hwl
  generalize w2.alloc (.cells #[.int .i64 0, .int .i64 0] 35) = w3 at *
  generalize w2.heap.size = lb at *
  go_wp2_with fail
  go_loopw [9, 10] (fun c v wr => ∃ (i : Nat) (R : Nat → Nat), i ≤ k + 1 ∧ v = .int .i64 (i : Nat) ∧ StQ w wr g R (sL (3 * (k + 1)) i 0) ∧ Bx wr R lb (lst i) ∧ Own w wr R c (prs i) ∧ c.ownBlock ≠ some lb) (fun _ v _ => (k + 1) - (intOf v).toNat)
  case atStart => exact ⟨0, _, Nat.zero_le _, rfl, HQ3.out, HB3.out, Own.nil _ _ _, fun h => by cases h⟩
  case round =>
    obtain ⟨i, R, hi, rfl, hq, hbx, how, hcl⟩ := hrel
    have HQ := Lib.hid hq
    have HBX := Lib.hid hbx
    have HOW := Lib.hid how
    have HCL := Lib.hid hcl
    obtain ⟨b0, b1, _⟩ := hbx.facts
    have hlt := hbx.lt
    obtain ⟨ao, ac, hav⟩ := own_dslice how.row
    rw [prs_len] at hav
    subst hav
    clear hq hbx how hcl
    by_cases hlt2 : i < k + 1
    · have hii : ((i : Nat) : Int) < (k : Int) + 1 := by omega
      generalize hl : lst i = z at *
      obtain ⟨z1, z2⟩ := z
      have HL := Lib.hid hl
      clear hl
      simp only at b0 b1
      go_wp2_with fail
      have hmk : (sL (3 * (k + 1)) i 0).make 1 [(4, (i : Int)), (z1, z2)] = (((7, (i : Int)), 0), sL (3 * (k + 1)) (i + 1) 0) := HL.out ▸ sL_make (by omega)
      refine (qmake (HQ.out.alloc _) (HV2.out _ (4, (i : Int)) (z1, z2)) (by simp) hmk).mono ?_
      rintro e w4 ⟨rfl, R4, hq4, hf4, hr4⟩
      have HBX4 := Lib.hid ((HBX.out.below (below1 _ _)).keep hf4 hr4)
      have HOW4 := Lib.hid ((HOW.out.below (below1 _ _)).keep hf4 hr4)
      have HQ5 := Lib.hid (hq4.alloc (.cells #[.int .i64 7, .int .i64 (i : Int)] 35))
      have HVB := Lib.hid (Bx.new hq4 (7, (i : Int)))
      have HBX5 := Lib.hid (HBX4.out.below (below1 w4 (.cells #[.int .i64 7, .int .i64 (i : Int)] 35)))
      have HOW5 := Lib.hid (HOW4.out.below (below1 w4 (.cells #[.int .i64 7, .int .i64 (i : Int)] 35)))
      have hne : lb ≠ w4.heap.size := by have := HBX4.out.lt; omega
      have hnao : ∀ b, (Value.slice ao i ac).ownBlock = some b → b < w4.heap.size := fun b hb => (HOW4.out.row.lt b hb).2
      have HNA := Lib.hid hnao
      clear hq4 hf4 hr4 b0 b1 hmk hnao
      go_upto_region 13 with fail
      generalize w4.alloc (.cells #[.int .i64 7, .int .i64 (i : Int)] 35) = w5 at *
      obtain ⟨b0, b1, g0, g1⟩ := HBX5.out.facts
      obtain ⟨c0, c1, d0, d1⟩ := HVB.out.facts
      generalize w4.heap.size = vb at *
      go_upto_region 14 with fail
      have HQ6 := Lib.hid ((HQ5.out.set (p := ⟨lb, 0, none⟩) HWL.out HBX5.out.free (.int .i64 7)).set (p := ⟨lb, 1, none⟩) HWL.out HBX5.out.free (.int .i64 (i : Int)))
      have HBX6 := Lib.hid (HBX5.out.put (7, (i : Int)))
      have HVB6 := Lib.hid ((HVB.out.other (p := ⟨lb, 0, none⟩) (fun e => hne e.symm) (.int .i64 7)).other (p := ⟨lb, 1, none⟩) (fun e => hne e.symm) (.int .i64 (i : Int)))
      have HOW6 := Lib.hid ((HOW5.out.set (p := ⟨lb, 0, none⟩) HCL.out (.int .i64 7)).set (p := ⟨lb, 1, none⟩) HCL.out (.int .i64 (i : Int)))
      simp only at HBX6 HVB6
      generalize (w5.setCell ⟨lb, 0, none⟩ (.int .i64 7)).setCell ⟨lb, 1, none⟩ (.int .i64 (i : Int)) = w6 at *
      clear b0 b1 g0 g1 c0 c1 d0 d1
      obtain ⟨c0, c1, _⟩ := HVB6.out.facts
      have HOW7 := Lib.hid ((HOW6.out.below (below1 w6 (.cells #[.int .i64 7, .int .i64 (i : Int)] 35))).row)
      have hi0 := HI.out.1
      have hz0 := HI.out.2.1
      have hz1 := HI.out.2.2.1
      have hz2 := HI.out.2.2.2
      rw [prs_len] at HOW7
      go_wp2_with (at_builtin; go_loud (refine wpList_append_row _ rfl _ _ 33 rfl w.heap.size 35 i0 _ 2 16 Try.underlying33 hi0 hz0 hz1 hz2 rfl (by decide) (.slice ao i ac) i (vcs (prs i)) rfl HOW7.out _ 1 (vcs [(7, (i : Int))]) rfl (HV1.out _ (7, (i : Int))) (vcs_one _) (by unfold maxLen; omega) (by omega) (by have := HQ6.out.bel.size; simp; omega) ?_); go_loud (intro v' w7 hown7 hgrow7 hmv7; rw [← vcs_append, ← prs_succ] at hown7; have HO7 := Lib.hid hown7; have HG7 := Lib.hid hgrow7; have HM7 := Lib.hid hmv7; clear hown7 hgrow7 hmv7 hi0 hz0 hz1 hz2))
      go_roundw
      case measure => simp only [intOf]; omega
      case rel =>
        have hof : ∀ b, (Value.slice ao i ac).ownBlock = some b → w.heap.size ≤ b ∧ R4 b = 0 := fun b hb => ⟨(HOW6.out.row.lt b hb).1, HOW6.out.free b hb⟩
        have hlb6 := HBX6.out.lt
        refine ⟨i + 1, R4, by omega, by go_num, (HQ6.out.alloc _).grown HG7.out fun b hb => hof b hb, by rw [lst_succ]; exact (HBX6.out.below (below1 _ _)).grown HG7.out HCL.out, ⟨by rw [prs_len]; exact HO7.out, fun b hb => ?_⟩, fun hb => ?_⟩
        · rcases HM7.out with e | ⟨b2, e, hge⟩
          · exact (hof b (e ▸ hb)).2
          · rw [e] at hb
            injection hb with hb
            subst hb
            exact HQ6.out.new_zero (by simp at hge; omega)
        · rcases HM7.out with e | ⟨b2, e, hge⟩
          · exact HCL.out (e ▸ hb)
          · rw [e] at hb
            injection hb with hb
            simp at hge
            omega
    · obtain rfl : i = k + 1 := by omega
      have hii : ¬ (((k + 1 : Nat) : Int) < (k : Int) + 1) := by omega
      clear b0 b1 HCL
      go_wp2_with fail
      refine (qmake HQ.out (vrow0 _) (by simp) (sL_full (by omega))).mono ?_
      rintro e w4 ⟨rfl, R4, hq4, hf4, hr4⟩
      have HQ4 := Lib.hid (hq4.alloc (.cells #[.int .i64 0, .int .i64 0] 35))
      have HOW4 := Lib.hid ((HOW.out.keep hf4 hr4).below (below1 w4 (.cells #[.int .i64 0, .int .i64 0] 35)))
      clear hq4 hf4 hr4
      go_upto_region 18 with fail
      generalize w4.alloc (.cells #[.int .i64 0, .int .i64 0] 35) = w5 at *
      obtain ⟨ob, off, cap', e, _, p0, p1⟩ := vrow_at HOW4.out.rowV (k := a) (by rw [prs_len]; omega)
      rw [prs_at, prs_len] at *
      simp only [Value.slice.injEq, true_and] at e
      obtain ⟨rfl, rfl⟩ := e
      simp only at p0 p1
      have haa : ((a : Nat) : Int) < ((k + 1 : Nat) : Int) := by omega
      go_wp2_with fail
      clear p0 p1 haa hii
      refine (qcol (rs := [(7, (a : Int))]) (HQ4.out.alloc _) (HV1.out _ (7, (a : Int))) (by simp) (fun b _ hb => by injection hb with hb; simp only at hb; exact HQ4.out.new_zero (by omega)) (by simp [sdV_obj, sL]; omega)).mono ?_
      rintro e w6 ⟨cv, rfl, hrow6, R6, hq6, _, _⟩
      rw [sL_col (by omega)] at hq6
      rw [sL_mv (by omega)] at hrow6
      have HQ6 := Lib.hid hq6
      have HR6 := Lib.hid hrow6
      obtain ⟨co, cc, hce⟩ := own_dslice hrow6
      subst hce
      have hU : (((sL (3 * (k + 1)) (a + 1) 0).U : Nat) : Int) = 3 * ((a : Int) + 1) := by show ((3 * (a + 1) + 3 * 0 : Nat) : Int) = _; omega
      have HUSE := qused hq6
      rw [hU] at HUSE
      have HUSE := Lib.hid HUSE
      clear hq6 hrow6 hU
      go_wp2_with fail
      refine HUSE.out.mono ?_
      rintro e w7 ⟨rfl, hb7⟩
      have HQ7 := Lib.hid (HQ6.out.below hb7)
      obtain ⟨cb, coff, ccap, e, _, p0, p1⟩ := vrow_at (l := [((7 : Int), (a : Int))]) ((RowV.of_own HR6.out).below hb7) (k := 0) (by simp)
      simp only [Value.slice.injEq, List.length_singleton, true_and] at e
      obtain ⟨rfl, rfl⟩ := e
      simp only [List.getElem_cons_zero, Nat.zero_mul, Nat.add_zero] at p0 p1
      clear hb7
      go_upto_region 23 with fail
      have HQ8 := Lib.hid (HQ7.out.alloc (.cells #[.int .i64 7, .int .i64 (a : Int)] 35))
      have HV8 := Lib.hid (Bx.new HQ7.out (7, (a : Int)))
      have hwl7 : w.heap.size ≤ w7.heap.size := HQ7.out.bel.size
      have HWV := Lib.hid hwl7
      clear hwl7 p0 p1
      generalize w7.alloc (.cells #[.int .i64 7, .int .i64 (a : Int)] 35) = w8 at *
      generalize w7.heap.size = vb at *
      go_wp2_with fail
      go_loopw [19] (fun v wr => ∃ d : Nat, d ≤ a + 1 ∧ v = .int .i64 ((d : Int) - 1) ∧ StQ w wr g R6 (sL (3 * (k + 1)) (a + 1) 0) ∧ Bx wr R6 vb (lst d)) (fun v _ => (intOf v + 1).toNat)
      case atStart => exact ⟨a + 1, Nat.le_refl _, by go_num, HQ8.out, by rw [lst_succ]; exact HV8.out⟩
      case round =>
        obtain ⟨d, hd, rfl, hq, hbx⟩ := hrel
        have HQ := Lib.hid hq
        have HBX := Lib.hid hbx
        clear hq hbx
        cases d with
        | zero =>
          have hz : ¬ ((0 : Int) ≤ ((0 : Nat) : Int) - 1) := by omega
          go_wp2_with fail
          clear hz
          go_loopw [24] (fun v wr => ∃ (j : Nat) (R : Nat → Nat), j ≤ k - a ∧ v = .int .i64 (j : Nat) ∧ StQ w wr g R (sL (3 * (k + 1)) (a + 1) j) ∧ Bx wr R vb (0, 0)) (fun v _ => (k - a) - (intOf v).toNat)
          case atStart => exact ⟨0, R6, Nat.zero_le _, rfl, HQ.out, HBX.out⟩
          case round =>
            obtain ⟨j, R, hj, rfl, hq, hbx⟩ := hrel
            have HQ := Lib.hid hq
            have HBX := Lib.hid hbx
            clear hq hbx
            by_cases hlt : j < k - a
            · have hii : ((j : Nat) : Int) < (k : Int) - (a : Int) := by omega
              go_wp2_with fail
              refine (qmake (HQ.out.alloc _) (HV2.out _ (0, 0) (0, 0)) (by simp) (sL_more (by omega))).mono ?_
              rintro e w9 ⟨rfl, R9, hq9, hf9, hr9⟩
              have HQ9 := Lib.hid hq9
              have HB9 := Lib.hid ((HBX.out.below (below1 _ _)).keep hf9 hr9)
              clear hq9 hf9 hr9
              go_wp2_with fail
              go_roundw
              case measure => simp only [intOf]; omega
              case rel => exact ⟨j + 1, R9, by omega, by go_num, HQ9.out.alloc _, HB9.out.below (below1 _ _)⟩
            · obtain rfl : j = k - a := by omega
              have hii : ¬ (((k - a : Nat) : Int) < (k : Int) - (a : Int)) := by omega
              go_wp2_with fail
              refine (qmake HQ.out (vrow0 _) (by simp) (sL_full (by omega))).mono ?_
              rintro e w9 ⟨rfl, R9, hq9, hf9, hr9⟩
              have HQ9 := Lib.hid (hq9.alloc (.cells #[.int .i64 0, .int .i64 0] 35))
              have hbx9 := (HBX.out.keep hf9 hr9).below (below1 w9 (.cells #[.int .i64 0, .int .i64 0] 35))
              obtain ⟨b0, b1, _⟩ := hbx9.facts
              have hlt9 := hbx9.lt
              clear hq9 hf9 hr9 hbx9
              go_wp2_with fail
              go_ret
              exact ⟨rfl, HQ9.out.bel⟩
        | succ d =>
          have hz : (0 : Int) ≤ ((d + 1 : Nat) : Int) - 1 := by omega
          have hbx := HBX.out
          rw [lst_succ] at hbx
          obtain ⟨b0, b1, f0, f1⟩ := hbx.facts
          have hlt := hbx.lt
          have e1 : (((d + 1 : Nat) : Int) - 1) = (d : Int) := by omega
          simp only at b0 b1
          have HG0 := Lib.hid (sL_get0 (L := 3 * (k + 1)) (i := a + 1) (j := 0) (n := d) (by omega))
          have HG1 := Lib.hid (sL_get1 (L := 3 * (k + 1)) (i := a + 1) (j := 0) (n := d) (by omega))
          clear hbx
          rw [e1] at *
          go_wp2_with fail
          refine (qget (v := (7, (d : Int))) HQ.out HG0.out).mono ?_
          rintro e w9 ⟨rfl, hb9⟩
          have HQ9 := Lib.hid ((HQ.out.below hb9).alloc (.cells #[.int .i64 4, .int .i64 (d : Int)] 35))
          have hbx9 := (HBX.out.below hb9).below (below1 w9 (.cells #[.int .i64 4, .int .i64 (d : Int)] 35))
          rw [lst_succ] at hbx9
          have HX9 := Lib.hid (Bx.new (HQ.out.below hb9) (4, (d : Int)))
          have HB9 := Lib.hid hbx9
          have hne9 : vb ≠ w9.heap.size := by have := (HBX.out.below hb9).lt; omega
          clear b0 b1 f0 f1 hb9 hbx9 hlt
          go_upto_region 27 with fail
          have hxlt := HX9.out.lt
          generalize w9.alloc (.cells #[.int .i64 4, .int .i64 (d : Int)] 35) = w10 at *
          generalize w9.heap.size = xb at *
          obtain ⟨b0, b1, f0, f1⟩ := HB9.out.facts
          simp only at b0 b1
          generalize hl : lst d = z at *
          obtain ⟨z1, z2⟩ := z
          have HL := Lib.hid hl
          clear hl
          go_wp2_with fail
          refine (qget (v := (7, (d : Int))) HQ9.out HG1.out).mono ?_
          rintro e w11 ⟨rfl, hb11⟩
          have HQ11 := Lib.hid ((HQ9.out.below hb11).alloc (.cells #[.int .i64 z1, .int .i64 z2] 35))
          have HB11 := Lib.hid ((HB9.out.below hb11).below (below1 w11 (.cells #[.int .i64 z1, .int .i64 z2] 35)))
          have HX11 := Lib.hid ((HX9.out.below hb11).below (below1 w11 (.cells #[.int .i64 z1, .int .i64 z2] 35)))
          have HY11 := Lib.hid (Bx.new (HQ9.out.below hb11) (z1, z2))
          have hney : vb ≠ w11.heap.size := by have := (HB9.out.below hb11).lt; omega
          clear b0 b1 f0 f1 hb11 hxlt
          go_upto_region 28 with fail
          generalize w11.alloc (.cells #[.int .i64 z1, .int .i64 z2] 35) = w12 at *
          generalize w11.heap.size = yb at *
          obtain ⟨b0, b1, f0, f1⟩ := HB11.out.facts
          obtain ⟨x0, x1, _⟩ := HX11.out.facts
          obtain ⟨y0, y1, _⟩ := HY11.out.facts
          simp only at b0 b1 x0 x1 y0 y1
          have hq : (((d : Nat) : Int) != ((d : Nat) : Int)) = false := by simp
          go_wp2_with fail
          go_roundw
          case measure => simp only [intOf]; omega
          case rel =>
            have hb := HB11.out.put (z1, z2)
            exact ⟨d, by omega, by go_num, (HQ11.out.set (p := ⟨vb, 0, none⟩) HWV.out HB11.out.free _).set (p := ⟨vb, 1, none⟩) HWV.out HB11.out.free _, by rw [HL.out]; exact hb⟩
end Go.Proofs.Ythkbggakgcejoaa
