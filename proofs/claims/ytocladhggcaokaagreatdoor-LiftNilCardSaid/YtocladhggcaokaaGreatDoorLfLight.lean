/- law08's light and own: is there not too much in a datum? a datum that shares nothing. -/
import Derived.Test.YtocladhggcaokaaGreatDoorDmOwnP
namespace Go.Proofs.YtocladhggcaokaaGreatDoor
open Go.RowKit

/-- Not too deep, and no list too long. -/
def lightB : Nat → Dm → Bool
  | 0, _ => false
  | f + 1, d => decide (d.l.length ≤ 2000) && d.l.all (lightB f)
theorem lightB_mem {f : Nat} {k : Int} {t : List Nat} {n : Bool} {r : List Nat} {l : List Dm} {a : Int} (h : lightB (f + 1) (.mk k t n r l a) = true) : l.length ≤ 2000 ∧ ∀ (j : Nat) (hj : j < l.length), lightB f (l[j]'hj) = true := by
  unfold lightB at h
  simp only [Bool.and_eq_true, decide_eq_true_iff, List.all_eq_true] at h
  exact ⟨h.1, fun j hj => h.2 _ (List.getElem_mem hj)⟩
theorem lightB_zero (d : Dm) : lightB 0 d = false := rfl
theorem lightB_long {f : Nat} {k : Int} {t : List Nat} {n : Bool} {r : List Nat} {l : List Dm} {a : Int} (h : 2000 < l.length) : lightB (f + 1) (.mk k t n r l a) = false := by
  unfold lightB
  have : decide ((Dm.mk k t n r l a).l.length ≤ 2000) = false := by
    rw [decide_eq_false_iff_not]
    show ¬ l.length ≤ 2000
    omega
  rw [this]; rfl
theorem lightB_not {f : Nat} {k : Int} {t : List Nat} {n : Bool} {r : List Nat} {l : List Dm} {a : Int} {j : Nat} (hj : j < l.length) (h : lightB f (l[j]'hj) = false) : lightB (f + 1) (.mk k t n r l a) = false := by
  unfold lightB
  have := all_not (p := lightB f) hj h
  show (_ && l.all (lightB f)) = false
  rw [this, Bool.and_false]
theorem lightB_yes {f : Nat} {k : Int} {t : List Nat} {n : Bool} {r : List Nat} {l : List Dm} {a : Int} (h : l.length ≤ 2000) (h2 : ∀ (j : Nat) (hj : j < l.length), lightB f (l[j]'hj) = true) : lightB (f + 1) (.mk k t n r l a) = true := by
  unfold lightB
  show (decide (l.length ≤ 2000) && l.all (lightB f)) = true
  rw [all_upto h2]
  simpa using h
/-- No list too long, and no limbs more than a slice may have. -/
inductive Lb8 : Dm → Prop
  | mk {k : Int} {t : List Nat} {n : Bool} {r : List Nat} {l : List Dm} {a : Int} (hr : r.length ≤ 35184372087808) (hl : l.length ≤ 2000) (hin : ∀ (i : Nat) (h : i < l.length), Lb8 (l[i]'h)) : Lb8 (.mk k t n r l a)
theorem Lb8.open' {k : Int} {t : List Nat} {n : Bool} {r : List Nat} {l : List Dm} {a : Int} (h : Lb8 (.mk k t n r l a)) : r.length ≤ 35184372087808 ∧ l.length ≤ 2000 ∧ ∀ (i : Nat) (h : i < l.length), Lb8 (l[i]'h) := by
  cases h with
  | mk hr hl hin => exact ⟨hr, hl, hin⟩
/-- No limbs more than a slice may have. -/
inductive Lr8 : Dm → Prop
  | mk {k : Int} {t : List Nat} {n : Bool} {r : List Nat} {l : List Dm} {a : Int} (hr : r.length ≤ 35184372087808) (hin : ∀ (i : Nat) (h : i < l.length), Lr8 (l[i]'h)) : Lr8 (.mk k t n r l a)
theorem lb8_of {f : Nat} : ∀ {D : Dm}, lightB f D = true → Lr8 D → Lb8 D := by
  induction f with
  | zero => intro D h; cases h
  | succ f ih =>
    intro D h hr
    cases hr with
    | mk hr hin =>
      obtain ⟨h1, h2⟩ := lightB_mem h
      exact .mk hr h1 fun i hi => ih (h2 i hi) (hin i hi)

set_option maxRecDepth 100000 in
set_option maxHeartbeats 4000000 in
theorem light8_dm : ∀ (f : Nat) (D : Dm) (us : List Value) (w : World) (dp : Int), dp = 101 - (f : Int) → f ≤ 100 → Lay w D us → Calls Tryz.prog 9 #[.agg us.toArray, .int .i64 dp] w fun e w' => e = .returned (.bool (lightB f D)) ∧ Below w.heap.size w w' := by
  intro f
  induction f with
  | zero =>
    intro D us w dp hdp _ h1
    obtain ⟨k, t, n, r, l, a⟩ := D
    obtain ⟨lv, av, xs, rfl, _⟩ := h1.open'
    simp only [Dm.k, Dm.t, Dm.n, Dm.a]
    have hd : decide ((100 : Int) < dp) = true := by simp; omega
    clear hdp h1
    have hb1 := below1 w (.cells #[.int .i64 k, .string (mkB t), .bool n, lv, av, .int .i64 a] 27)
    have HB1 := Lib.hid hb1
    clear hb1
    show Calls Tryz.prog 9 #[.agg #[.int .i64 k, .string (mkB t), .bool n, lv, av, .int .i64 a], .int .i64 dp] w _
    go_enter Tryz.func9, Tryz.ntmps9
    go_wp2_with fail
    go_ret
    exact ⟨rfl, HB1.out⟩
  | succ f ih =>
    intro D us w dp hdp hf h1
    have HIH := Lib.hid ih
    clear ih
    obtain ⟨k, t, n, r, l, a⟩ := D
    obtain ⟨lv, av, xs, rfl, _, _, _, _, hrow1, hin1⟩ := h1.open'
    simp only [Dm.l] at hrow1 hin1
    simp only [Dm.k, Dm.t, Dm.n, Dm.a]
    have hd : decide ((100 : Int) < dp) = false := by simp; omega
    have HI1 := Lib.hid hin1
    have HW1 := Lib.hid hrow1
    have HDP : Hid (dp + 1 = 101 - (f : Int) ∧ f ≤ 100 ∧ (-1000 : Int) ≤ dp ∧ dp ≤ 100) := Lib.hid (by omega)
    have hdr : (-1000 : Int) ≤ dp ∧ dp ≤ 100 := by omega
    obtain ⟨ao, cv0, rfl⟩ : ∃ o c, av = .slice o l.length c := by obtain ⟨_, _, o, c, h, _⟩ := hrow1; exact ⟨o, c, h⟩
    clear h1 hrow1 hin1 hdp hf
    have hbb := below1 w (.cells #[.int .i64 k, .string (mkB t), .bool n, lv, .slice ao l.length cv0, .int .i64 a] 27)
    have r0 := box1 w #[.int .i64 k, .string (mkB t), .bool n, lv, .slice ao l.length cv0, .int .i64 a] 27
    have HBB := Lib.hid hbb
    have HQ0 := Lib.hid r0
    clear hbb r0
    have hmx : l.length ≤ 9223372036854775807 := by have := HW1.out.2.1; unfold maxLen at this; omega
    have HMX := Lib.hid hmx
    clear hmx
    show Calls Tryz.prog 9 #[.agg #[.int .i64 k, .string (mkB t), .bool n, lv, .slice ao l.length cv0, .int .i64 a], .int .i64 dp] w _
    obtain ⟨a0, a1, a2, a3, a4, a5⟩ := row6 HQ0.out
    by_cases hl : 2000 < l.length
    · have hL : decide ((2000 : Int) < (l.length : Int)) = true := by simp; omega
      have HNO := Lib.hid (lightB_long (f := f) (k := k) (t := t) (n := n) (r := r) (a := a) hl)
      clear hl
      go_enter Tryz.func9, Tryz.ntmps9
      go_wp2_with fail
      go_ret
      exact ⟨by rw [HNO.out]; rfl, HBB.out⟩
    have hL : decide ((2000 : Int) < (l.length : Int)) = false := by simp; omega
    have HLL := Lib.hid (Nat.le_of_not_lt hl)
    clear hl
    go_enter Tryz.func9, Tryz.ntmps9
    go_wp2_with fail
    clear a0 a1 a2 a3 a4 a5 hL hd
    go_loopw [5] (fun v wr => ∃ i : Nat, i ≤ l.length ∧ v = .int .i64 (i : Nat) ∧ (∀ (j : Nat) (h : j < l.length), j < i → lightB f (l[j]'h) = true) ∧ Below (w.heap.size + 1) (w.alloc (.cells #[.int .i64 k, .string (mkB t), .bool n, lv, .slice ao l.length cv0, .int .i64 a] 27)) wr) (fun v _ => l.length - (intOf v).toNat)
    case atStart => exact ⟨0, Nat.zero_le _, rfl, fun j _ h => by omega, Below.refl _ _⟩
    case round =>
      obtain ⟨i, hi, rfl, hall, hbel⟩ := hrel
      have hmx := HLL.out
      have HALL := Lib.hid hall
      have HBL := Lib.hid hbel
      have HBR := Lib.hid (HBB.out.trans (hbel.mono (by omega)))
      have g0 := (row6 ((hbel.block w.heap.size (by omega)).trans HQ0.out)).2.2.2.2.1
      clear hall hbel
      by_cases hin : i < l.length
      · have hii : ((i : Nat) : Int) < ((l.length : Nat) : Int) := by omega
        obtain ⟨b, off, cap, v0, v1, v2, v3, v4, v5, hav, _, _, hly, p0, p1, p2, p3, p4, p5⟩ := row_datum (HW1.out.below HBR.out) (fun j h => (HI1.out j h).keep HBR.out) hin
        simp only [Value.slice.injEq, true_and] at hav
        obtain ⟨rfl, rfl⟩ := hav
        have HY1 := Lib.hid hly
        obtain ⟨_, _, _, e1, _⟩ := hly.open'
        clear hly e1
        go_wp2_with fail
        clear p0 p1 p2 p3 p4 p5 g0
        refine (HIH.out (l[i]'hin) [v0, v1, v2, v3, v4, v5] _ _ HDP.out.1 HDP.out.2.1 HY1.out).mono ?_
        rintro e w3 ⟨rfl, hb3⟩
        have HB3 := Lib.hid (HBL.out.trans (hb3.mono (by have := HBL.out.size; simp at this; omega)))
        clear hb3
        cases hs : lightB f (l[i]'hin) with
        | false =>
          have HNO := Lib.hid (lightB_not (k := k) (t := t) (n := n) (r := r) (a := a) hin hs)
          clear hs
          go_wp2_with fail
          go_ret
          exact ⟨by rw [HNO.out]; rfl, HBB.out.trans (HB3.out.mono (by omega))⟩
        | true =>
          have HS := Lib.hid hs
          clear hs
          go_wp2_with fail
          go_roundw
          case measure => simp only [intOf]; omega
          case rel =>
            refine ⟨i + 1, by omega, by go_num, fun j h hj => ?_, HB3.out⟩
            rcases Nat.lt_or_eq_of_le (Nat.le_of_lt_succ hj) with h2 | h2
            · exact HALL.out j h h2
            · subst h2; exact HS.out
      · obtain rfl : i = l.length := by omega
        have HYES := Lib.hid (lightB_yes (k := k) (t := t) (n := n) (r := r) (a := a) HLL.out fun j h => HALL.out j h h)
        go_wp2_with fail
        go_ret
        exact ⟨by rw [HYES.out]; rfl, HBR.out⟩
set_option maxRecDepth 100000 in
set_option maxHeartbeats 8000000 in
theorem own8_dm : ∀ (m : Nat) (D : Dm), D.sz ≤ m → Lb8 D → ∀ (us : List Value) (w : World), Lay w D us → Calls Tryz.prog 12 #[.agg us.toArray] w (OwnPost D w) := by
  obtain ⟨i0, hi, hz0, hz1, hz2⟩ := info_parts infoU32
  obtain ⟨i1, hi1, hy0, hy1, hy2⟩ := info_parts infoDat
  intro m
  induction m with
  | zero => intro D h; have := Dm.sz_eq D; omega
  | succ m ih =>
    intro D hsz hsm us w h1
    have HIH := Lib.hid ih
    clear ih
    obtain ⟨k, t, n, r, l, a⟩ := D
    have HSZ : Hid (∀ (j : Nat) (h : j < l.length), (l[j]'h).sz ≤ m) := Lib.hid fun j h => by
      have := Dm.sz_mem (d := .mk k t n r l a) (x := l[j]) (List.getElem_mem h)
      omega
    obtain ⟨hs2, hs3, hs4⟩ := hsm.open'
    have HSM := Lib.hid hs4
    obtain ⟨lv, av, xs, rfl, hby, hlt, hlim, hr, hrow1, hin1⟩ := h1.open'
    simp only [Dm.t, Dm.r, Dm.l] at hby hlt hlim hr hrow1 hin1
    simp only [Dm.k, Dm.t, Dm.n, Dm.a]
    have HBY := Lib.hid (And.intro hby (And.intro hlt hlim))
    have HR1 := Lib.hid hr.rowV
    have HI1 := Lib.hid hin1
    have HW1 := Lib.hid hrow1
    obtain ⟨ao, cv0, rfl⟩ : ∃ o c, av = .slice o l.length c := by obtain ⟨_, _, o, c, h, _⟩ := hrow1; exact ⟨o, c, h⟩
    obtain ⟨lo0, lc0, rfl⟩ : ∃ o c, lv = .slice o r.length c := by obtain ⟨_, o, c, h, _⟩ := hr; exact ⟨o, c, h⟩
    clear h1 hby hlt hlim hr hrow1 hin1 hsz hsm hs4
    have hlr : r.length ≤ 35184372087808 := hs2
    have hll : l.length ≤ 2000 := hs3
    clear hs2 hs3
    show Calls Tryz.prog 12 #[.agg #[.int .i64 k, .string (mkB t), .bool n, .slice lo0 r.length lc0, .slice ao l.length cv0, .int .i64 a]] w _
    have hb3 := below3 w (.cells #[.int .i64 k, .string (mkB t), .bool n, .slice lo0 r.length lc0, .slice ao l.length cv0, .int .i64 a] 27) (.cells #[.int .i64 0, .string ⟨#[]⟩, .bool false, .slice none 0 0, .slice none 0 0, .int .i64 0] 27) (.cells #[] 124)
    have hown0 : (((w.alloc (.cells #[.int .i64 k, .string (mkB t), .bool n, .slice lo0 r.length lc0, .slice ao l.length cv0, .int .i64 a] 27)).alloc (.cells #[.int .i64 0, .string ⟨#[]⟩, .bool false, .slice none 0 0, .slice none 0 0, .int .i64 0] 27)).alloc (.cells #[] 124)).ownsRow (w.heap.size + 1 + 1) 124 1 (.slice (some ⟨w.heap.size + 1 + 1, 0, none⟩) 0 0) 0 [] := by
      have := World.ownsRow_made (base := w.heap.size + 1 + 1) (e := 124) (size := 1) ((w.alloc (.cells #[.int .i64 k, .string (mkB t), .bool n, .slice lo0 r.length lc0, .slice ao l.length cv0, .int .i64 a] 27)).alloc (.cells #[.int .i64 0, .string ⟨#[]⟩, .bool false, .slice none 0 0, .slice none 0 0, .int .i64 0] 27)) #[] 0 (by simp) (by simp) (by simp)
      simpa using this
    have HB3 := Lib.hid hb3
    have HX0 : Hid (OwB (((w.alloc (.cells #[.int .i64 k, .string (mkB t), .bool n, .slice lo0 r.length lc0, .slice ao l.length cv0, .int .i64 a] 27)).alloc (.cells #[.int .i64 0, .string ⟨#[]⟩, .bool false, .slice none 0 0, .slice none 0 0, .int .i64 0] 27)).alloc (.cells #[] 124)) w.heap.size k t n (.slice lo0 r.length lc0) (.slice ao l.length cv0) a) := Lib.hid ⟨by
      rw [Below.heap_alloc _ _ _ (by simp; omega), Below.heap_alloc _ _ _ (by simp)]; exact heap_alloc_new w _, by
      rw [Below.heap_alloc _ _ _ (by simp)]
      have := heap_alloc_new (w.alloc (.cells #[.int .i64 k, .string (mkB t), .bool n, .slice lo0 r.length lc0, .slice ao l.length cv0, .int .i64 a] 27)) (.cells #[.int .i64 0, .string ⟨#[]⟩, .bool false, .slice none 0 0, .slice none 0 0, .int .i64 0] 27)
      simpa using this⟩
    have HOW0 := Lib.hid hown0
    have HRV := Lib.hid (HR1.out.below hb3)
    clear hb3 hown0
    go_enter Tryz.func12, Tryz.ntmps12
    go_wp2_with (at_builtin; go_loud (refine wpList_append_row _ rfl _ _ 22 rfl (w.heap.size + 1 + 1) 124 i0 (.int .u32 0) 1 4 Tryz.underlying22 hi hz0 hz1 hz2 rfl (by decide) _ 0 [] rfl HOW0.out _ r.length (r.map fun (x : Nat) => Value.int .u32 (x : Int)) rfl HRV.out (by intro u hu; obtain ⟨_, _, rfl⟩ := List.mem_map.1 hu; rfl) (by unfold maxLen; omega) (by omega) (by simp) ?_); go_loud (intro v' w1 hown1 hgrow hmv; rw [Nat.zero_add, List.nil_append] at hown1; obtain ⟨a', c', rfl⟩ := own_dslice hown1; have HO := Lib.hid hown1; have HG := Lib.hid hgrow; have HZ := Lib.hid (HX0.out.below (w' := w1) (((Below.refl _ _).grown hgrow (by simp) (fun q hq => by cases hq; exact Nat.le_refl _)).mono (Nat.le_refl _))); obtain ⟨c0, c1, c2, c3, c4, c5⟩ := row6 HZ.out.r0; have z3 := frozen_heap HZ.out.r0 3; clear hown1 hgrow hmv HOW0 HX0 HRV))
    have HZ2 := Lib.hid (HZ.out.setL (.slice a' r.length c'))
    have HB2 : Hid (Below w.heap.size w (w1.setCell ⟨w.heap.size, 3, none⟩ (.slice a' r.length c'))) := Lib.hid ((HB3.out.grown HG.out (by simp; omega) (fun q hq => by cases hq; show _ ≤ w.heap.size + 1 + 1; omega)).setCell (by simp) _)
    have HSL2 : Hid (Sl .u32 (w1.setCell ⟨w.heap.size, 3, none⟩ (.slice a' r.length c')) (.slice a' r.length c') r) := Lib.hid (owns_sl (ownsRow_setCell_below HO.out (by simp; omega) _))
    have HIP : Hid (∀ b, (Value.slice a' r.length c').ownBlock = some b → w.heap.size + 2 ≤ b) := Lib.hid fun b hb => (HO.out.lt b hb).1
    clear HO HG HZ c0 c1 c2 c3 c4 c5 z3 hi hz0 hz1 hz2 HB3
    generalize w1.setCell ⟨w.heap.size, 3, none⟩ (.slice a' r.length c') = W2 at *
    go_loopw [3, 4] (fun v i wr => ∃ (j : Nat) (us' : List Value), i = .int .i64 (j : Nat) ∧ j ≤ l.length ∧ wr.ownsRow (w.heap.size + 2) 27 6 v j us' ∧ DmRow (fun b => w.heap.size + 2 ≤ b ∧ v.ownBlock ≠ some b) wr (l.take j) us' ∧ Below (w.heap.size + 2) W2 wr ∧ Sl .u32 wr (.slice a' r.length c') r ∧ InP (fun b => v.ownBlock ≠ some b) r.length (.slice a' r.length c')) (fun _ i _ => l.length - (intOf i).toNat)
    case atStart => exact ⟨0, [], rfl, Nat.zero_le _, World.ownsRow_nil _ _ _ _, DmRow.nil _ _, Below.refl _ _, HSL2.out, fun b _ _ e => by cases e⟩
    case round =>
      obtain ⟨j, us', rfl, hj, hown, hrow, hbel, hsl, hip⟩ := hrel
      obtain ⟨vo, vc, rfl⟩ := own_dslice hown
      have HOW := Lib.hid hown
      have HDR := Lib.hid hrow
      have HBL := Lib.hid hbel
      have HSL := Lib.hid hsl
      have HIN := Lib.hid hip
      have HBR := Lib.hid (HB2.out.trans (hbel.mono (by omega)))
      have HZR := Lib.hid (HZ2.out.below hbel)
      clear hown hrow hbel hsl hip
      obtain ⟨c0, c1, c2, c3, c4, c5⟩ := row6 HZR.out.r0
      by_cases hjl : j < l.length
      · have hii : ((j : Nat) : Int) < ((l.length : Nat) : Int) := by omega
        obtain ⟨b, off, cap, v0, v1, v2, v3, v4, v5, hav, _, _, hly, p0, p1, p2, p3, p4, p5⟩ := row_datum (HW1.out.below HBR.out) (fun j h => (HI1.out j h).keep HBR.out) hjl
        simp only [Value.slice.injEq, true_and] at hav
        obtain ⟨rfl, rfl⟩ := hav
        have HY1 := Lib.hid hly
        obtain ⟨_, _, _, e1, _⟩ := hly.open'
        clear hly e1
        go_wp2_with fail
        clear p0 p1 p2 p3 p4 p5 c0 c1 c2 c3 c4 c5
        refine (HIH.out (l[j]'hjl) (HSZ.out j hjl) (HSM.out j hjl) [v0, v1, v2, v3, v4, v5] _ HY1.out).mono ?_
        rintro e w3 ⟨us3, rfl, hly3, hb3⟩
        have H1 := Lib.hid (one_cells hly3)
        have HL3 := Lib.hid hly3
        obtain ⟨u0, u1, u2, u3, u4, u5, rfl⟩ := dm_cells6 hly3
        have hw3 := hb3.size
        have HB3 := Lib.hid hb3
        have hrow1 := row1 w3 [u0, u1, u2, u3, u4, u5] rfl
        have HR3 := Lib.hid hrow1
        have HB4 := Lib.hid (hb3.trans ((below1 w3 (.cells #[u0, u1, u2, u3, u4, u5] 27)).mono hw3))
        have HO3 := Lib.hid (ownsRow_keep HOW.out (Keeps.of_below (P := fun _ => True) HB4.out) fun _ _ => trivial)
        have hszw := HBL.out.size
        have hszz : w.heap.size + 2 ≤ wr.heap.size := (Array.getElem?_eq_some_iff.1 HZR.out.r1).1
        clear hly3 hb3 hrow1
        go_wp2_with (at_builtin; go_loud (refine wpList_append_row _ rfl _ _ 25 rfl (w.heap.size + 2) 27 i1 (.agg #[.int .i64 0, .string ⟨#[]⟩, .bool false, .slice none 0 0, .slice none 0 0, .int .i64 0]) 6 88 Tryz.underlying25 hi1 hy0 hy1 hy2 rfl (by decide) _ j us' rfl HO3.out _ 1 [u0, u1, u2, u3, u4, u5] rfl HR3.out H1.out (by unfold maxLen; omega) (by omega) (by simp; omega) ?_); go_loud (intro v' w5 hown5 hgrow5 hmv5))
        have HO5 := Lib.hid hown5
        have HG5 := Lib.hid hgrow5
        have HM5 := Lib.hid hmv5
        clear hown5 hgrow5 hmv5
        go_wp2_with fail
        go_roundw
        case measure => simp only [intOf]; omega
        case rel =>
          have hwr3 := HB4.out.size
          have hlt := HOW.out.lt
          refine ⟨j + 1, us' ++ [u0, u1, u2, u3, u4, u5], by go_num, by omega, HO5.out, ?_, ?_, ?_, ?_⟩
          · have h1 := HDR.out.move (Keeps.of_below HB4.out)
            have h2 : LayP (fun b => w.heap.size + 2 ≤ b ∧ (Value.slice vo j vc).ownBlock ≠ some b) (w3.alloc (.cells #[u0, u1, u2, u3, u4, u5] 27)) (l[j]'hjl) [u0, u1, u2, u3, u4, u5] :=
              (HL3.out.move (Keeps.of_below (below1 w3 _))).mono fun b _ hb => ⟨by omega, fun e => by have := (hlt b e).2; omega⟩
            have h3 := h1.appended h2 HG5.out HM5.out
            rw [List.take_add_one, List.getElem?_eq_getElem hjl]
            exact h3
          · exact (HBL.out.trans (HB4.out.mono (by omega))).grown HG5.out (by simp; omega) fun q hq => (HO3.out.lt q hq).1
          · exact (HSL.out.below HB4.out).move HIN.out (Keeps.of_grown HG5.out fun g e hn => hn e)
          · intro b h0 hb e
            have hlv := HSL.out.lt b h0 hb
            rcases HM5.out with h | ⟨b2, h, hge⟩
            · rw [h] at e; exact HIN.out b h0 hb e
            · rw [h] at e
              injection e with e
              simp only [World.size_alloc] at hge
              omega
      · obtain rfl : j = l.length := by omega
        obtain ⟨d0, d1, d2, d3, d4, d5⟩ := row6 HZR.out.r1
        have y0 := frozen_heap HZR.out.r1 0
        have y1 := frozen_heap HZR.out.r1 1
        have y2 := frozen_heap HZR.out.r1 2
        have y3 := frozen_heap HZR.out.r1 3
        have y4 := frozen_heap HZR.out.r1 4
        have y5 := frozen_heap HZR.out.r1 5
        have z4 := frozen_heap HZR.out.r0 4
        go_wp2_with fail
        obtain ⟨hrow, hk⟩ := DB.fill (W := wr.setCell ⟨w.heap.size, 4, none⟩ (.slice vo l.length vc)) (g := w.heap.size + 1) (HZR.out.setA (.slice vo l.length vc)).r1 (.int .i64 k) (.string (mkB t)) (.bool n) (.slice a' r.length c') (.slice vo l.length vc) (.int .i64 a)
        clear c0 c1 c2 c3 c4 c5 d0 d1 d2 d3 d4 d5 y0 y1 y2 y3 y4 y5 z4
        have hkp : Keeps (fun b => w.heap.size + 2 ≤ b) wr (((((((wr.setCell ⟨w.heap.size, 4, none⟩ (.slice vo l.length vc)).setCell ⟨w.heap.size + 1, 0, none⟩ (.int .i64 k)).setCell ⟨w.heap.size + 1, 1, none⟩ (.string (mkB t))).setCell ⟨w.heap.size + 1, 2, none⟩ (.bool n)).setCell ⟨w.heap.size + 1, 3, none⟩ (.slice a' r.length c')).setCell ⟨w.heap.size + 1, 4, none⟩ (.slice vo l.length vc)).setCell ⟨w.heap.size + 1, 5, none⟩ (.int .i64 a)) :=
          (((((((Keeps.refl _ wr).set (by simp) _).set (by simp) _).set (by simp) _).set (by simp) _).set (by simp) _).set (by simp) _).set (by simp) _
        have hbf : Below w.heap.size w (((((((wr.setCell ⟨w.heap.size, 4, none⟩ (.slice vo l.length vc)).setCell ⟨w.heap.size + 1, 0, none⟩ (.int .i64 k)).setCell ⟨w.heap.size + 1, 1, none⟩ (.string (mkB t))).setCell ⟨w.heap.size + 1, 2, none⟩ (.bool n)).setCell ⟨w.heap.size + 1, 3, none⟩ (.slice a' r.length c')).setCell ⟨w.heap.size + 1, 4, none⟩ (.slice vo l.length vc)).setCell ⟨w.heap.size + 1, 5, none⟩ (.int .i64 a)) :=
          (((((((HBR.out).setCell (by simp) _).setCell (by simp) _).setCell (by simp) _).setCell (by simp) _).setCell (by simp) _).setCell (by simp) _).setCell (by simp) _
        generalize World.setCell _ ⟨w.heap.size + 1, 5, none⟩ (.int .i64 a) = W9 at *
        obtain ⟨d0, d1, d2, d3, d4, d5⟩ := row6 hrow
        refine bodyPost_ret (v := .agg #[.int .i64 k, .string (mkB t), .bool n, .slice a' r.length c', .slice vo l.length vc, .int .i64 a]) (by simp [results, Tryz.results12, go_sem, d0, d1, d2, d3, d4, d5]) rfl ?_
        have hown9 := ownsRow_keep HOW.out hkp fun b hb => (HOW.out.lt b hb).1
        have hrow9 := (HDR.out.mono fun b _ hb => hb.1).move hkp
        rw [List.take_length] at hrow9
        exact ⟨_, rfl, .mk HBY.out.1 HBY.out.2.1 HBY.out.2.2 ((HSL.out).move (fun b h0 hb => HIP.out b hb) hkp) (fun b _ hb => by have := HIP.out b hb; omega) (RowV.of_own hown9) (fun b _ hb => by have := (HOW.out.lt b hb).1; omega) (fun i hi => (hrow9.each i hi).mono fun b _ hb => by omega), hbf⟩
end Go.Proofs.YtocladhggcaokaaGreatDoor
