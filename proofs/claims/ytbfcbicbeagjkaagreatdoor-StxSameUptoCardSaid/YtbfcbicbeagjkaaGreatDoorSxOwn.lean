/- x -/
import Derived.Test.YtbfcbicbeagjkaaGreatDoorSxP
import Derived.Deep.Cut
namespace Go.Proofs.YtbfcbicbeagjkaaGreatDoor
open Go.RowKit
theorem infoS4 : (Tryz.prog.info? 140).map (fun i => (i.zero, i.size, i.bytes)) = some (some (.int .u32 0), 1, 4) := by kernel_rfl
theorem infoS8 : (Tryz.prog.info? 3).map (fun i => (i.zero, i.size, i.bytes)) = some (some (.int .i64 0), 1, 8) := by kernel_rfl
inductive LrS : Sx → Prop
 | mk {k : Int} {t : ByteArray} {n : Bool} {r : List Nat} {l : List Sx} {a : Int} {m s : List Int} (hr : r.length ≤ 35184372087808) (hin : ∀ (i : Nat) (h : i < l.length), LrS (l[i]'h)) : LrS (.mk k t n r l a m s)
structure R3 (P : Nat → Prop) (w : World) (lv mv sv : Value) (r : List Nat) (m s : List Int) : Prop where
 hr : RowV w lv r.length 1 (ucs r)
 pr : InP P r.length lv
 hm : RowV w mv m.length 1 (ics .i64 m)
 pm : InP P m.length mv
 hs : RowV w sv s.length 1 (ics .i64 s)
 ps : InP P s.length sv
theorem R3.move {P : Nat → Prop} {w w' : World} {lv mv sv : Value} {r : List Nat} {m s : List Int} (h : R3 P w lv mv sv r m s) (hk : Keeps P w w') : R3 P w' lv mv sv r m s := ⟨h.hr.move h.pr hk, h.pr, h.hm.move h.pm hk, h.pm, h.hs.move h.ps hk, h.ps⟩
theorem R3.mono {P Q : Nat → Prop} {w : World} {lv mv sv : Value} {r : List Nat} {m s : List Int} (h : R3 P w lv mv sv r m s) (hq : ∀ b, b < w.heap.size → P b → Q b) : R3 Q w lv mv sv r m s := ⟨h.hr, h.pr.mono h.hr.lt hq, h.hm, h.pm.mono h.hm.lt hq, h.hs, h.ps.mono h.hs.lt hq⟩
theorem R3.appended {P : Nat → Prop} {w w' : World} {v v' : Value} {lv mv sv : Value} {r : List Nat} {m s : List Int} (h : R3 (fun b => P b ∧ v.ownBlock ≠ some b) w lv mv sv r m s) (hg : w.grownBy w' v.ownBlock) (hm : MovedTo w v v') : R3 (fun b => P b ∧ v'.ownBlock ≠ some b) w' lv mv sv r m s := by
 have hk : Keeps (fun b => P b ∧ v.ownBlock ≠ some b) w w' := (Keeps.of_grown (P := fun b => v.ownBlock ≠ some b) hg fun g e hn => hn e).mono fun b _ h => h.2
 have hs := hg.size
 have hq : ∀ b, b < w.heap.size → (P b ∧ v.ownBlock ≠ some b) → (P b ∧ v.ownBlock ≠ some b) ∧ v'.ownBlock ≠ some b := fun b hb hp => ⟨hp, fun e => by
  rcases hm with e2 | ⟨b2, e2, hge⟩
  . rw [e2] at e; exact hp.2 e
  . rw [e2] at e; injection e with e; omega⟩
 have hk2 : Keeps (fun b => (P b ∧ v.ownBlock ≠ some b) ∧ v'.ownBlock ≠ some b) w w' := hk.mono fun b _ h => h.1
 exact ((h.mono hq).move hk2).mono fun b _ hp => ⟨hp.1.1, hp.2⟩
theorem emp_row (w : World) (e : TypeId) : (w.alloc (.cells #[] e)).ownsRow w.heap.size e 1 (.slice (some ⟨w.heap.size, 0, none⟩) 0 0) 0 [] := ⟨rfl, .inr ⟨w.heap.size, 0, #[], rfl, Nat.le_refl _, heap_alloc_new w _, Nat.le_refl _, Nat.zero_le _, rfl, rfl⟩⟩
inductive OwK : Sx → Prop
 | mk {k : Int} {t : ByteArray} {n : Bool} {r : List Nat} {l : List Sx} {a : Int} {m s : List Int} (hl : l.length ≤ 1100000) (hm : m.length ≤ 1100000) (hs : s.length ≤ 1100000) (hr : r.length ≤ 35184372087808) (hin : ∀ (i : Nat) (h : i < l.length), OwK (l[i]'h)) : OwK (.mk k t n r l a m s)
set_option maxRecDepth 100000 in
set_option maxHeartbeats 8000000 in
theorem own_sxK : ∀ (D : Sx), OwK D → ∀ (us : List Value) (w : World), SLay w D us → Calls Tryz.prog 24 #[.agg us.toArray] w (OwnSPost D w) := by
 obtain ⟨i4, hi4, hz40, hz41, hz42⟩ := info_parts infoS4
 obtain ⟨i8, hi8, hz80, hz81, hz82⟩ := info_parts infoS8
 obtain ⟨i1, hi1, hy0, hy1, hy2⟩ := info_parts infoSx
 intro D hD
 induction hD with
 | @mk k t n r l a m s hl1 hl2 hl3 hr1 hr2 ih =>
  intro us w h1
  have HIH := Lib.hid ih
  clear ih
  obtain ⟨lv, av, mv, sv, xs, rfl, hts, hlim, hrr, hrow1, hrm, hrs, hin1⟩ := h1.open'
  simp only [Sx.k, Sx.t, Sx.n, Sx.r, Sx.l, Sx.a, Sx.m, Sx.s] at hts hlim hrr hrow1 hrm hrs hin1 ⊢
  have HTL := Lib.hid (And.intro hts hlim)
  clear hr2
  have HI1 := Lib.hid hin1
  have HW1 := Lib.hid hrow1
  have HRR := Lib.hid hrr
  have HRM := Lib.hid hrm
  have HRS := Lib.hid hrs
  obtain ⟨ao, cv0, rfl⟩ : ∃ o c, av = .slice o l.length c := by obtain ⟨_, _, o, c, h, _⟩ := hrow1; exact ⟨o, c, h⟩
  obtain ⟨lo0, lc0, rfl⟩ : ∃ o c, lv = .slice o r.length c := by obtain ⟨_, _, o, c, h, _⟩ := hrr; exact ⟨o, c, h⟩
  obtain ⟨mo, mc, rfl⟩ : ∃ o c, mv = .slice o m.length c := by obtain ⟨_, _, o, c, h, _⟩ := hrm; exact ⟨o, c, h⟩
  obtain ⟨so, sc, rfl⟩ : ∃ o c, sv = .slice o s.length c := by obtain ⟨_, _, o, c, h, _⟩ := hrs; exact ⟨o, c, h⟩
  clear h1 hts hlim hrr hrow1 hrm hrs hin1
  have HLN := Lib.hid (And.intro hl1 (And.intro hl2 (And.intro hl3 hr1)))
  clear hl1 hl2 hl3 hr1
  show Calls Tryz.prog 24 #[.agg #[.int .i64 k, .string t, .bool n, .slice lo0 r.length lc0, .slice ao l.length cv0, .int .i64 a, .slice mo m.length mc, .slice so s.length sc]] w _
  go_enter Tryz.func24, Tryz.ntmps24
  obtain ⟨W1, hW1⟩ : ∃ W1, W1 = (w.alloc (.cells #[.int .i64 k, .string t, .bool n, .slice lo0 r.length lc0, .slice ao l.length cv0, .int .i64 a, .slice mo m.length mc, .slice so s.length sc] 35)).alloc (.cells #[.int .i64 0, .string ⟨#[]⟩, .bool false, .slice none 0 0, .slice none 0 0, .int .i64 0, .slice none 0 0, .slice none 0 0] 35) := ⟨_, rfl⟩
  have HB1 : Hid (Below w.heap.size w W1) := Lib.hid (by rw [hW1]; exact below2 w _ _)
  have HZ1 : Hid (OwS W1 w.heap.size k t n (.slice lo0 r.length lc0) (.slice ao l.length cv0) a (.slice mo m.length mc) (.slice so s.length sc)) := Lib.hid (by
   rw [hW1]
   exact ⟨by rw [Below.heap_alloc _ _ _ (by simp)]; exact heap_alloc_new w _, by
    have := heap_alloc_new (w.alloc (.cells #[.int .i64 k, .string t, .bool n, .slice lo0 r.length lc0, .slice ao l.length cv0, .int .i64 a, .slice mo m.length mc, .slice so s.length sc] 35)) (.cells #[.int .i64 0, .string ⟨#[]⟩, .bool false, .slice none 0 0, .slice none 0 0, .int .i64 0, .slice none 0 0, .slice none 0 0] 35)
    simpa using this⟩)
  have HS1 : Hid (W1.heap.size = w.heap.size + 2) := Lib.hid (by rw [hW1]; simp)
  go_upto_region 1 with fail
  rw [← hW1]
  clear hW1
  obtain ⟨c0, c1, c2, c3, c4, c5, c6, c7⟩ := rowS8 (HZ1.out.below (below1 W1 (.cells #[] 140) |>.mono (by have := HS1.out; omega))).r0
  have z3 := frozen_heap (HZ1.out.below (below1 W1 (.cells #[] 140) |>.mono (by have := HS1.out; omega))).r0 3
  have HRV : Hid (RowV (W1.alloc (.cells #[] 140)) (.slice lo0 r.length lc0) r.length 1 (ucs r)) := Lib.hid (HRR.out.below (HB1.out.trans ((below1 W1 _).mono (by have := HS1.out; omega))))
  go_upto_region 2 with (at_builtin; go_loud (refine wpList_append_row _ rfl _ _ 22 rfl W1.heap.size 140 i4 (.int .u32 0) 1 4 Tryz.underlying22 hi4 hz40 hz41 hz42 rfl (by decide) _ 0 [] rfl (emp_row W1 140) _ r.length (ucs r) rfl HRV.out (by intro u hu; obtain ⟨_, _, rfl⟩ := List.mem_map.1 hu; rfl) (by unfold maxLen; have := HLN.out; omega) (by have := HLN.out; omega) (by simp) ?_); go_loud (intro v' w1 hown1 hgrow hmv; rw [Nat.zero_add, List.nil_append] at hown1; obtain ⟨a2, d2, rfl⟩ := own_dslice hown1; have HO := Lib.hid hown1; have HG := Lib.hid hgrow; have HBG : Hid (Below W1.heap.size W1 w1) := Lib.hid ((below1 W1 _).grown hgrow (by simp) (fun q hq => by cases hq; exact Nat.le_refl _)); have HZ := Lib.hid (HZ1.out.below (HBG.out.mono (by have := HS1.out; omega))); obtain ⟨c0, c1, c2, c3, c4, c5, c6, c7⟩ := rowS8 HZ.out.r0; have z3 := frozen_heap HZ.out.r0 3; clear hown1 hgrow hmv))
  have HZ2 := Lib.hid (HZ.out.setL (.slice a2 r.length d2))
  have HB2 : Hid (Below w.heap.size w (w1.setCell ⟨w.heap.size, 3, none⟩ (.slice a2 r.length d2))) := Lib.hid ((HB1.out.trans (HBG.out.mono (by have := HS1.out; omega))).setCell (by simp) _)
  have HS2 : Hid (w.heap.size + 2 ≤ (w1.setCell ⟨w.heap.size, 3, none⟩ (.slice a2 r.length d2)).heap.size) := Lib.hid (by have h1 := HS1.out; have h2 := HBG.out.size; simp; omega)
  have HK2 : Hid (Keeps (fun b => w.heap.size + 2 ≤ b) W1 (w1.setCell ⟨w.heap.size, 3, none⟩ (.slice a2 r.length d2))) := Lib.hid ((Keeps.of_below HBG.out).set (by simp) _)
  have HV2 : Hid (RowV (w1.setCell ⟨w.heap.size, 3, none⟩ (.slice a2 r.length d2)) (.slice a2 r.length d2) r.length 1 (ucs r)) := Lib.hid (RowV.of_own (ownsRow_setCell_below HO.out (by have := HS1.out; simp; omega) _))
  have HP2 : Hid (InP (fun b => w.heap.size + 2 ≤ b) r.length (.slice a2 r.length d2)) := Lib.hid fun b _ hb => by have h1 := (HO.out.lt b hb).1; have h2 := HS1.out; omega
  clear HO HG HBG HZ HRV c0 c1 c2 c3 c4 c5 c6 c7 z3
  generalize w1.setCell ⟨w.heap.size, 3, none⟩ (.slice a2 r.length d2) = W2 at *
  obtain ⟨c0, c1, c2, c3, c4, c5, c6, c7⟩ := rowS8 (HZ2.out.below (below1 W2 (.cells #[] 3) |>.mono (by have := HS2.out; omega))).r0
  have z6 := frozen_heap (HZ2.out.below (below1 W2 (.cells #[] 3) |>.mono (by have := HS2.out; omega))).r0 6
  have HRV : Hid (RowV (W2.alloc (.cells #[] 3)) (.slice mo m.length mc) m.length 1 (ics .i64 m)) := Lib.hid (HRM.out.below (HB2.out.trans ((below1 W2 _).mono (by have := HS2.out; omega))))
  go_upto_region 3 with (at_builtin; go_loud (refine wpList_append_row _ rfl _ _ 28 rfl W2.heap.size 3 i8 (.int .i64 0) 1 8 Tryz.underlying28 hi8 hz80 hz81 hz82 rfl (by decide) _ 0 [] rfl (emp_row W2 3) _ m.length (ics .i64 m) rfl HRV.out (by intro u hu; obtain ⟨_, _, rfl⟩ := List.mem_map.1 hu; rfl) (by unfold maxLen; have := HLN.out; omega) (by have := HLN.out; omega) (by simp) ?_); go_loud (intro v' w1 hown1 hgrow hmv; rw [Nat.zero_add, List.nil_append] at hown1; obtain ⟨a3, d3, rfl⟩ := own_dslice hown1; have HO := Lib.hid hown1; have HG := Lib.hid hgrow; have HBG : Hid (Below W2.heap.size W2 w1) := Lib.hid ((below1 W2 _).grown hgrow (by simp) (fun q hq => by cases hq; exact Nat.le_refl _)); have HZ := Lib.hid (HZ2.out.below (HBG.out.mono (by have := HS2.out; omega))); obtain ⟨c0, c1, c2, c3, c4, c5, c6, c7⟩ := rowS8 HZ.out.r0; have z6 := frozen_heap HZ.out.r0 6; clear hown1 hgrow hmv))
  have HZ3 := Lib.hid (HZ.out.setM (.slice a3 m.length d3))
  have HB3 : Hid (Below w.heap.size w (w1.setCell ⟨w.heap.size, 6, none⟩ (.slice a3 m.length d3))) := Lib.hid ((HB2.out.trans (HBG.out.mono (by have := HS2.out; omega))).setCell (by simp) _)
  have HS3 : Hid (w.heap.size + 2 ≤ (w1.setCell ⟨w.heap.size, 6, none⟩ (.slice a3 m.length d3)).heap.size) := Lib.hid (by have h1 := HS2.out; have h2 := HBG.out.size; simp; omega)
  have HK3 : Hid (Keeps (fun b => w.heap.size + 2 ≤ b) W2 (w1.setCell ⟨w.heap.size, 6, none⟩ (.slice a3 m.length d3))) := Lib.hid ((Keeps.of_below HBG.out).set (by simp) _)
  have HV3 : Hid (RowV (w1.setCell ⟨w.heap.size, 6, none⟩ (.slice a3 m.length d3)) (.slice a3 m.length d3) m.length 1 (ics .i64 m)) := Lib.hid (RowV.of_own (ownsRow_setCell_below HO.out (by have := HS2.out; simp; omega) _))
  have HP3 : Hid (InP (fun b => w.heap.size + 2 ≤ b) m.length (.slice a3 m.length d3)) := Lib.hid fun b _ hb => by have h1 := (HO.out.lt b hb).1; have h2 := HS2.out; omega
  clear HO HG HBG HZ HRV c0 c1 c2 c3 c4 c5 c6 c7 z6
  generalize w1.setCell ⟨w.heap.size, 6, none⟩ (.slice a3 m.length d3) = W3 at *
  obtain ⟨c0, c1, c2, c3, c4, c5, c6, c7⟩ := rowS8 (HZ3.out.below (below1 W3 (.cells #[] 3) |>.mono (by have := HS3.out; omega))).r0
  have z7 := frozen_heap (HZ3.out.below (below1 W3 (.cells #[] 3) |>.mono (by have := HS3.out; omega))).r0 7
  have HRV : Hid (RowV (W3.alloc (.cells #[] 3)) (.slice so s.length sc) s.length 1 (ics .i64 s)) := Lib.hid (HRS.out.below (HB3.out.trans ((below1 W3 _).mono (by have := HS3.out; omega))))
  go_upto_region 4 with (at_builtin; go_loud (refine wpList_append_row _ rfl _ _ 28 rfl W3.heap.size 3 i8 (.int .i64 0) 1 8 Tryz.underlying28 hi8 hz80 hz81 hz82 rfl (by decide) _ 0 [] rfl (emp_row W3 3) _ s.length (ics .i64 s) rfl HRV.out (by intro u hu; obtain ⟨_, _, rfl⟩ := List.mem_map.1 hu; rfl) (by unfold maxLen; have := HLN.out; omega) (by have := HLN.out; omega) (by simp) ?_); go_loud (intro v' w1 hown1 hgrow hmv; rw [Nat.zero_add, List.nil_append] at hown1; obtain ⟨a4, d4, rfl⟩ := own_dslice hown1; have HO := Lib.hid hown1; have HG := Lib.hid hgrow; have HBG : Hid (Below W3.heap.size W3 w1) := Lib.hid ((below1 W3 _).grown hgrow (by simp) (fun q hq => by cases hq; exact Nat.le_refl _)); have HZ := Lib.hid (HZ3.out.below (HBG.out.mono (by have := HS3.out; omega))); obtain ⟨c0, c1, c2, c3, c4, c5, c6, c7⟩ := rowS8 HZ.out.r0; have z7 := frozen_heap HZ.out.r0 7; clear hown1 hgrow hmv))
  have HZ4 := Lib.hid (HZ.out.setS (.slice a4 s.length d4))
  have HB4 : Hid (Below w.heap.size w (w1.setCell ⟨w.heap.size, 7, none⟩ (.slice a4 s.length d4))) := Lib.hid ((HB3.out.trans (HBG.out.mono (by have := HS3.out; omega))).setCell (by simp) _)
  have HS4 : Hid (w.heap.size + 2 ≤ (w1.setCell ⟨w.heap.size, 7, none⟩ (.slice a4 s.length d4)).heap.size) := Lib.hid (by have h1 := HS3.out; have h2 := HBG.out.size; simp; omega)
  have HK4 : Hid (Keeps (fun b => w.heap.size + 2 ≤ b) W3 (w1.setCell ⟨w.heap.size, 7, none⟩ (.slice a4 s.length d4))) := Lib.hid ((Keeps.of_below HBG.out).set (by simp) _)
  have HV4 : Hid (RowV (w1.setCell ⟨w.heap.size, 7, none⟩ (.slice a4 s.length d4)) (.slice a4 s.length d4) s.length 1 (ics .i64 s)) := Lib.hid (RowV.of_own (ownsRow_setCell_below HO.out (by have := HS3.out; simp; omega) _))
  have HP4 : Hid (InP (fun b => w.heap.size + 2 ≤ b) s.length (.slice a4 s.length d4)) := Lib.hid fun b _ hb => by have h1 := (HO.out.lt b hb).1; have h2 := HS3.out; omega
  clear HO HG HBG HZ HRV c0 c1 c2 c3 c4 c5 c6 c7 z7
  generalize w1.setCell ⟨w.heap.size, 7, none⟩ (.slice a4 s.length d4) = W4 at *
  have HR4 : Hid (R3 (fun b => w.heap.size + 2 ≤ b) W4 (.slice a2 r.length d2) (.slice a3 m.length d3) (.slice a4 s.length d4) r m s) := Lib.hid ⟨(HV2.out.move HP2.out HK3.out).move HP2.out HK4.out, HP2.out, HV3.out.move HP3.out HK4.out, HP3.out, HV4.out, HP4.out⟩
  clear HV2 HV3 HV4 HP2 HP3 HP4 HK2 HK3 HK4 HB1 HB2 HB3 HZ1 HZ2 HZ3 HS1 HS2 HS3 HRR HRM HRS hi4 hz40 hz41 hz42 hi8 hz80 hz81 hz82
  have HLN2 := Lib.hid HLN.out.1
  clear HLN
  go_wp2_with fail
  go_loopw [3, 4] (fun v i wr => ∃ (j : Nat) (us' : List Value), i = .int .i64 (j : Nat) ∧ j ≤ l.length ∧ wr.ownsRow (w.heap.size + 2) 35 8 v j us' ∧ SxRow (fun b => w.heap.size + 2 ≤ b ∧ v.ownBlock ≠ some b) wr (l.take j) us' ∧ Below (w.heap.size + 2) W4 wr ∧ R3 (fun b => w.heap.size + 2 ≤ b ∧ v.ownBlock ≠ some b) wr (.slice a2 r.length d2) (.slice a3 m.length d3) (.slice a4 s.length d4) r m s) (fun _ i _ => l.length - (intOf i).toNat)
  case atStart => exact ⟨0, [], rfl, Nat.zero_le _, World.ownsRow_nil _ _ _ _, SxRow.nil _ _, Below.refl _ _, HR4.out.mono fun b _ h => ⟨h, fun e => by cases e⟩⟩
  case round =>
   obtain ⟨j, us', rfl, hj, hown, hrow, hbel, hr3⟩ := hrel
   obtain ⟨vo, vc, rfl⟩ := own_dslice hown
   have HOW := Lib.hid hown
   have HDR := Lib.hid hrow
   have HBL := Lib.hid hbel
   have H3 := Lib.hid hr3
   have HBR := Lib.hid (HB4.out.trans (hbel.mono (by omega)))
   have HZR := Lib.hid (HZ4.out.below hbel)
   clear hown hrow hbel hr3
   obtain ⟨c0, c1, c2, c3, c4, c5, c6, c7⟩ := rowS8 HZR.out.r0
   have hll := HLN2.out
   by_cases hjl : j < l.length
   . have hii : ((j : Nat) : Int) < ((l.length : Nat) : Int) := by omega
     obtain ⟨b, off, cap, v0, v1, v2, v3, v4, v5, v6, v7, hav, _, _, hly, p0, p1, p2, p3, p4, p5, p6, p7⟩ := row_sx (HW1.out.below HBR.out) (fun j h => (HI1.out j h).keep HBR.out) hjl
     simp only [Value.slice.injEq, true_and] at hav
     obtain ⟨rfl, rfl⟩ := hav
     have HY1 := Lib.hid hly
     clear hly
     go_wp2_with fail
     clear p0 p1 p2 p3 p4 p5 p6 p7 c0 c1 c2 c3 c4 c5 c6 c7
     refine (HIH.out j hjl [v0, v1, v2, v3, v4, v5, v6, v7] _ HY1.out).mono ?_
     rintro e w3 ⟨us3, rfl, hly3, hb3⟩
     have H1 := Lib.hid (one_cellsS hly3)
     have HL3 := Lib.hid hly3
     obtain ⟨u0, u1, u2, u3, u4, u5, u6, u7, rfl⟩ := sx_cells8 hly3
     have hw3 := hb3.size
     have HB3 := Lib.hid hb3
     have hrow1 := rowS1 w3 [u0, u1, u2, u3, u4, u5, u6, u7] rfl
     have HRX := Lib.hid hrow1
     have HBX := Lib.hid (hb3.trans ((below1 w3 (.cells #[u0, u1, u2, u3, u4, u5, u6, u7] 35)).mono hw3))
     have HO3 := Lib.hid (ownsRow_keep HOW.out (Keeps.of_below (P := fun _ => True) HBX.out) fun _ _ => trivial)
     have hszw := HBL.out.size
     have hszz : w.heap.size + 2 ≤ wr.heap.size := (Array.getElem?_eq_some_iff.1 HZR.out.r1).1
     clear hly3 hb3 hrow1
     go_wp2_with (at_builtin; go_loud (refine wpList_append_row _ rfl _ _ 33 rfl (w.heap.size + 2) 35 i1 (.agg #[.int .i64 0, .string ⟨#[]⟩, .bool false, .slice none 0 0, .slice none 0 0, .int .i64 0, .slice none 0 0, .slice none 0 0]) 8 136 Tryz.underlying33 hi1 hy0 hy1 hy2 rfl (by decide) _ j us' rfl HO3.out _ 1 [u0, u1, u2, u3, u4, u5, u6, u7] rfl HRX.out H1.out (by unfold maxLen; omega) (by omega) (by simp; omega) ?_); go_loud (intro v' w5 hown5 hgrow5 hmv5))
     have HO5 := Lib.hid hown5
     have HG5 := Lib.hid hgrow5
     have HM5 := Lib.hid hmv5
     clear hown5 hgrow5 hmv5
     go_wp2_with fail
     go_roundw
     case measure => simp only [intOf]; omega
     case rel =>
      have hwr3 := HBX.out.size
      have hlt := HOW.out.lt
      refine ⟨j + 1, us' ++ [u0, u1, u2, u3, u4, u5, u6, u7], by go_num, by omega, HO5.out, ?_, ?_, ?_⟩
      . have h1 := HDR.out.move (Keeps.of_below HBX.out)
        have h2 : SLayP (fun b => w.heap.size + 2 ≤ b ∧ (Value.slice vo j vc).ownBlock ≠ some b) (w3.alloc (.cells #[u0, u1, u2, u3, u4, u5, u6, u7] 35)) (l[j]'hjl) [u0, u1, u2, u3, u4, u5, u6, u7] :=
         (HL3.out.move (Keeps.of_below (below1 w3 _))).mono fun b _ hb => ⟨by omega, fun e => by have := (hlt b e).2; omega⟩
        have h3 := h1.appended h2 HG5.out HM5.out
        rw [List.take_add_one, List.getElem?_eq_getElem hjl]
        exact h3
      . exact (HBL.out.trans (HBX.out.mono (by omega))).grown HG5.out (by simp; omega) fun q hq => (HO3.out.lt q hq).1
      . exact (H3.out.move (Keeps.of_below HBX.out)).appended HG5.out HM5.out
   . obtain rfl : j = l.length := by omega
     obtain ⟨g0, g1, g2, g3, g4, g5, g6, g7⟩ := rowS8 HZR.out.r1
     have y0 := frozen_heap HZR.out.r1 0
     have y1 := frozen_heap HZR.out.r1 1
     have y2 := frozen_heap HZR.out.r1 2
     have y3 := frozen_heap HZR.out.r1 3
     have y4 := frozen_heap HZR.out.r1 4
     have y5 := frozen_heap HZR.out.r1 5
     have y6 := frozen_heap HZR.out.r1 6
     have y7 := frozen_heap HZR.out.r1 7
     have z4 := frozen_heap HZR.out.r0 4
     go_wp2_with fail
     have hrow := fillS (W := wr.setCell ⟨w.heap.size, 4, none⟩ (.slice vo l.length vc)) (g := w.heap.size + 1) (HZR.out.setA (.slice vo l.length vc)).r1 (.int .i64 k) (.string t) (.bool n) (.slice a2 r.length d2) (.slice vo l.length vc) (.int .i64 a) (.slice a3 m.length d3) (.slice a4 s.length d4)
     clear c0 c1 c2 c3 c4 c5 c6 c7 g0 g1 g2 g3 g4 g5 g6 g7 y0 y1 y2 y3 y4 y5 y6 y7 z4
     have hkp : Keeps (fun b => w.heap.size + 2 ≤ b) wr (((((((((wr.setCell ⟨w.heap.size, 4, none⟩ (.slice vo l.length vc)).setCell ⟨w.heap.size + 1, 0, none⟩ (.int .i64 k)).setCell ⟨w.heap.size + 1, 1, none⟩ (.string t)).setCell ⟨w.heap.size + 1, 2, none⟩ (.bool n)).setCell ⟨w.heap.size + 1, 3, none⟩ (.slice a2 r.length d2)).setCell ⟨w.heap.size + 1, 4, none⟩ (.slice vo l.length vc)).setCell ⟨w.heap.size + 1, 5, none⟩ (.int .i64 a)).setCell ⟨w.heap.size + 1, 6, none⟩ (.slice a3 m.length d3)).setCell ⟨w.heap.size + 1, 7, none⟩ (.slice a4 s.length d4)) :=
      (((((((((Keeps.refl _ wr).set (by simp) _).set (by simp) _).set (by simp) _).set (by simp) _).set (by simp) _).set (by simp) _).set (by simp) _).set (by simp) _).set (by simp) _
     have hbf : Below w.heap.size w (((((((((wr.setCell ⟨w.heap.size, 4, none⟩ (.slice vo l.length vc)).setCell ⟨w.heap.size + 1, 0, none⟩ (.int .i64 k)).setCell ⟨w.heap.size + 1, 1, none⟩ (.string t)).setCell ⟨w.heap.size + 1, 2, none⟩ (.bool n)).setCell ⟨w.heap.size + 1, 3, none⟩ (.slice a2 r.length d2)).setCell ⟨w.heap.size + 1, 4, none⟩ (.slice vo l.length vc)).setCell ⟨w.heap.size + 1, 5, none⟩ (.int .i64 a)).setCell ⟨w.heap.size + 1, 6, none⟩ (.slice a3 m.length d3)).setCell ⟨w.heap.size + 1, 7, none⟩ (.slice a4 s.length d4)) :=
      (((((((((HBR.out).setCell (by simp) _).setCell (by simp) _).setCell (by simp) _).setCell (by simp) _).setCell (by simp) _).setCell (by simp) _).setCell (by simp) _).setCell (by simp) _).setCell (by simp) _
     generalize World.setCell _ ⟨w.heap.size + 1, 7, none⟩ (.slice a4 s.length d4) = W9 at *
     obtain ⟨g0, g1, g2, g3, g4, g5, g6, g7⟩ := rowS8 hrow
     refine bodyPost_ret (v := .agg #[.int .i64 k, .string t, .bool n, .slice a2 r.length d2, .slice vo l.length vc, .int .i64 a, .slice a3 m.length d3, .slice a4 s.length d4]) (by simp [results, Tryz.results24, go_sem, g0, g1, g2, g3, g4, g5, g6, g7]) rfl ?_
     have hown9 := ownsRow_keep HOW.out hkp fun b hb => (HOW.out.lt b hb).1
     have hrow9 := (HDR.out.mono fun b _ hb => hb.1).move hkp
     rw [List.take_length] at hrow9
     have h39 := ((H3.out.mono fun b _ hb => hb.1).move hkp).mono (Q := fun b => w.heap.size ≤ b) fun b _ hb => by omega
     exact ⟨_, rfl, .mk HTL.out.1 HTL.out.2 h39.hr h39.pr (RowV.of_own hown9) (fun b _ hb => by have := (HOW.out.lt b hb).1; omega) h39.hm h39.pm h39.hs h39.ps (fun i hi => (hrow9.each i hi).mono fun b _ hb => by omega), hbf⟩
end Go.Proofs.YtbfcbicbeagjkaaGreatDoor
