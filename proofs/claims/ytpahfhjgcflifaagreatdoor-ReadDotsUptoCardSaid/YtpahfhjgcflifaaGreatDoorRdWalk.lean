/- The reader, walked: top, lacks, full, push, pop. | The reader, walked: push, pop. | The reader, walked: pop. | The reader, walked: joined, abbreviated. | The reader, walked: abbreviated, datum. -/
import Derived.Test.YtpahfhjgcflifaaGreatDoorRdMem
import Derived.Test.YtpahfhjgcflifaaGreatDoorRdLight
import Derived.Deep.QuietTactic
import Derived.BigQuiet
import Derived.Deep.AppendLies
import Derived.Deep.RegionHeld3
namespace Go.Proofs.YtpahfhjgcflifaaGreatDoor
open Go.RowKit

/-- The reader's box. -/
def RB (w : World) (g : Nat) (depth deep count : Nat) (ov : Value) : Prop := w.heap[g]? = some (.cells #[.int .i64 (depth : Nat), .int .i64 (deep : Nat), .int .i64 (count : Nat), ov] 66 (0, 0))
theorem RB.lt {w : World} {g depth deep count : Nat} {ov : Value} (h : RB w g depth deep count ov) : g < w.heap.size := (Array.getElem?_eq_some_iff.1 h).1
theorem RB.facts {w : World} {g depth deep count : Nat} {ov : Value} (h : RB w g depth deep count ov) : w.cell? ⟨g, 0, none⟩ = some (.int .i64 (depth : Nat)) ∧ w.cell? ⟨g, 1, none⟩ = some (.int .i64 (deep : Nat)) ∧ w.cell? ⟨g, 2, none⟩ = some (.int .i64 (count : Nat)) ∧ w.cell? ⟨g, 3, none⟩ = some ov ∧
    w.frozen? ⟨g, 1, none⟩ = false ∧ w.frozen? ⟨g, 2, none⟩ = false ∧ w.frozen? ⟨g, 3, none⟩ = false := ⟨cell_heap h 0, cell_heap h 1, cell_heap h 2, cell_heap h 3, frozen_heap h 1, frozen_heap h 2, frozen_heap h 3⟩
theorem RB.step {w w' : World} {g depth deep count : Nat} {ov : Value} (h : RB w g depth deep count ov) (hb : Below w.heap.size w w') : RB w' g depth deep count ov := (hb.block g h.lt).trans h
theorem RB.keep {w w' : World} {g depth deep count : Nat} {ov : Value} (h : RB w g depth deep count ov) {P : Nat → Prop} (hk : Keeps P w w') (hp : P g) : RB w' g depth deep count ov := (hk.2 g h.lt hp).trans h
theorem RB.set1 {w : World} {g depth deep count : Nat} {ov : Value} (h : RB w g depth deep count ov) (d : Nat) {u : Int} (hu : u = (d : Int)) : RB (w.setCell ⟨g, 1, none⟩ (.int .i64 u)) g depth d count ov := by
  subst hu
  unfold RB at h ⊢
  simp only [World.setCell, Array.getElem?_modify, if_true, h]
  rfl
theorem RB.set2 {w : World} {g depth deep count : Nat} {ov : Value} (h : RB w g depth deep count ov) (d : Nat) {u : Int} (hu : u = (d : Int)) : RB (w.setCell ⟨g, 2, none⟩ (.int .i64 u)) g depth deep d ov := by
  subst hu
  unfold RB at h ⊢
  simp only [World.setCell, Array.getElem?_modify, if_true, h]
  rfl
theorem RB.set3 {w : World} {g depth deep count : Nat} {ov : Value} (h : RB w g depth deep count ov) (u : Value) : RB (w.setCell ⟨g, 3, none⟩ u) g depth deep count u := by
  unfold RB at h ⊢
  simp only [World.setCell, Array.getElem?_modify, if_true, h]
  rfl

set_option maxRecDepth 100000 in
set_option maxHeartbeats 1000000 in
theorem top_any (g b n cap depth deep count : Nat) (w : World) (hb : RB w g depth deep count (.slice (some ⟨b, 0, none⟩) (n + 1) cap)) (hn : n ≤ 3000000) (_hc : n + 1 ≤ cap) :
    Calls Tryz.prog 34 #[.pointer (some ⟨g, 0, none⟩)] w fun e w' => e = .returned (.pointer (some ⟨b, n * 11, none⟩)) ∧ ∃ k, w' = w.drewN k := by
  obtain ⟨_, _, _, c3, _, _, f3⟩ := hb.facts
  clear hb
  have hi : (n : Int) < ((n + 1 : Nat) : Int) := by omega
  go_enter Tryz.func34, Tryz.ntmps34
  go_wp2_with fail
  go_quiet (fail)
  go_wp2_with fail
  go_ret
  exact ⟨rfl, _, rfl⟩

set_option maxRecDepth 100000 in
set_option maxHeartbeats 1000000 in
theorem lacks_any (b o : Nat) (q : Pt) (lo : Option Addr) (lc : Nat) (w : World) (c9 : w.cell? ⟨b, o + 9, none⟩ = some (.slice lo q.l.length lc)) (c10 : w.cell? ⟨b, o + 10, none⟩ = some (.int .i64 (q.dot : Nat))) :
    Calls Tryz.prog 81 #[.pointer (some ⟨b, o, none⟩)] w fun e w' => e = .returned (.bool (lacksA q)) ∧ ∃ k, w' = w.drewN k := by
  rcases (by omega : q.dot = 0 ∨ (0 < q.dot ∧ q.l.length = q.dot) ∨ (0 < q.dot ∧ q.l.length ≠ q.dot)) with h0 | ⟨h0, h1⟩ | ⟨h0, h1⟩
  · have HV : Hid (lacksA q = false) := Lib.hid (by unfold lacksA; simp [h0])
    have hd : decide ((0 : Int) < ((q.dot : Nat) : Int)) = false := by rw [decide_eq_false_iff_not]; omega
    have hd' : decide (0 < q.dot) = false := by rw [decide_eq_false_iff_not]; omega
    clear h0
    go_enter Tryz.func81, Tryz.ntmps81
    go_wp2_with fail
    go_quiet (fail)
    go_wp2_with fail
    go_ret
    exact ⟨ret_bl (by rw [HV.out]), _, rfl⟩
  · have HV : Hid (lacksA q = true) := Lib.hid (by unfold lacksA; simp [h1, h0])
    have hd : decide ((0 : Int) < ((q.dot : Nat) : Int)) = true := by rw [decide_eq_true_iff]; omega
    have hd' : decide (0 < q.dot) = true := by rw [decide_eq_true_iff]; omega
    have he : (((q.l.length : Nat) : Int) == ((q.dot : Nat) : Int)) = true := by rw [beq_iff_eq]; omega
    clear h0 h1
    go_enter Tryz.func81, Tryz.ntmps81
    go_wp2_with fail
    go_quiet (fail)
    go_wp2_with fail
    go_ret
    exact ⟨ret_bl (by rw [HV.out]), _, rfl⟩
  · have HV : Hid (lacksA q = false) := Lib.hid (by unfold lacksA; simp [h1])
    have hd : decide ((0 : Int) < ((q.dot : Nat) : Int)) = true := by rw [decide_eq_true_iff]; omega
    have hd' : decide (0 < q.dot) = true := by rw [decide_eq_true_iff]; omega
    have he : (((q.l.length : Nat) : Int) == ((q.dot : Nat) : Int)) = false := by rw [beq_eq_false_iff_ne]; omega
    clear h0 h1
    go_enter Tryz.func81, Tryz.ntmps81
    go_wp2_with fail
    go_quiet (fail)
    go_wp2_with fail
    go_ret
    exact ⟨ret_bl (by rw [HV.out]), _, rfl⟩

set_option maxRecDepth 100000 in
set_option maxHeartbeats 1000000 in
theorem full_any (b o : Nat) (q : Pt) (lo : Option Addr) (lc : Nat) (w : World) (c9 : w.cell? ⟨b, o + 9, none⟩ = some (.slice lo q.l.length lc)) (c10 : w.cell? ⟨b, o + 10, none⟩ = some (.int .i64 (q.dot : Nat))) :
    Calls Tryz.prog 85 #[.pointer (some ⟨b, o, none⟩)] w fun e w' => e = .returned (.bool (fullA q)) ∧ ∃ k, w' = w.drewN k := by
  rcases (by omega : q.dot = 0 ∨ (0 < q.dot ∧ q.dot < q.l.length) ∨ (0 < q.dot ∧ q.l.length ≤ q.dot)) with h0 | ⟨h0, h1⟩ | ⟨h0, h1⟩
  · have HV : Hid (fullA q = false) := Lib.hid (by unfold fullA; simp [h0])
    have hd : decide ((0 : Int) < ((q.dot : Nat) : Int)) = false := by rw [decide_eq_false_iff_not]; omega
    have hd' : decide (0 < q.dot) = false := by rw [decide_eq_false_iff_not]; omega
    clear h0
    go_enter Tryz.func85, Tryz.ntmps85
    go_wp2_with fail
    go_quiet (fail)
    go_wp2_with fail
    go_ret
    exact ⟨ret_bl (by rw [HV.out]), _, rfl⟩
  · have HV : Hid (fullA q = true) := Lib.hid (by unfold fullA; simp [h1, h0])
    have hd : decide ((0 : Int) < ((q.dot : Nat) : Int)) = true := by rw [decide_eq_true_iff]; omega
    have hd' : decide (0 < q.dot) = true := by rw [decide_eq_true_iff]; omega
    have he : decide (((q.dot : Nat) : Int) < ((q.l.length : Nat) : Int)) = true := by rw [decide_eq_true_iff]; omega
    have he' : decide (q.dot < q.l.length) = true := by rw [decide_eq_true_iff]; omega
    clear h0 h1
    go_enter Tryz.func85, Tryz.ntmps85
    go_wp2_with fail
    go_quiet (fail)
    go_wp2_with fail
    go_ret
    exact ⟨ret_bl (by rw [HV.out]), _, rfl⟩
  · have HV : Hid (fullA q = false) := Lib.hid (by unfold fullA; simp; omega)
    have hd : decide ((0 : Int) < ((q.dot : Nat) : Int)) = true := by rw [decide_eq_true_iff]; omega
    have hd' : decide (0 < q.dot) = true := by rw [decide_eq_true_iff]; omega
    have he : decide (((q.dot : Nat) : Int) < ((q.l.length : Nat) : Int)) = false := by rw [decide_eq_false_iff_not]; omega
    have he' : decide (q.dot < q.l.length) = false := by rw [decide_eq_false_iff_not]; omega
    clear h0 h1
    go_enter Tryz.func85, Tryz.ntmps85
    go_wp2_with fail
    go_quiet (fail)
    go_wp2_with fail
    go_ret
    exact ⟨ret_bl (by rw [HV.out]), _, rfl⟩
end Go.Proofs.YtpahfhjgcflifaaGreatDoor
namespace Go.Proofs.YtpahfhjgcflifaaGreatDoor
open Go.RowKit

theorem infoPart : (Tryz.prog.info? 63).map (fun i => (i.zero, i.size, i.bytes)) = some (some (.agg #[.int .i64 0, .string ⟨#[]⟩, .int .i64 0, .string ⟨#[]⟩, .bool false, .slice none 0 0, .slice none 0 0, .int .i64 0, .int .i64 0, .slice none 0 0, .int .i64 0]), 11, 152) := by kernel_rfl

/-- How much deeper a word makes it. -/
def dpW (x : Wd) : Nat := if x.kind = 5 then 0 else 1

set_option maxRecDepth 100000 in
set_option maxHeartbeats 4000000 in
theorem push_any (g B depth deep count : Nat) (ov : Value) (ms : List PM) (x : Wd) (lo : Option Addr) (ln lc : Nat) (w : World) (hm : RdM w g B ov ms) (hb : RB w g depth deep count ov) (hn : ms.length ≤ 2000000) (hd : deep ≤ 3000000) (hB : B ≤ w.heap.size) :
    Calls Tryz.prog 57 #[.pointer (some ⟨g, 0, none⟩), .agg (wdL x (.slice lo ln lc)).toArray] w fun e w' => e = .returned (.tuple #[]) ∧ ∃ ov', RdM w' g B ov' (⟨⟨x, [], 0⟩, .slice lo ln lc, .slice none 0 0, []⟩ :: ms) ∧ RB w' g depth (deep + dpW x) count ov' ∧ Below B w w' := by
  obtain ⟨i0, hi, hz0, hz1, hz2⟩ := info_parts infoPart
  obtain ⟨c0, c1, c2, c3, f1, f2, f3⟩ := hb.facts
  have HM := Lib.hid hm
  have HB := Lib.hid hb
  have hlt := hb.lt
  obtain ⟨vo, vc, rfl⟩ := own_dslice hm.row
  clear hb hm
  show Calls Tryz.prog 57 #[.pointer (some ⟨g, 0, none⟩), .agg #[.int .i64 (x.kind : Nat), .string (mkB x.txt), .int .i64 (x.d.k : Nat), .string (mkB x.d.t), .bool x.d.n, .slice lo ln lc, .slice none 0 0, .int .i64 (x.dat : Nat), .int .i64 (x.pl : Nat)]] w _
  have hb2 := below2 w (.cells #[.int .i64 (x.kind : Nat), .string (mkB x.txt), .int .i64 (x.d.k : Nat), .string (mkB x.d.t), .bool x.d.n, .slice lo ln lc, .slice none 0 0, .int .i64 (x.dat : Nat), .int .i64 (x.pl : Nat)] 61) (.cells #[.int .i64 (x.kind : Nat), .string (mkB x.txt), .int .i64 (x.d.k : Nat), .string (mkB x.d.t), .bool x.d.n, .slice lo ln lc, .slice none 0 0, .int .i64 (x.dat : Nat), .int .i64 (x.pl : Nat), .slice none 0 0, .int .i64 0] 63)
  have hbx : ((w.alloc (.cells #[.int .i64 (x.kind : Nat), .string (mkB x.txt), .int .i64 (x.d.k : Nat), .string (mkB x.d.t), .bool x.d.n, .slice lo ln lc, .slice none 0 0, .int .i64 (x.dat : Nat), .int .i64 (x.pl : Nat)] 61)).alloc (.cells #[.int .i64 (x.kind : Nat), .string (mkB x.txt), .int .i64 (x.d.k : Nat), .string (mkB x.d.t), .bool x.d.n, .slice lo ln lc, .slice none 0 0, .int .i64 (x.dat : Nat), .int .i64 (x.pl : Nat), .slice none 0 0, .int .i64 0] 63)).heap[w.heap.size]? = some (.cells #[.int .i64 (x.kind : Nat), .string (mkB x.txt), .int .i64 (x.d.k : Nat), .string (mkB x.d.t), .bool x.d.n, .slice lo ln lc, .slice none 0 0, .int .i64 (x.dat : Nat), .int .i64 (x.pl : Nat)] 61 (0, 0)) := by
    rw [Below.heap_alloc _ _ _ (by simp)]; exact heap_alloc_new w _
  have hnx : ((w.alloc (.cells #[.int .i64 (x.kind : Nat), .string (mkB x.txt), .int .i64 (x.d.k : Nat), .string (mkB x.d.t), .bool x.d.n, .slice lo ln lc, .slice none 0 0, .int .i64 (x.dat : Nat), .int .i64 (x.pl : Nat)] 61)).alloc (.cells #[.int .i64 (x.kind : Nat), .string (mkB x.txt), .int .i64 (x.d.k : Nat), .string (mkB x.d.t), .bool x.d.n, .slice lo ln lc, .slice none 0 0, .int .i64 (x.dat : Nat), .int .i64 (x.pl : Nat), .slice none 0 0, .int .i64 0] 63)).heap[w.heap.size + 1]? = some (.cells #[.int .i64 (x.kind : Nat), .string (mkB x.txt), .int .i64 (x.d.k : Nat), .string (mkB x.d.t), .bool x.d.n, .slice lo ln lc, .slice none 0 0, .int .i64 (x.dat : Nat), .int .i64 (x.pl : Nat), .slice none 0 0, .int .i64 0] 63 (0, 0)) := by
    have := heap_alloc_new (w.alloc (.cells #[.int .i64 (x.kind : Nat), .string (mkB x.txt), .int .i64 (x.d.k : Nat), .string (mkB x.d.t), .bool x.d.n, .slice lo ln lc, .slice none 0 0, .int .i64 (x.dat : Nat), .int .i64 (x.pl : Nat)] 61)) (.cells #[.int .i64 (x.kind : Nat), .string (mkB x.txt), .int .i64 (x.d.k : Nat), .string (mkB x.d.t), .bool x.d.n, .slice lo ln lc, .slice none 0 0, .int .i64 (x.dat : Nat), .int .i64 (x.pl : Nat), .slice none 0 0, .int .i64 0] 63)
    simpa using this
  have HRW := Lib.hid (ownsRow_keep HM.out.row (Keeps.of_below (P := fun _ => True) hb2) fun _ _ => trivial)
  have HNW := Lib.hid (World.news_of_block hnx)
  have HBX := Lib.hid hbx
  have HB2 := Lib.hid hb2
  have hne : g ≠ w.heap.size := by omega
  have hgB := HM.out.gB
  clear hbx hnx hb2
  go_enter Tryz.func57, Tryz.ntmps57
  go_wp2_with fail
  go_region_law (refine step_append_lies _ (by rfl) _ _ 64 (by rfl) B 63 i0 _ 11 152 Tryz.underlying64 hi hz0 hz1 hz2 rfl (by decide) (.slice vo ms.length vc) ms.length (pcells ms) (by rfl) HRW.out ⟨w.heap.size + 1, 0, none⟩ 1 1 (pmL ⟨⟨x, [], 0⟩, .slice lo ln lc, .slice none 0 0, []⟩) (by rfl) (by rfl) HNW.out (by intro u hu; simp [pmL, wdL] at hu; rcases hu with rfl | rfl | rfl | rfl | rfl | rfl | rfl | rfl | rfl | rfl | rfl <;> rfl) (by decide) (by unfold maxLen; omega) (by omega) (by simp; omega) _ rfl ?_; intro g4 cap4 w4 hown4 hgrow4 hat4 hlt4; have hrb4 : RB w4 g depth deep count (.slice vo ms.length vc) := (hgrow4.block g (by simp; omega) (fun e => HM.out.ne e.symm)).trans ((HB2.out.block g HB.out.lt).trans HB.out); have hbx4 := (hgrow4.block w.heap.size (by simp; omega) (fun e => by have := (HM.out.row.lt _ e.symm).2; omega)).trans HBX.out; obtain ⟨y0, y1, y2, y3, z1, z2, z3⟩ := hrb4.facts; have x0 := cell_heap hbx4 0)
  all_goals
    have hgrow5 : World.grownBy ((w.alloc (.cells #[.int .i64 (x.kind : Nat), .string (mkB x.txt), .int .i64 (x.d.k : Nat), .string (mkB x.d.t), .bool x.d.n, .slice lo ln lc, .slice none 0 0, .int .i64 (x.dat : Nat), .int .i64 (x.pl : Nat)] 61)).alloc (.cells #[.int .i64 (x.kind : Nat), .string (mkB x.txt), .int .i64 (x.d.k : Nat), .string (mkB x.d.t), .bool x.d.n, .slice lo ln lc, .slice none 0 0, .int .i64 (x.dat : Nat), .int .i64 (x.pl : Nat), .slice none 0 0, .int .i64 0] 63)) w4 (Value.slice vo ms.length vc).ownBlock := ⟨hgrow4.os, hgrow4.tape, hgrow4.output, hgrow4.size, hgrow4.block⟩
    have HRB5 := Lib.hid (hrb4.set3 (.slice (some ⟨g4, 0, none⟩) (ms.length + 1) cap4))
    have hbx5 := (Below.heap_setCell w4 ⟨g, 3, none⟩ (.slice (some ⟨g4, 0, none⟩) (ms.length + 1) cap4) w.heap.size (fun e => hne e.symm)).trans hbx4
    have HK4 := Lib.hid ((Keeps.refl (fun b => b ≠ g) w4).set (p := ⟨g, 3, none⟩) (fun h => h rfl) (.slice (some ⟨g4, 0, none⟩) (ms.length + 1) cap4))
    have HB5 : Hid (Below B w (w4.setCell ⟨g, 3, none⟩ (.slice (some ⟨g4, 0, none⟩) (ms.length + 1) cap4))) := Lib.hid ((((HB2.out.mono hB).grown hgrow5 (by simp; omega) (fun q hq => (HM.out.row.lt q hq).1))).setCell hgB _)
    have HM4 : Hid (RdM w4 g B (.slice (some ⟨g4, 0, none⟩) (ms.length + 1) cap4) (⟨⟨x, [], 0⟩, .slice lo ln lc, .slice none 0 0, []⟩ :: ms)) := Lib.hid ((HM.out.below HB2.out).push ⟨x, [], 0⟩ (.slice lo ln lc) ⟨_, _, _, rfl⟩ rfl hown4 hgrow5 (by
      rcases hat4 with h | h
      · exact .inl h.symm
      · exact .inr ⟨g4, rfl, by rw [h]; simp⟩) (by simp; omega))
    have HM5 := Lib.hid (HM4.out.keep HK4.out)
    clear hown4 hgrow4 hgrow5 hat4 hlt4 y0 y1 y2 y3 z1 z2 z3 x0 hbx4 hrb4 c0 c1 c2 c3 f1 f2 f3 HK4 HM4 hi hz0 hz1 hz2
    generalize w4.setCell ⟨g, 3, none⟩ (.slice (some ⟨g4, 0, none⟩) (ms.length + 1) cap4) = w5 at *
    obtain ⟨y0, y1, y2, y3, z1, z2, z3⟩ := HRB5.out.facts
    have x0 := cell_heap hbx5 0
    clear hbx5
    by_cases hk : x.kind = 5
    · have hq : (((x.kind : Nat) : Int) != 5) = false := by rw [hk]; rfl
      have HE : Hid (deep + dpW x = deep) := Lib.hid (by simp [dpW, hk])
      clear hk
      go_wp2_with fail
      go_end0
      exact ⟨rfl, _, HM5.out, by rw [HE.out]; exact HRB5.out, HB5.out⟩
    · have hq : (((x.kind : Nat) : Int) != 5) = true := by rw [bne_iff_ne]; omega
      have HE : Hid (deep + dpW x = deep + 1) := Lib.hid (by simp [dpW, hk])
      clear hk
      go_wp2_with fail
      go_end0
      exact ⟨rfl, _, HM5.out.keep ((Keeps.refl _ _).set (fun h => h rfl) _), by rw [HE.out]; exact HRB5.out.set1 (deep + 1) (by omega), HB5.out.setCell hgB _⟩
end Go.Proofs.YtpahfhjgcflifaaGreatDoor
namespace Go.Proofs.YtpahfhjgcflifaaGreatDoor
open Go.RowKit

/-- A part's box, eleven cells. -/
theorem row11 {W : World} {g : Nat} {a0 a1 a2 a3 a4 a5 a6 a7 a8 a9 a10 : Value} {e : TypeId} (h : W.heap[g]? = some (.cells #[a0, a1, a2, a3, a4, a5, a6, a7, a8, a9, a10] e (0, 0))) :
    W.cell? ⟨g, 0, none⟩ = some a0 ∧ W.cell? ⟨g, 1, none⟩ = some a1 ∧ W.cell? ⟨g, 2, none⟩ = some a2 ∧ W.cell? ⟨g, 3, none⟩ = some a3 ∧ W.cell? ⟨g, 4, none⟩ = some a4 ∧ W.cell? ⟨g, 5, none⟩ = some a5 ∧ W.cell? ⟨g, 6, none⟩ = some a6 ∧ W.cell? ⟨g, 7, none⟩ = some a7 ∧ W.cell? ⟨g, 8, none⟩ = some a8 ∧ W.cell? ⟨g, 9, none⟩ = some a9 ∧ W.cell? ⟨g, 10, none⟩ = some a10 :=
  ⟨cell_heap h 0, cell_heap h 1, cell_heap h 2, cell_heap h 3, cell_heap h 4, cell_heap h 5, cell_heap h 6, cell_heap h 7, cell_heap h 8, cell_heap h 9, cell_heap h 10⟩
theorem fill11 {W : World} {g : Nat} {z0 z1 z2 z3 z4 z5 z6 z7 z8 z9 z10 : Value} {e : TypeId} (h : W.heap[g]? = some (.cells #[z0, z1, z2, z3, z4, z5, z6, z7, z8, z9, z10] e (0, 0))) (a0 a1 a2 a3 a4 a5 a6 a7 a8 a9 a10 : Value) :
    (((((((((((W.setCell ⟨g, 0, none⟩ a0).setCell ⟨g, 1, none⟩ a1).setCell ⟨g, 2, none⟩ a2).setCell ⟨g, 3, none⟩ a3).setCell ⟨g, 4, none⟩ a4).setCell ⟨g, 5, none⟩ a5).setCell ⟨g, 6, none⟩ a6).setCell ⟨g, 7, none⟩ a7).setCell ⟨g, 8, none⟩ a8).setCell ⟨g, 9, none⟩ a9).setCell ⟨g, 10, none⟩ a10).heap[g]? = some (.cells #[a0, a1, a2, a3, a4, a5, a6, a7, a8, a9, a10] e (0, 0)) ∧
    Ks g W (((((((((((W.setCell ⟨g, 0, none⟩ a0).setCell ⟨g, 1, none⟩ a1).setCell ⟨g, 2, none⟩ a2).setCell ⟨g, 3, none⟩ a3).setCell ⟨g, 4, none⟩ a4).setCell ⟨g, 5, none⟩ a5).setCell ⟨g, 6, none⟩ a6).setCell ⟨g, 7, none⟩ a7).setCell ⟨g, 8, none⟩ a8).setCell ⟨g, 9, none⟩ a9).setCell ⟨g, 10, none⟩ a10) := by
  refine ⟨?_, (((((((((((Ks.refl g W).set 0 _).set 1 _).set 2 _).set 3 _).set 4 _).set 5 _).set 6 _).set 7 _).set 8 _).set 9 _).set 10 _⟩
  rw [rowSet (rowSet (rowSet (rowSet (rowSet (rowSet (rowSet (rowSet (rowSet (rowSet (rowSet h 0 a0) 1 a1) 2 a2) 3 a3) 4 a4) 5 a5) 6 a6) 7 a7) 8 a8) 9 a9) 10 a10]
  simp

set_option maxRecDepth 100000 in
set_option maxHeartbeats 4000000 in
theorem pop_any (g B b cap depth deep count : Nat) (m : PM) (ms : List PM) (w : World) (hm : RdM w g B (.slice (some ⟨b, 0, none⟩) (ms.length + 1) cap) (m :: ms)) (hb : RB w g depth deep count (.slice (some ⟨b, 0, none⟩) (ms.length + 1) cap)) (hn : ms.length ≤ 2000000) (hd : deep ≤ 3000000) (hdp : dpW m.q.w ≤ deep) :
    Calls Tryz.prog 82 #[.pointer (some ⟨g, 0, none⟩)] w fun e w' => e = .returned (.agg (pmL m).toArray) ∧ RB w' g depth (deep - dpW m.q.w) count (.slice (some ⟨b, 0, none⟩) ms.length cap) ∧ Keeps (fun x => x ≠ g) w w' ∧ Below B w w' := by
  obtain ⟨b', cap', e, hcap, hBb, hbw, hcell, hfroz⟩ := hm.top
  simp only [Value.slice.injEq, Option.some.injEq, Addr.mk.injEq, true_and, and_true] at e
  obtain ⟨rfl, rfl⟩ := e
  obtain ⟨lo, ln, lc, hlv⟩ := hm.lvs m (by simp)
  obtain ⟨ao, ac, hav⟩ := own_dslice (hm.lists m (by simp))
  obtain ⟨q, lv, av, us⟩ := m
  simp only at hlv hav hdp
  subst hlv
  subst hav
  have hcell' : ∀ j u, (pmL ⟨q, .slice lo ln lc, .slice ao q.l.length ac, us⟩)[j]? = some u → w.cell? ⟨b, ms.length * 11 + j, none⟩ = some u := hcell
  have HM := Lib.hid hm
  have HB := Lib.hid hb
  have hlt := hb.lt
  have hgB := hm.gB
  have hne : g ≠ b := fun e => hm.sep.1 (by rw [← e]; rfl)
  have HCL := Lib.hid hcell'
  clear hm hcell hcell' hfroz
  have HB1 := Lib.hid (below1 w (.cells #[.int .i64 0, .string ⟨#[]⟩, .int .i64 0, .string ⟨#[]⟩, .bool false, .slice none 0 0, .slice none 0 0, .int .i64 0, .int .i64 0, .slice none 0 0, .int .i64 0] 63))
  have HN1 := Lib.hid (heap_alloc_new w (.cells #[.int .i64 0, .string ⟨#[]⟩, .int .i64 0, .string ⟨#[]⟩, .bool false, .slice none 0 0, .slice none 0 0, .int .i64 0, .int .i64 0, .slice none 0 0, .int .i64 0] 63))
  show Calls Tryz.prog 82 #[.pointer (some ⟨g, 0, none⟩)] w fun e w' => e = .returned (.agg #[.int .i64 (q.w.kind : Nat), .string (mkB q.w.txt), .int .i64 (q.w.d.k : Nat), .string (mkB q.w.d.t), .bool q.w.d.n, .slice lo ln lc, .slice none 0 0, .int .i64 (q.w.dat : Nat), .int .i64 (q.w.pl : Nat), .slice ao q.l.length ac, .int .i64 (q.dot : Nat)]) ∧ RB w' g depth (deep - dpW q.w) count (.slice (some ⟨b, 0, none⟩) ms.length cap) ∧ Keeps (fun x => x ≠ g) w w' ∧ Below B w w'
  go_enter Tryz.func82, Tryz.ntmps82
  go_wp2_with fail
  refine (top_any g b ms.length cap depth deep count _ (HB.out.step HB1.out) (by omega) hcap).mono ?_
  rintro e w2 ⟨rfl, nq, rfl⟩
  have hb2 : Below w.heap.size w ((w.alloc (.cells #[.int .i64 0, .string ⟨#[]⟩, .int .i64 0, .string ⟨#[]⟩, .bool false, .slice none 0 0, .slice none 0 0, .int .i64 0, .int .i64 0, .slice none 0 0, .int .i64 0] 63)).drewN nq) := below_drewN HB1.out nq
  have HRB2 := Lib.hid (HB.out.step hb2)
  have HN2 : Hid (((w.alloc (.cells #[.int .i64 0, .string ⟨#[]⟩, .int .i64 0, .string ⟨#[]⟩, .bool false, .slice none 0 0, .slice none 0 0, .int .i64 0, .int .i64 0, .slice none 0 0, .int .i64 0] 63)).drewN nq).heap[w.heap.size]? = some (.cells #[.int .i64 0, .string ⟨#[]⟩, .int .i64 0, .string ⟨#[]⟩, .bool false, .slice none 0 0, .slice none 0 0, .int .i64 0, .int .i64 0, .slice none 0 0, .int .i64 0] 63 (0, 0))) := Lib.hid HN1.out
  have hsz2 : ((w.alloc (.cells #[.int .i64 0, .string ⟨#[]⟩, .int .i64 0, .string ⟨#[]⟩, .bool false, .slice none 0 0, .slice none 0 0, .int .i64 0, .int .i64 0, .slice none 0 0, .int .i64 0] 63)).drewN nq).heap.size = w.heap.size + 1 := by
    show (w.alloc _).heap.size = _
    simp
  have hcl2 : ∀ j u, (pmL ⟨q, .slice lo ln lc, .slice ao q.l.length ac, us⟩)[j]? = some u → ((w.alloc (.cells #[.int .i64 0, .string ⟨#[]⟩, .int .i64 0, .string ⟨#[]⟩, .bool false, .slice none 0 0, .slice none 0 0, .int .i64 0, .int .i64 0, .slice none 0 0, .int .i64 0] 63)).drewN nq).cell? ⟨b, ms.length * 11 + j, none⟩ = some u := fun j u hu => by rw [hb2.cell (p := ⟨b, ms.length * 11 + j, none⟩) hbw]; exact HCL.out j u hu
  have HB2 := Lib.hid hb2
  clear hb2
  generalize (w.alloc _).drewN nq = W2 at *
  have p0 := hcl2 0 _ rfl
  have p1 := hcl2 1 _ rfl
  have p2 := hcl2 2 _ rfl
  have p3 := hcl2 3 _ rfl
  have p4 := hcl2 4 _ rfl
  have p5 := hcl2 5 _ rfl
  have p6 := hcl2 6 _ rfl
  have p7 := hcl2 7 _ rfl
  have p8 := hcl2 8 _ rfl
  have p9 := hcl2 9 _ rfl
  have p10 := hcl2 10 _ rfl
  clear hcl2
  simp only [Nat.add_zero] at p0
  obtain ⟨c0, c1, c2, c3, f1, f2, f3⟩ := HRB2.out.facts
  have hgw2 : g < W2.heap.size := HRB2.out.lt
  have hne2 : g ≠ W2.heap.size := by omega
  have hii : ((ms.length : Nat) : Int) ≤ ((ms.length + 1 : Nat) : Int) := by omega
  go_wp2_with fail
  have hb3 := below1 W2 (.cells #[.int .i64 (q.w.kind : Nat), .string (mkB q.w.txt), .int .i64 (q.w.d.k : Nat), .string (mkB q.w.d.t), .bool q.w.d.n, .slice lo ln lc, .slice none 0 0, .int .i64 (q.w.dat : Nat), .int .i64 (q.w.pl : Nat), .slice ao q.l.length ac, .int .i64 (q.dot : Nat)] 63)
  have HP3 := Lib.hid (heap_alloc_new W2 (.cells #[.int .i64 (q.w.kind : Nat), .string (mkB q.w.txt), .int .i64 (q.w.d.k : Nat), .string (mkB q.w.d.t), .bool q.w.d.n, .slice lo ln lc, .slice none 0 0, .int .i64 (q.w.dat : Nat), .int .i64 (q.w.pl : Nat), .slice ao q.l.length ac, .int .i64 (q.dot : Nat)] 63))
  have HRB3 := Lib.hid (HRB2.out.step hb3)
  have HN3 := Lib.hid ((hb3.block w.heap.size (by omega)).trans HN2.out)
  have HB3 := Lib.hid (HB2.out.trans (hb3.mono HB2.out.size))
  have hsz3 : (W2.alloc (.cells #[.int .i64 (q.w.kind : Nat), .string (mkB q.w.txt), .int .i64 (q.w.d.k : Nat), .string (mkB q.w.d.t), .bool q.w.d.n, .slice lo ln lc, .slice none 0 0, .int .i64 (q.w.dat : Nat), .int .i64 (q.w.pl : Nat), .slice ao q.l.length ac, .int .i64 (q.dot : Nat)] 63)).heap.size = w.heap.size + 1 + 1 := by simp; omega
  clear hb3 p0 p1 p2 p3 p4 p5 p6 p7 p8 p9 p10 c0 c1 c2 c3 f1 f2 f3
  rw [hsz2] at HP3
  generalize W2.alloc _ = W3 at *
  have hg3 : g ≠ w.heap.size + 1 := by omega
  have hg4 : g ≠ w.heap.size := by omega
  obtain ⟨c0, c1, c2, c3, f1, f2, f3⟩ := HRB3.out.facts
  go_region
  all_goals
    have HRB4 : Hid (RB ((W3.setCell ⟨g, 3, none⟩ (.slice (some ⟨b, 0, none⟩) ms.length cap)).drew) g depth deep count (.slice (some ⟨b, 0, none⟩) ms.length cap)) := Lib.hid (HRB3.out.set3 (.slice (some ⟨b, 0, none⟩) ms.length cap))
    have hp4 : ((W3.setCell ⟨g, 3, none⟩ (.slice (some ⟨b, 0, none⟩) ms.length cap)).drew).heap[w.heap.size + 1]? = _ := (Below.heap_setCell W3 ⟨g, 3, none⟩ (.slice (some ⟨b, 0, none⟩) ms.length cap) (w.heap.size + 1) (fun e => hg3 e.symm)).trans HP3.out
    have HN4 : Hid (((W3.setCell ⟨g, 3, none⟩ (.slice (some ⟨b, 0, none⟩) ms.length cap)).drew).heap[w.heap.size]? = some (.cells #[.int .i64 0, .string ⟨#[]⟩, .int .i64 0, .string ⟨#[]⟩, .bool false, .slice none 0 0, .slice none 0 0, .int .i64 0, .int .i64 0, .slice none 0 0, .int .i64 0] 63 (0, 0))) := Lib.hid ((Below.heap_setCell W3 ⟨g, 3, none⟩ (.slice (some ⟨b, 0, none⟩) ms.length cap) w.heap.size (fun e => hg4 e.symm)).trans HN3.out)
    have HB4 : Hid (Below B w ((W3.setCell ⟨g, 3, none⟩ (.slice (some ⟨b, 0, none⟩) ms.length cap)).drew)) := Lib.hid (((HB3.out.mono (by omega)).setCell hgB _).drew)
    have HK4 : Hid (Keeps (fun x => x ≠ g) w ((W3.setCell ⟨g, 3, none⟩ (.slice (some ⟨b, 0, none⟩) ms.length cap)).drew)) := Lib.hid ((Keeps.of_below HB3.out).set (fun h => h rfl) _)
    clear c0 c1 c2 c3 f1 f2 f3
    generalize (W3.setCell ⟨g, 3, none⟩ (.slice (some ⟨b, 0, none⟩) ms.length cap)).drew = W4 at *
    obtain ⟨p0, p1, p2, p3, p4, p5, p6, p7, p8, p9, p10⟩ := row11 hp4
    clear hp4
    obtain ⟨d0, d1, d2, d3, d4, d5, d6, d7, d8, d9, d10⟩ := row11 HN4.out
    have e0 := frozen_heap HN4.out 0
    have e1 := frozen_heap HN4.out 1
    have e2 := frozen_heap HN4.out 2
    have e3 := frozen_heap HN4.out 3
    have e4 := frozen_heap HN4.out 4
    have e5 := frozen_heap HN4.out 5
    have e6 := frozen_heap HN4.out 6
    have e7 := frozen_heap HN4.out 7
    have e8 := frozen_heap HN4.out 8
    have e9 := frozen_heap HN4.out 9
    have e10 := frozen_heap HN4.out 10
    obtain ⟨c0, c1, c2, c3, f1, f2, f3⟩ := HRB4.out.facts
    by_cases hk : q.w.kind = 5
    · have hq : (((q.w.kind : Nat) : Int) != 5) = false := by rw [hk]; rfl
      have HE : Hid (deep - dpW q.w = deep) := Lib.hid (by simp [dpW, hk])
      clear hk
      go_wp2_with fail
      obtain ⟨hrow, hk⟩ := fill11 HN4.out (.int .i64 (q.w.kind : Nat)) (.string (mkB q.w.txt)) (.int .i64 (q.w.d.k : Nat)) (.string (mkB q.w.d.t)) (.bool q.w.d.n) (.slice lo ln lc) (.slice none 0 0) (.int .i64 (q.w.dat : Nat)) (.int .i64 (q.w.pl : Nat)) (.slice ao q.l.length ac) (.int .i64 (q.dot : Nat))
      clear d0 d1 d2 d3 d4 d5 d6 d7 d8 d9 d10 e0 e1 e2 e3 e4 e5 e6 e7 e8 e9 e10 p0 p1 p2 p3 p4 p5 p6 p7 p8 p9 p10 c0 c1 c2 c3 f1 f2 f3
      have hkk : Keeps (fun x => x ≠ g) w _ := ⟨Nat.le_trans HK4.out.1 hk.size, fun x hx hxg => (hk.oth x (Nat.lt_of_lt_of_le hx HK4.out.1) (by omega)).trans (HK4.out.2 x hx hxg)⟩
      have hrb9 := HRB4.out.keep (Keeps.of_ks (P := fun x => x ≠ w.heap.size) hk (fun h => h rfl)) hg4
      have hb9 := HB4.out.trans (hk.bel.mono (by omega))
      clear hk
      generalize World.setCell _ ⟨w.heap.size, 10, none⟩ _ = W9 at *
      obtain ⟨d0, d1, d2, d3, d4, d5, d6, d7, d8, d9, d10⟩ := row11 hrow
      refine bodyPost_ret (v := .agg #[.int .i64 (q.w.kind : Nat), .string (mkB q.w.txt), .int .i64 (q.w.d.k : Nat), .string (mkB q.w.d.t), .bool q.w.d.n, .slice lo ln lc, .slice none 0 0, .int .i64 (q.w.dat : Nat), .int .i64 (q.w.pl : Nat), .slice ao q.l.length ac, .int .i64 (q.dot : Nat)]) (by simp [results, Tryz.results82, go_sem, d0, d1, d2, d3, d4, d5, d6, d7, d8, d9, d10]) rfl ?_
      exact ⟨rfl, by rw [HE.out]; exact hrb9, hkk, hb9⟩
    · have hq : (((q.w.kind : Nat) : Int) != 5) = true := by rw [bne_iff_ne]; omega
      have HE : Hid (deep - dpW q.w = deep - 1) := Lib.hid (by simp [dpW, hk])
      have hd1 : 1 ≤ deep := by simpa [dpW, hk] using hdp
      clear hk
      have HRB5 := Lib.hid (HRB4.out.set1 (deep - 1) (u := (deep : Int) - 1) (by omega))
      have HN5 := Lib.hid ((Below.heap_setCell W4 ⟨g, 1, none⟩ (.int .i64 ((deep : Int) - 1)) w.heap.size (fun e => hg4 e.symm)).trans HN4.out)
      have HB5 := Lib.hid (HB4.out.setCell (p := ⟨g, 1, none⟩) hgB (.int .i64 ((deep : Int) - 1)))
      have HK5 := Lib.hid (HK4.out.set (p := ⟨g, 1, none⟩) (fun h => h rfl) (.int .i64 ((deep : Int) - 1)))
      go_wp2_with fail
      obtain ⟨hrow, hk⟩ := fill11 HN5.out (.int .i64 (q.w.kind : Nat)) (.string (mkB q.w.txt)) (.int .i64 (q.w.d.k : Nat)) (.string (mkB q.w.d.t)) (.bool q.w.d.n) (.slice lo ln lc) (.slice none 0 0) (.int .i64 (q.w.dat : Nat)) (.int .i64 (q.w.pl : Nat)) (.slice ao q.l.length ac) (.int .i64 (q.dot : Nat))
      clear d0 d1 d2 d3 d4 d5 d6 d7 d8 d9 d10 e0 e1 e2 e3 e4 e5 e6 e7 e8 e9 e10 p0 p1 p2 p3 p4 p5 p6 p7 p8 p9 p10 c0 c1 c2 c3 f1 f2 f3
      have hkk : Keeps (fun x => x ≠ g) w _ := ⟨Nat.le_trans HK5.out.1 hk.size, fun x hx hxg => (hk.oth x (Nat.lt_of_lt_of_le hx HK5.out.1) (by omega)).trans (HK5.out.2 x hx hxg)⟩
      have hrb9 := HRB5.out.keep (Keeps.of_ks (P := fun x => x ≠ w.heap.size) hk (fun h => h rfl)) hg4
      have hb9 := HB5.out.trans (hk.bel.mono (by omega))
      clear hk
      generalize World.setCell _ ⟨w.heap.size, 10, none⟩ _ = W9 at *
      obtain ⟨d0, d1, d2, d3, d4, d5, d6, d7, d8, d9, d10⟩ := row11 hrow
      refine bodyPost_ret (v := .agg #[.int .i64 (q.w.kind : Nat), .string (mkB q.w.txt), .int .i64 (q.w.d.k : Nat), .string (mkB q.w.d.t), .bool q.w.d.n, .slice lo ln lc, .slice none 0 0, .int .i64 (q.w.dat : Nat), .int .i64 (q.w.pl : Nat), .slice ao q.l.length ac, .int .i64 (q.dot : Nat)]) (by simp [results, Tryz.results82, go_sem, d0, d1, d2, d3, d4, d5, d6, d7, d8, d9, d10]) rfl ?_
      exact ⟨rfl, by rw [HE.out]; exact hrb9, hkk, hb9⟩
end Go.Proofs.YtpahfhjgcflifaaGreatDoor
namespace Go.Proofs.YtpahfhjgcflifaaGreatDoor
open Go.RowKit

section
variable {P : Program} (w : World)
theorem wp_append_row {o : Oper} {a : Act} {K : Act → World → Prop} {Q : Exit → Act → World → Prop} (s x : Operand) (t : TypeId)
    (ho : o.op = .call { callee := .builtin .append, args := #[s, x], argTypes := #[t, t] })
    (base : Nat) (e : TypeId) (i : TypeInfo) (z : Value) (size bytes : Nat) (ht : P.underlying t = some (.slice e)) (hi : P.info? e = some i) (hz : i.zero = some z)
    (hsize : i.size = size) (hby : i.bytes = bytes) (hzs : z.cells.size = size) (hsz : 0 < size)
    (v : Value) (n : Nat) (xs : List Value) (hs : a.eval s = v) (hown : w.ownsRow base e size v n xs)
    (y : Value) (m : Nat) (news : List Value) (hx : a.eval x = y) (hrow : RowV w y m size news) (h1 : ∀ u ∈ news, u.oneCell' = true)
    (h63 : n + m ≤ maxLen) (hbytes : (n + m) * bytes ≤ 140737488355328) (hbase : base ≤ w.heap.size)
    (h : ∀ v' w', w'.ownsRow base e size v' (n + m) (xs ++ news) → w.grownBy w' v.ownBlock → MovedTo w v v' → K (a.put o.dst v') w') : o.wp P a w K Q := by
  obtain ⟨hlen, _, ao, cap, rfl, hcap, hr⟩ := hrow
  cases ao with
  | none =>
    have h0 : m = 0 ∧ cap = 0 := by
      rcases hr with ⟨h0, h2⟩ | ⟨b, off, h2, _⟩
      · exact ⟨h0, h2 rfl⟩
      · cases h2
    obtain ⟨rfl, rfl⟩ := h0
    have hn : news = [] := List.eq_nil_of_length_eq_zero (by simpa using hlen)
    subst hn
    have hrun := run_append_owned_none (P := P) (w := w) base t o.type e i size ht hi v n xs hown
    unfold Oper.wp
    simp [execOp, ho, resolve, invoke, builtin, hs, hx, hrun, Result.andThen]
    exact h v w (by simpa using hown) ⟨rfl, rfl, rfl, Nat.le_refl _, fun _ _ _ => rfl⟩ (.inl rfl)
  | some ad =>
    have hnews : ∀ j u, news[j]? = some u → w.cell? (ad.add j) = some u := by
      intro j u hu
      have hj := (List.getElem?_eq_some_iff.1 hu).1
      rcases hr with ⟨h0, _⟩ | ⟨b, off, e1, _, hc⟩
      · subst h0
        simp at hlen
        subst hlen
        simp at hj
      · injection e1 with e1
        subst e1
        rw [Addr.add_mid]
        exact hc j u hu
    obtain ⟨v', w', hrun, h2, h3, h4⟩ := run_append_row (P := P) w base t o.type e i z size bytes ht hi hz hsize hby hzs hsz v n xs hown ad m cap news hlen hnews h1 h63 hbytes hbase
    unfold Oper.wp execOp
    simp only [ho, resolve, invoke, builtin, Sem.run_bind, Sem.run_pure, Result.andThen_ok, List.map_toArray, List.map_cons, List.map_nil, hs, hx, hrun]
    exact h v' w' h2 h3 h4
theorem step_append_row {ops : Array Oper} {o : Oper} {a : Act} {K : Act → World → Prop} {Q : Exit → Act → World → Prop} {E : Prop} (hgd : o.guard = none) (s x : Operand) (t : TypeId)
    (ho : o.op = .call { callee := .builtin .append, args := #[s, x], argTypes := #[t, t] })
    (base : Nat) (e : TypeId) (i : TypeInfo) (z : Value) (size bytes : Nat) (ht : P.underlying t = some (.slice e)) (hi : P.info? e = some i) (hz : i.zero = some z)
    (hsize : i.size = size) (hby : i.bytes = bytes) (hzs : z.cells.size = size) (hsz : 0 < size)
    (v : Value) (n : Nat) (xs : List Value) (hs : a.eval s = v) (hown : w.ownsRow base e size v n xs)
    (y : Value) (m : Nat) (news : List Value) (hx : a.eval x = y) (hrow : RowV w y m size news) (h1 : ∀ u ∈ news, u.oneCell' = true)
    (h63 : n + m ≤ maxLen) (hbytes : (n + m) * bytes ≤ 140737488355328) (hbase : base ≤ w.heap.size)
    (h : ∀ v' w', w'.ownsRow base e size v' (n + m) (xs ++ news) → w.grownBy w' v.ownBlock → MovedTo w v v' → K (a.put o.dst v') w') :
    if Region.wanted o (yielded ops a.tmps) = true then Oper.wp P o a w K Q else E := by
  have hw : Region.wanted o (yielded ops a.tmps) = true := by simp [Region.wanted, hgd]
  rw [if_pos hw]
  exact wp_append_row w s x t ho base e i z size bytes ht hi hz hsize hby hzs hsz v n xs hs hown y m news hx hrow h1 h63 hbytes hbase h
end
/-- All cells of a row of datums are plain. -/
theorem DmRow.one {P : Nat → Prop} {w : World} {l : List Dm} {us : List Value} (h : DmRow P w l us) : ∀ u ∈ us, u.oneCell' = true := by
  intro u hu
  obtain ⟨j, hj, rfl⟩ := List.mem_iff_getElem.1 hu
  have hl := h.len
  have hd : j / 6 < l.length := by omega
  refine one_cells (h.each (j / 6) hd) _ ?_
  refine List.mem_iff_getElem.2 ⟨j % 6, by rw [List.length_take, List.length_drop]; omega, ?_⟩
  rw [List.getElem_take, List.getElem_drop]
  congr 1
  omega
/-- A row of datums, and another one behind it. -/
theorem DmRow.joined {P : Nat → Prop} {w w' : World} {v v' : Value} {l m : List Dm} {us vs : List Value} (h : DmRow (fun b => P b ∧ v.ownBlock ≠ some b) w l us) (hd : DmRow (fun b => P b ∧ v.ownBlock ≠ some b) w m vs) (hg : w.grownBy w' v.ownBlock) (hm : MovedTo w v v') :
    DmRow (fun b => P b ∧ v'.ownBlock ≠ some b) w' (l ++ m) (us ++ vs) := by
  have hk : Keeps (fun b => P b ∧ v.ownBlock ≠ some b) w w' := (Keeps.of_grown (P := fun b => v.ownBlock ≠ some b) hg fun g e hn => hn e).mono fun b _ h => h.2
  have hq : ∀ b, b < w.heap.size → (P b ∧ v.ownBlock ≠ some b) → (P b ∧ v.ownBlock ≠ some b) ∧ v'.ownBlock ≠ some b := fun b hb hp => ⟨hp, fun e => by
    rcases hm with e2 | ⟨b2, e2, hge⟩
    · rw [e2] at e; exact hp.2 e
    · rw [e2] at e; injection e with e; omega⟩
  have hk2 : Keeps (fun b => (P b ∧ v.ownBlock ≠ some b) ∧ v'.ownBlock ≠ some b) w w' := hk.mono fun b _ h => h.1
  exact (((h.mono hq).move hk2).append ((hd.mono hq).move hk2)).mono fun b _ hp => ⟨hp.1.1, hp.2⟩
def JoinPost (P : Nat → Prop) (base : Nat) (v : Value) (first : List Dm) (last : Dm) (w : World) (e : Ending) (w' : World) : Prop :=
  ∃ v' us', e = .returned (.tuple #[.int .i64 (joinA first last 0).k, v']) ∧ w'.ownsRow base 27 6 v' (joinA first last 0).l.length us' ∧ DmRow (fun b => P b ∧ v'.ownBlock ≠ some b) w' (joinA first last 0).l us' ∧ MovedTo w v v' ∧ World.grownBy w w' v.ownBlock
theorem joinA_in {first : List Dm} {last : Dm} (h : last.k = 1 ∨ last.k = 2) (a : Int) : joinA first last a = .mk last.k [] false [] (first ++ last.l) a := by unfold joinA; rw [if_pos h]
theorem joinA_out {first : List Dm} {last : Dm} (h : ¬ (last.k = 1 ∨ last.k = 2)) (a : Int) : joinA first last a = .mk 2 [] false [] (first ++ [last]) a := by unfold joinA; rw [if_neg h]
theorem grown_back {w w1 w2 : World} {row : Option Nat} (h : World.grownBy w1 w2 row) (hb : Below w.heap.size w w1) : World.grownBy w w2 row :=
  ⟨h.os.trans hb.os, h.tape.trans hb.tape, h.output.trans hb.output, Nat.le_trans hb.size h.size, fun k hk hne => (h.block k (Nat.lt_of_lt_of_le hk hb.size) hne).trans (hb.block k hk)⟩
theorem MovedTo.back {w w1 : World} {v v' : Value} (h : MovedTo w1 v v') (hb : w.heap.size ≤ w1.heap.size) : MovedTo w v v' := by
  rcases h with h | ⟨b, h, hge⟩
  · exact .inl h
  · exact .inr ⟨b, h, by omega⟩

set_option maxRecDepth 100000 in
set_option maxHeartbeats 4000000 in
theorem joined_any (P : Nat → Prop) (base : Nat) (v : Value) (first : List Dm) (fus : List Value) (last : Dm) (us : List Value) (w : World) (hown : w.ownsRow base 27 6 v first.length fus) (hrow : DmRow (fun b => P b ∧ v.ownBlock ≠ some b) w first fus) (hd : LayP (fun b => P b ∧ v.ownBlock ≠ some b) w last us) (hn : first.length ≤ 100000) (hl : last.l.length ≤ 100000) (hbase : base ≤ w.heap.size) :
    Calls Tryz.prog 105 #[v, .agg us.toArray] w (JoinPost P base v first last w) := by
  obtain ⟨i1, hi1, hy0, hy1, hy2⟩ := info_parts infoDat
  have HO := Lib.hid hown
  have HR := Lib.hid hrow
  have HD := Lib.hid hd
  have H1 := Lib.hid (one_cells hd)
  obtain ⟨k, t, n, r, l, a⟩ := last
  simp only [Dm.l] at hl
  obtain ⟨lv, av, xs, rfl, hby, _, hlim, hr, hrp, hrow1, hap, hin1⟩ := hd.row
  obtain ⟨ao, cv0, rfl⟩ : ∃ o c, av = .slice o l.length c := by obtain ⟨_, _, o, c, h, _⟩ := hrow1; exact ⟨o, c, h⟩
  obtain ⟨lo0, lc0, rfl⟩ : ∃ o c, lv = .slice o r.length c := by obtain ⟨_, o, c, h, _⟩ := hr; exact ⟨o, c, h⟩
  obtain ⟨vo, vc, rfl⟩ := own_dslice hown
  have HRV := Lib.hid hrow1
  have HIN := Lib.hid hin1
  clear hown hrow hd hby hlim hr hrp hrow1 hap hin1
  have hb1 := below1 w (.cells #[.int .i64 k, .string (mkB t), .bool n, .slice lo0 r.length lc0, .slice ao l.length cv0, .int .i64 a] 27)
  have HB1 := Lib.hid hb1
  obtain ⟨a0, a1, a2, a3, a4, a5⟩ := row6 (box1 w #[.int .i64 k, .string (mkB t), .bool n, .slice lo0 r.length lc0, .slice ao l.length cv0, .int .i64 a] 27)
  have HO1 := Lib.hid (ownsRow_keep HO.out (Keeps.of_below (P := fun _ => True) hb1) fun _ _ => trivial)
  show Calls Tryz.prog 105 #[.slice vo first.length vc, .agg #[.int .i64 k, .string (mkB t), .bool n, .slice lo0 r.length lc0, .slice ao l.length cv0, .int .i64 a]] w _
  by_cases hk : k = 1 ∨ k = 2
  · have HJ := Lib.hid (joinA_in (first := first) (last := .mk k t n r l a) hk 0)
    have HRV1 := Lib.hid (HRV.out.below hb1)
    have HON := Lib.hid HIN.out.one
    clear hb1
    rcases hk with rfl | rfl
    all_goals
      go_enter Tryz.func105, Tryz.ntmps105
      go_wp2_with fail
      go_region_law (refine step_append_row _ (by rfl) _ _ 25 (by rfl) base 27 i1 _ 6 88 Tryz.underlying25 hi1 hy0 hy1 hy2 rfl (by decide) (.slice vo first.length vc) first.length fus (by rfl) HO1.out (.slice ao l.length cv0) l.length xs (by rfl) HRV1.out HON.out (by unfold maxLen; omega) (by omega) (by simp; omega) ?_; intro v5 w5 hown5 hgrow5 hmv5; have x0 := cell_heap ((hgrow5.block w.heap.size (by simp) (fun e => by have := (HO.out.lt _ e.symm).2; omega)).trans (box1 w _ _)) 0)
      all_goals
        have hgrow6 : World.grownBy (w.alloc (.cells #[.int .i64 _, .string (mkB t), .bool n, .slice lo0 r.length lc0, .slice ao l.length cv0, .int .i64 a] 27)) w5 (Value.slice vo first.length vc).ownBlock := ⟨hgrow5.os, hgrow5.tape, hgrow5.output, hgrow5.size, hgrow5.block⟩
        have hjr := ((HR.out.move (Keeps.of_below HB1.out)).joined (HIN.out.move (Keeps.of_below HB1.out)) hgrow6 (hmv5.back (Nat.le_refl _)))
        have HJR := Lib.hid hjr
        have HG := Lib.hid (grown_back hgrow6 HB1.out)
        have HMV := Lib.hid (hmv5.back (w := w) (by simp))
        have HO5 := Lib.hid hown5
        clear hown5 hgrow5 hgrow6 hmv5 hjr x0 a0 a1 a2 a3 a4 a5
        go_wp2_with fail
        go_ret2
        refine ⟨v5, fus ++ xs, by rw [HJ.out]; rfl, ?_, ?_, HMV.out, HG.out⟩
        · rw [HJ.out]
          show w5.ownsRow base _ 6 v5 (first ++ l).length (fus ++ xs)
          rw [List.length_append]
          exact HO5.out
        · rw [HJ.out]
          exact HJR.out
  · have HJ := Lib.hid (joinA_out (first := first) (last := .mk k t n r l a) hk 0)
    have d1 : (k == 1) = false := by rw [beq_eq_false_iff_ne]; omega
    have d2 : (k == 2) = false := by rw [beq_eq_false_iff_ne]; omega
    have hw1 : (w.alloc (.cells #[.int .i64 k, .string (mkB t), .bool n, .slice lo0 r.length lc0, .slice ao l.length cv0, .int .i64 a] 27)).heap.size = w.heap.size + 1 := by simp
    have hrv := row1 (w.alloc (.cells #[.int .i64 k, .string (mkB t), .bool n, .slice lo0 r.length lc0, .slice ao l.length cv0, .int .i64 a] 27)) [.int .i64 k, .string (mkB t), .bool n, .slice lo0 r.length lc0, .slice ao l.length cv0, .int .i64 a] rfl
    rw [hw1] at hrv
    have hb2 := below2 w (.cells #[.int .i64 k, .string (mkB t), .bool n, .slice lo0 r.length lc0, .slice ao l.length cv0, .int .i64 a] 27) (.cells #[.int .i64 k, .string (mkB t), .bool n, .slice lo0 r.length lc0, .slice ao l.length cv0, .int .i64 a] 27)
    have HRV2 := Lib.hid hrv
    have HB2 := Lib.hid hb2
    have HO2 := Lib.hid (ownsRow_keep HO.out (Keeps.of_below (P := fun _ => True) hb2) fun _ _ => trivial)
    clear hb1 hb2 hrv hw1 hk
    go_enter Tryz.func105, Tryz.ntmps105
    go_wp2_with (at_builtin; go_loud (refine wpList_append_row _ rfl _ _ 25 rfl base 27 i1 (.agg #[.int .i64 0, .string ⟨#[]⟩, .bool false, .slice none 0 0, .slice none 0 0, .int .i64 0]) 6 88 Tryz.underlying25 hi1 hy0 hy1 hy2 rfl (by decide) _ first.length fus rfl HO2.out _ 1 [.int .i64 k, .string (mkB t), .bool n, .slice lo0 r.length lc0, .slice ao l.length cv0, .int .i64 a] rfl HRV2.out H1.out (by unfold maxLen; omega) (by omega) (by simp; omega) ?_); go_loud (intro v5 w5 hown5 hgrow5 hmv5))
    have HJR := Lib.hid ((HR.out.move (Keeps.of_below HB2.out)).appended (HD.out.move (Keeps.of_below HB2.out)) hgrow5 hmv5)
    have HG := Lib.hid (grown_back hgrow5 HB2.out)
    have HMV := Lib.hid (hmv5.back (w := w) (by simp; omega))
    have HO5 := Lib.hid hown5
    clear hown5 hgrow5 hmv5 a0 a1 a2 a3 a4 a5
    go_wp2_with fail
    go_ret2
    refine ⟨v5, fus ++ [.int .i64 k, .string (mkB t), .bool n, .slice lo0 r.length lc0, .slice ao l.length cv0, .int .i64 a], by rw [HJ.out]; rfl, ?_, ?_, HMV.out, HG.out⟩
    · rw [HJ.out]
      show w5.ownsRow base _ 6 v5 (first ++ [_]).length _
      rw [List.length_append]
      exact HO5.out
    · rw [HJ.out]
      exact HJR.out
end Go.Proofs.YtpahfhjgcflifaaGreatDoor
namespace Go.Proofs.YtpahfhjgcflifaaGreatDoor
open Go.RowKit

theorem mkB_nil : mkB [] = ⟨#[]⟩ := rfl
/-- A list of these, where its row lies. -/
theorem lay_list {P : Nat → Prop} {w : World} {l : List Dm} {us : List Value} {av : Value} (k a : Int) (hrow : RowV w av l.length 6 us) (hap : InP P l.length av) (hin : DmRow P w l us) :
    LayP P w (.mk k [] false [] l a) [.int .i64 k, .string ⟨#[]⟩, .bool false, .slice none 0 0, av, .int .i64 a] :=
  .mk By.nil (by simp) (fun i => by simp [limb]) (Sl.nil _ _) (fun b h => absurd rfl h) hrow hap hin.each
/-- A symbol that is made. -/
theorem lay_sym {P : Nat → Prop} {w : World} {t : List Nat} (hby : By t) (hlt : t.length ≤ maxLen) (a : Int) : LayP P w (.mk 4 t false [] [] a) [.int .i64 4, .string (mkB t), .bool false, .slice none 0 0, .slice none 0 0, .int .i64 a] :=
  .mk (us := []) hby hlt (fun i => by simp [limb]) (Sl.nil _ _) (fun b h => absurd rfl h) ⟨rfl, by simp, none, 0, rfl, by simp, .inl ⟨rfl, fun _ => rfl⟩⟩ (fun b h => absurd rfl h) fun i hi => by simp at hi

set_option maxRecDepth 100000 in
set_option maxHeartbeats 4000000 in
theorem abbr_any (P : Nat → Prop) (x : Wd) (lo : Option Addr) (ln lc : Nat) (d : Dm) (us : List Value) (w : World) (hx : By x.txt ∧ x.txt.length ≤ maxLen) (hd : LayP P w d us) :
    Calls Tryz.prog 104 #[.agg (wdL x (.slice lo ln lc)).toArray, .agg us.toArray] w fun e w' => ∃ us', e = .returned (.agg us'.toArray) ∧ LayP (fun b => P b ∨ w.heap.size ≤ b) w' (abbA x d) us' ∧ Below w.heap.size w w' := by
  have HD := Lib.hid hd
  have HX := Lib.hid hx
  obtain ⟨k, t, n, r, l, a⟩ := d
  obtain ⟨lv, av, xs, rfl, hby, _, hlim, hr, hrp, hrow1, hap, hin1⟩ := hd.row
  obtain ⟨ao, cv0, rfl⟩ : ∃ o c, av = .slice o l.length c := by obtain ⟨_, _, o, c, h, _⟩ := hrow1; exact ⟨o, c, h⟩
  obtain ⟨lo0, lc0, rfl⟩ : ∃ o c, lv = .slice o r.length c := by obtain ⟨_, o, c, h, _⟩ := hr; exact ⟨o, c, h⟩
  clear hd hby hlim hr hrp hrow1 hap hin1 hx
  show Calls Tryz.prog 104 #[.agg #[.int .i64 (x.kind : Nat), .string (mkB x.txt), .int .i64 (x.d.k : Nat), .string (mkB x.d.t), .bool x.d.n, .slice lo ln lc, .slice none 0 0, .int .i64 (x.dat : Nat), .int .i64 (x.pl : Nat)], .agg #[.int .i64 k, .string (mkB t), .bool n, .slice lo0 r.length lc0, .slice ao l.length cv0, .int .i64 a]] w _
  go_enter Tryz.func104, Tryz.ntmps104
  go_wp2_with fail
  have hbf : Below w.heap.size w (((((w.alloc (.cells #[.int .i64 (x.kind : Nat), .string (mkB x.txt), .int .i64 (x.d.k : Nat), .string (mkB x.d.t), .bool x.d.n, .slice lo ln lc, .slice none 0 0, .int .i64 (x.dat : Nat), .int .i64 (x.pl : Nat)] 61)).alloc (.cells #[.int .i64 k, .string (mkB t), .bool n, .slice lo0 r.length lc0, .slice ao l.length cv0, .int .i64 a] 27)).alloc (.cells #[.int .i64 1, .string ⟨#[]⟩, .bool false, .slice none 0 0, .slice (some ⟨w.heap.size + 1 + 1 + 1 + 1, 0, none⟩) 2 2, .int .i64 (x.pl : Nat)] 27)).alloc (.cells #[.int .i64 4, .string (mkB x.txt), .bool false, .slice none 0 0, .slice none 0 0, .int .i64 (x.pl : Nat)] 27)).alloc (.cells #[.int .i64 4, .string (mkB x.txt), .bool false, .slice none 0 0, .slice none 0 0, .int .i64 (x.pl : Nat), .int .i64 k, .string (mkB t), .bool n, .slice lo0 r.length lc0, .slice ao l.length cv0, .int .i64 a] 27)) := ((below3 w _ _ _).alloc (by simp; omega) _).alloc (by simp; omega) _
  have hres : (((((w.alloc (.cells #[.int .i64 (x.kind : Nat), .string (mkB x.txt), .int .i64 (x.d.k : Nat), .string (mkB x.d.t), .bool x.d.n, .slice lo ln lc, .slice none 0 0, .int .i64 (x.dat : Nat), .int .i64 (x.pl : Nat)] 61)).alloc (.cells #[.int .i64 k, .string (mkB t), .bool n, .slice lo0 r.length lc0, .slice ao l.length cv0, .int .i64 a] 27)).alloc (.cells #[.int .i64 1, .string ⟨#[]⟩, .bool false, .slice none 0 0, .slice (some ⟨w.heap.size + 1 + 1 + 1 + 1, 0, none⟩) 2 2, .int .i64 (x.pl : Nat)] 27)).alloc (.cells #[.int .i64 4, .string (mkB x.txt), .bool false, .slice none 0 0, .slice none 0 0, .int .i64 (x.pl : Nat)] 27)).alloc (.cells #[.int .i64 4, .string (mkB x.txt), .bool false, .slice none 0 0, .slice none 0 0, .int .i64 (x.pl : Nat), .int .i64 k, .string (mkB t), .bool n, .slice lo0 r.length lc0, .slice ao l.length cv0, .int .i64 a] 27)).heap[w.heap.size + 1 + 1]? = some (.cells #[.int .i64 1, .string ⟨#[]⟩, .bool false, .slice none 0 0, .slice (some ⟨w.heap.size + 1 + 1 + 1 + 1, 0, none⟩) 2 2, .int .i64 (x.pl : Nat)] 27 (0, 0)) := by
    rw [Below.heap_alloc _ _ _ (by first | (simp; done) | (simp; omega)), Below.heap_alloc _ _ _ (by first | (simp; done) | (simp; omega))]
    have := heap_alloc_new ((w.alloc (.cells #[.int .i64 (x.kind : Nat), .string (mkB x.txt), .int .i64 (x.d.k : Nat), .string (mkB x.d.t), .bool x.d.n, .slice lo ln lc, .slice none 0 0, .int .i64 (x.dat : Nat), .int .i64 (x.pl : Nat)] 61)).alloc (.cells #[.int .i64 k, .string (mkB t), .bool n, .slice lo0 r.length lc0, .slice ao l.length cv0, .int .i64 a] 27)) (.cells #[.int .i64 1, .string ⟨#[]⟩, .bool false, .slice none 0 0, .slice (some ⟨w.heap.size + 1 + 1 + 1 + 1, 0, none⟩) 2 2, .int .i64 (x.pl : Nat)] 27)
    simpa using this
  have hrow : (((((w.alloc (.cells #[.int .i64 (x.kind : Nat), .string (mkB x.txt), .int .i64 (x.d.k : Nat), .string (mkB x.d.t), .bool x.d.n, .slice lo ln lc, .slice none 0 0, .int .i64 (x.dat : Nat), .int .i64 (x.pl : Nat)] 61)).alloc (.cells #[.int .i64 k, .string (mkB t), .bool n, .slice lo0 r.length lc0, .slice ao l.length cv0, .int .i64 a] 27)).alloc (.cells #[.int .i64 1, .string ⟨#[]⟩, .bool false, .slice none 0 0, .slice (some ⟨w.heap.size + 1 + 1 + 1 + 1, 0, none⟩) 2 2, .int .i64 (x.pl : Nat)] 27)).alloc (.cells #[.int .i64 4, .string (mkB x.txt), .bool false, .slice none 0 0, .slice none 0 0, .int .i64 (x.pl : Nat)] 27)).alloc (.cells #[.int .i64 4, .string (mkB x.txt), .bool false, .slice none 0 0, .slice none 0 0, .int .i64 (x.pl : Nat), .int .i64 k, .string (mkB t), .bool n, .slice lo0 r.length lc0, .slice ao l.length cv0, .int .i64 a] 27)).heap[w.heap.size + 1 + 1 + 1 + 1]? = some (.cells #[.int .i64 4, .string (mkB x.txt), .bool false, .slice none 0 0, .slice none 0 0, .int .i64 (x.pl : Nat), .int .i64 k, .string (mkB t), .bool n, .slice lo0 r.length lc0, .slice ao l.length cv0, .int .i64 a] 27 (0, 0)) := by
    have := heap_alloc_new ((((w.alloc (.cells #[.int .i64 (x.kind : Nat), .string (mkB x.txt), .int .i64 (x.d.k : Nat), .string (mkB x.d.t), .bool x.d.n, .slice lo ln lc, .slice none 0 0, .int .i64 (x.dat : Nat), .int .i64 (x.pl : Nat)] 61)).alloc (.cells #[.int .i64 k, .string (mkB t), .bool n, .slice lo0 r.length lc0, .slice ao l.length cv0, .int .i64 a] 27)).alloc (.cells #[.int .i64 1, .string ⟨#[]⟩, .bool false, .slice none 0 0, .slice (some ⟨w.heap.size + 1 + 1 + 1 + 1, 0, none⟩) 2 2, .int .i64 (x.pl : Nat)] 27)).alloc (.cells #[.int .i64 4, .string (mkB x.txt), .bool false, .slice none 0 0, .slice none 0 0, .int .i64 (x.pl : Nat)] 27)) (.cells #[.int .i64 4, .string (mkB x.txt), .bool false, .slice none 0 0, .slice none 0 0, .int .i64 (x.pl : Nat), .int .i64 k, .string (mkB t), .bool n, .slice lo0 r.length lc0, .slice ao l.length cv0, .int .i64 a] 27)
    simpa using this
  have hsz : w.heap.size + 1 + 1 + 1 + 1 < (((((w.alloc (.cells #[.int .i64 (x.kind : Nat), .string (mkB x.txt), .int .i64 (x.d.k : Nat), .string (mkB x.d.t), .bool x.d.n, .slice lo ln lc, .slice none 0 0, .int .i64 (x.dat : Nat), .int .i64 (x.pl : Nat)] 61)).alloc (.cells #[.int .i64 k, .string (mkB t), .bool n, .slice lo0 r.length lc0, .slice ao l.length cv0, .int .i64 a] 27)).alloc (.cells #[.int .i64 1, .string ⟨#[]⟩, .bool false, .slice none 0 0, .slice (some ⟨w.heap.size + 1 + 1 + 1 + 1, 0, none⟩) 2 2, .int .i64 (x.pl : Nat)] 27)).alloc (.cells #[.int .i64 4, .string (mkB x.txt), .bool false, .slice none 0 0, .slice none 0 0, .int .i64 (x.pl : Nat)] 27)).alloc (.cells #[.int .i64 4, .string (mkB x.txt), .bool false, .slice none 0 0, .slice none 0 0, .int .i64 (x.pl : Nat), .int .i64 k, .string (mkB t), .bool n, .slice lo0 r.length lc0, .slice ao l.length cv0, .int .i64 a] 27)).heap.size := by simp
  have hds := HD.out.move (Keeps.of_below hbf)
  generalize (((((w.alloc (.cells #[.int .i64 (x.kind : Nat), .string (mkB x.txt), .int .i64 (x.d.k : Nat), .string (mkB x.d.t), .bool x.d.n, .slice lo ln lc, .slice none 0 0, .int .i64 (x.dat : Nat), .int .i64 (x.pl : Nat)] 61)).alloc (.cells #[.int .i64 k, .string (mkB t), .bool n, .slice lo0 r.length lc0, .slice ao l.length cv0, .int .i64 a] 27)).alloc (.cells #[.int .i64 1, .string ⟨#[]⟩, .bool false, .slice none 0 0, .slice (some ⟨w.heap.size + 1 + 1 + 1 + 1, 0, none⟩) 2 2, .int .i64 (x.pl : Nat)] 27)).alloc (.cells #[.int .i64 4, .string (mkB x.txt), .bool false, .slice none 0 0, .slice none 0 0, .int .i64 (x.pl : Nat)] 27)).alloc (.cells #[.int .i64 4, .string (mkB x.txt), .bool false, .slice none 0 0, .slice none 0 0, .int .i64 (x.pl : Nat), .int .i64 k, .string (mkB t), .bool n, .slice lo0 r.length lc0, .slice ao l.length cv0, .int .i64 a] 27)) = W5 at *
  obtain ⟨d0, d1, d2, d3, d4, d5⟩ := row6 hres
  refine bodyPost_ret (v := .agg #[.int .i64 1, .string ⟨#[]⟩, .bool false, .slice none 0 0, .slice (some ⟨w.heap.size + 1 + 1 + 1 + 1, 0, none⟩) 2 2, .int .i64 (x.pl : Nat)]) (by simp [results, Tryz.results104, go_sem, d0, d1, d2, d3, d4, d5]) rfl ?_
  have hrv : RowV W5 (.slice (some ⟨w.heap.size + 1 + 1 + 1 + 1, 0, none⟩) 2 2) 2 6 [.int .i64 4, .string (mkB x.txt), .bool false, .slice none 0 0, .slice none 0 0, .int .i64 (x.pl : Nat), .int .i64 k, .string (mkB t), .bool n, .slice lo0 r.length lc0, .slice ao l.length cv0, .int .i64 a] := by
    refine ⟨rfl, by unfold maxLen; omega, some ⟨w.heap.size + 1 + 1 + 1 + 1, 0, none⟩, 2, rfl, Nat.le_refl _, .inr ⟨_, 0, rfl, hsz, fun j u hu => ?_⟩⟩
    rw [cell_of_row _ _ (0 + j) _ _ (0, 0) hrow, Nat.zero_add]
    simpa using hu
  refine ⟨_, rfl, ?_, hbf⟩
  unfold abbA
  refine lay_list (l := [.mk 4 x.txt false [] [] (x.pl : Nat), .mk k t n r l a]) 1 (x.pl : Nat) hrv (fun b _ hb => ?_) ?_
  · simp only [Value.ownBlock, Option.some.injEq] at hb
    omega
  · exact (DmRow.nil _ W5).snoc (lay_sym HX.out.1 HX.out.2 _) |>.snoc (hds.mono fun b _ hb => .inl hb)
end Go.Proofs.YtpahfhjgcflifaaGreatDoor
